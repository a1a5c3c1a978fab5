/- Shaken by bunq.py. -/
import Derived.Test.YtnmhdcbpbaanoaaGreatDoorBuq26
import Derived.Test.YtnmhdcbpbaanoaaGreatDoorBuq21
import Derived.Test.YtnmhdcbpbaanoaaGreatDoorBuq32
import Derived.Test.YtnmhdcbpbaanoaaGreatDoorBuq5
namespace Go.Proofs.YtnmhdcbpbaanoaaGreatDoor
open Go.RowKit Go.Shelf Go.Maps
attribute [local go_sem] Oper.semAt_some

def OneQ (ns : List ByteArray) (l : List UInt8) (w : World) (e : Ending) (w' : World) : Prop :=
  ∃ (x : RulX) (ok : Bool), e = .returned (.tuple #[rulV x, .bool ok]) ∧ (ok = true ↔ lineE ns l = .none) ∧ (ok = true → plX x = lineP ns l ∧ ItsC w' [x] ∧ (∀ k, (inQ x.1.2.1 k ∨ inQ x.2.1.2.1 k) → w.heap.size ≤ k ∧ k < w'.heap.size)) ∧ Below w.heap.size w w'
set_option maxRecDepth 100000 in
set_option maxHeartbeats 4000000 in
theorem refOneJ_any (s : ByteArray) (hs : s.size ≤ 1000) (on : Option Addr) (ns : List ByteArray) (ncap : Nat) (_hns : namesL ns) (hn : ns.length ≤ 1000) (hc : ns.length ≤ ncap) (hz : ∀ s ∈ ns, s.size ≤ 1000) (w : World) (hN : TxtAt w on ns) :
    Calls Tryz.prog 48 #[.string s, .slice on ns.length ncap] w (OneQ ns s.data.toList w) := by
  obtain ⟨P, hP⟩ : ∃ P, OneQ ns s.data.toList w = P := ⟨_, rfl⟩
  have HP := Lib.hid hP
  rw [hP]
  obtain ⟨w1, hw1⟩ : ∃ w1, w.alloc (.cells #[.bool false, .slice none 0 0, .bool false, .slice none 0 0, .bool false] 37) = w1 := ⟨_, rfl⟩
  have b1 : Below w.heap.size w w1 := by rw [← hw1]; exact (Below.refl _ _).alloc (Nat.le_refl _) _
  have z1 : w.heap.size < w1.heap.size := by rw [← hw1]; simp
  have r1 : w1.heap[w.heap.size]? = some (.cells #[.bool false, .slice none 0 0, .bool false, .slice none 0 0, .bool false] 37 (0, 0)) := by rw [← hw1]; exact heap_alloc_new _ _
  have hfol : Tryz.prog.follows .mixedOrders = true := by kernel_rfl
  have HTR := Lib.hid (fun (t : ByteArray) (ht : t.size ≤ 1000) W => rtrim_anyJ t (by omega) W)
  have HPA := Lib.hid (fun (t : ByteArray) (ht : t.size ≤ 1000) W (hb : Below w.heap.size w W) => refParseP_any t ht on ns ncap hn hc hz W (hN.below hb))
  obtain ⟨n, hnn⟩ : ∃ n, ns.length = n := ⟨_, rfl⟩
  rw [hnn] at HPA ⊢
  have HW1 := Lib.hid hw1
  have HB1 := Lib.hid b1
  have HR1 := Lib.hid r1
  clear hP hw1 b1 r1 hnn hn hc hz hN
  go_enter Tryz.func48, Tryz.ntmps48
  go_wp2_with fail
  rw [HW1.out]
  go_loopg [6] (s.size) (fun k v wr => ∃ (i : Nat), v = .int .i64 (i : Nat) ∧ i ≤ s.size ∧ k = s.size - i ∧ Hid (NoM s.data.toList i) ∧ w1 = wr)
  case atStart => exact ⟨0, rfl, Nat.zero_le _, rfl, Lib.hid (NoM.zero _), rfl⟩
  case round =>
    obtain ⟨i, rfl, hi, rfl, HNM, rfl⟩ := hrel
    rcases Nat.lt_or_ge i s.size with hlt | hge
    · have d1 : decide (((i : Nat) : Int) < ((s.size : Nat) : Int)) = true := decide_eq_true (by omega)
      obtain ⟨d, hd⟩ : ∃ d, (s[i]'hlt).toNat = d := ⟨_, rfl⟩
      have hbl : s.data.toList[i]? = some (s[i]'hlt) := List.getElem?_eq_getElem (by simpa using hlt)
      have him : i < 1000000 := by omega
      by_cases hm : d = 43 ∨ d = 47
      · have hmb : (s[i]'hlt) = 43 ∨ (s[i]'hlt) = 47 := hm.imp (fun h => UInt8.toNat_inj.1 (by rw [hd, h]; rfl)) (fun h => UInt8.toNat_inj.1 (by rw [hd, h]; rfl))
        have HSD : Hid (sidesT s.data.toList = (trimL (s.data.toList.take i), trimL (s.data.toList.drop (i + 1)), ((d : Nat) : Int))) := Lib.hid (by rw [← hd]; exact sidesT_at HNM.out hbl hmb)
        obtain ⟨A, hA⟩ : ∃ A, s.extract 0 i = A := ⟨_, rfl⟩
        obtain ⟨B, hB⟩ : ∃ B, s.extract (i + 1) s.size = B := ⟨_, rfl⟩
        have hAd : A.data.toList = s.data.toList.take i := by rw [← hA, Lib.extract_data]; simp
        have hBd : B.data.toList = s.data.toList.drop (i + 1) := by rw [← hB, Lib.extract_data]; apply List.take_of_length_le; rw [List.length_drop]; exact Nat.le_of_eq (by rw [show s.data.toList.length = s.size from Array.length_toList])
        have hAz : A.size ≤ 1000 := by rw [← hA, ByteArray.size_extract]; omega
        have hBz : B.size ≤ 1000 := by rw [← hB, ByteArray.size_extract]; omega
        have KA := Lib.hid (HTR.out A hAz)
        have KB := Lib.hid (HTR.out B hBz)
        obtain ⟨TA, hTA⟩ : ∃ T : ByteArray, (⟨(trimL A.data.toList).toArray⟩ : ByteArray) = T := ⟨_, rfl⟩
        obtain ⟨TB, hTB⟩ : ∃ T : ByteArray, (⟨(trimL B.data.toList).toArray⟩ : ByteArray) = T := ⟨_, rfl⟩
        have hTAd : TA.data.toList = trimL A.data.toList := by rw [← hTA]
        have hTBd : TB.data.toList = trimL B.data.toList := by rw [← hTB]
        have hTAz : TA.size ≤ 1000 := by
          have h := trimL_leJ A.data.toList
          rw [← hTAd, show TA.data.toList.length = TA.size from Array.length_toList, show A.data.toList.length = A.size from Array.length_toList] at h
          omega
        have hTBz : TB.size ≤ 1000 := by
          have h := trimL_leJ B.data.toList
          rw [← hTBd, show TB.data.toList.length = TB.size from Array.length_toList, show B.data.toList.length = B.size from Array.length_toList] at h
          omega
        rw [show strV (trimL A.data.toList) = .string TA from congrArg Value.string hTA] at KA
        rw [show strV (trimL B.data.toList) = .string TB from congrArg Value.string hTB] at KB
        rw [hAd] at hTAd
        rw [hBd] at hTBd
        rw [← hTAd, ← hTBd] at HSD
        have PA := Lib.hid (HPA.out TA hTAz)
        have PB := Lib.hid (HPA.out TB hTBz)
        unfold ParseR at PA PB
        have HLE : Hid (lineE ns s.data.toList = ruleE ns TA.data.toList TB.data.toList ∧ lineP ns s.data.toList = (parsePV ns TA.data.toList, parsePV ns TB.data.toList, decide (d = 47))) := Lib.hid (by
          unfold lineE lineP
          rw [HSD.out]
          refine ⟨by rw [if_neg (by simp only; omega)], by simp only; rw [show decide (((d : Nat) : Int) = 47) = decide (d = 47) from decide_eq_decide.2 (by omega)]⟩)
        unfold ruleE at HLE
        obtain ⟨⟨s1, xs1⟩, hv1⟩ : ∃ q, parsePV ns TA.data.toList = q := ⟨_, rfl⟩
        obtain ⟨⟨s2, xs2⟩, hv2⟩ : ∃ q, parsePV ns TB.data.toList = q := ⟨_, rfl⟩
        obtain ⟨e1, he1⟩ : ∃ q, parsePE ns TA.data.toList = q := ⟨_, rfl⟩
        obtain ⟨e2, he2⟩ : ∃ q, parsePE ns TB.data.toList = q := ⟨_, rfl⟩
        rw [hv1, hv2, he1, he2] at HLE
        rw [hv1, he1] at PA
        rw [hv2, he2] at PB
        simp only at PA PB HLE
        obtain ⟨m1, hm1⟩ : ∃ q, xs1.length = q := ⟨_, rfl⟩
        obtain ⟨m2, hm2⟩ : ∃ q, xs2.length = q := ⟨_, rfl⟩
        have HM1 := Lib.hid hm1
        have HM2 := Lib.hid hm2
        rw [hm1] at PA
        rw [hm2] at PB
        clear hmb hAd hBd hAz hBz hTA hTB hTAd hTBd hTAz hTBz HSD hv1 hv2 he1 he2 hm1 hm2 hbl HTR HPA HNM
        have hdm : (s[i]'hlt).toNat = 43 ∨ (s[i]'hlt).toNat = 47 := by rw [hd]; exact hm
        rcases hm with rfl | rfl
        · clear hdm
          go_wp2_with fail
          refine (KA.out _).mono ?_
          rintro e _ ⟨rfl, rfl⟩
          go_wp2_with fail
          refine (PA.out _ HB1.out).mono ?_
          rintro e w2 ⟨o1, c1, rfl, a1, l1, k1, b2⟩
          obtain ⟨w3, hw3⟩ : ∃ w3, w2.alloc (patO s1 o1 m1 c1) = w3 := ⟨_, rfl⟩
          have b3 : Below w2.heap.size w2 w3 := by rw [← hw3]; exact (Below.refl _ _).alloc (Nat.le_refl _) _
          have R3 : w3.heap[w2.heap.size]? = some (patO s1 o1 m1 c1) := by rw [← hw3]; exact heap_alloc_new _ _
          have HB3 := Lib.hid (HB1.out.trans ((b2.trans (b3.mono b2.size)).mono HB1.out.size))
          have HA3 := Lib.hid (a1.below b3)
          have HRR3 := Lib.hid (row_below (row_below HR1.out b2) b3)
          have HR3 := Lib.hid R3
          have HW3 := Lib.hid hw3
          have HK1 : Hid (∀ k, inQ o1 k → w.heap.size < k ∧ k < w3.heap.size) := Lib.hid fun k hk => by have h1 := k1 k hk; have h2 := b3.size; have h3 := HB1.out.size; have h4 := z1; omega
          have HL1 := Lib.hid l1
          have HS3 : Hid (w1.heap.size ≤ w2.heap.size ∧ w2.heap.size < w3.heap.size) := Lib.hid ⟨b2.size, (Array.getElem?_eq_some_iff.1 R3).1⟩
          clear a1 l1 k1 b2 b3 R3 hw3
          go_wp2_with fail
          rw [HW3.out]
          refine (KB.out _).mono ?_
          rintro e _ ⟨rfl, rfl⟩
          go_wp2_with fail
          refine (PB.out _ HB3.out).mono ?_
          rintro e w4 ⟨o2, c2, rfl, a2, l2, k2, b4⟩
          obtain ⟨w5, hw5⟩ : ∃ w5, w4.alloc (patO s2 o2 m2 c2) = w5 := ⟨_, rfl⟩
          have b5 : Below w4.heap.size w4 w5 := by rw [← hw5]; exact (Below.refl _ _).alloc (Nat.le_refl _) _
          have R5 : w5.heap[w4.heap.size]? = some (patO s2 o2 m2 c2) := by rw [← hw5]; exact heap_alloc_new _ _
          have b45 := b4.trans (b5.mono b4.size)
          have bd : Below w5.heap.size w5 w5.drew := (Below.refl _ _).drew
          have HB5 := Lib.hid (HB3.out.trans (b45.mono HB3.out.size))
          have HA5 := Lib.hid (HA3.out.below b45)
          have HC5 := Lib.hid (a2.below b5)
          have HK2 : Hid (∀ k, inQ o2 k → w.heap.size < k ∧ k < w5.heap.size) := Lib.hid fun k hk => by have h1 := k2 k hk; have h2 := b5.size; have h3 := HB3.out.size; have h4 := HS3.out; omega
          have HK1' : Hid (∀ k, inQ o1 k → w.heap.size < k ∧ k < w5.heap.size) := Lib.hid fun k hk => by have h1 := HK1.out k hk; have h2 := b45.size; omega
          have HL2 := Lib.hid l2
          have RR5 := row_below HRR3.out b45
          have r350 := row_below HR3.out b45
          have r35 := row_below r350 bd
          have r55 := row_below R5 bd
          obtain ⟨t0, t1⟩ := pat_cells r35
          obtain ⟨u0, u1⟩ := pat_cells r55
          obtain ⟨v0, v1, v2, v3, v4⟩ := five_cells RR5
          have fz : ∀ i, w5.frozen? ⟨w.heap.size, i, none⟩ = false := fun i => frozen_of_row w5 w.heap.size i _ _ RR5
          have f0 := fz 0
          have f1 := fz 1
          have f2 := fz 2
          have f3 := fz 3
          have f4 := fz 4
          have lz : w.heap.size < w5.heap.size := by have := (Array.getElem?_eq_some_iff.1 RR5).1; exact this
          have nz2 : w.heap.size < w2.heap.size := by have h1 := HS3.out; omega
          have nz4 : w.heap.size < w4.heap.size := by have h1 := HS3.out; have h2 := b4.size; omega
          have lz2 : w2.heap.size < w5.heap.size := by have := (Array.getElem?_eq_some_iff.1 r35).1; exact this
          have lz4 : w4.heap.size < w5.heap.size := by have := (Array.getElem?_eq_some_iff.1 r55).1; exact this
          have h70 := five_setJ (.bool s1) (.slice o1 m1 c1) (.bool s2) (.slice o2 m2 c2) (.bool false) RR5
          obtain ⟨w6, hw6⟩ : ∃ w6, (((((w5.setCell ⟨w.heap.size, 0, none⟩ (.bool s1)).setCell ⟨w.heap.size, 1, none⟩ (.slice o1 m1 c1)).setCell ⟨w.heap.size, 2, none⟩ (.bool s2)).setCell ⟨w.heap.size, 3, none⟩ (.slice o2 m2 c2)).setCell ⟨w.heap.size, 4, none⟩ (.bool false)) = w6 := ⟨_, rfl⟩
          rw [hw6] at h70
          obtain ⟨w7, hw7⟩ : ∃ w7, w6.drew = w7 := ⟨_, rfl⟩
          have h7 : w7.heap[w.heap.size]? = some (.cells #[.bool s1, .slice o1 m1 c1, .bool s2, .slice o2 m2 c2, .bool false] 37 (0, 0)) ∧ Moves (fun k => k = w.heap.size) w5 w7 := by
            rw [← hw7]
            exact ⟨h70.1, h70.2.trans (Moves.of_below ((Below.refl w6.heap.size w6).drew))⟩
          rw [← hw6] at hw7
          have HS7 : Hid (w7.cell? ⟨w2.heap.size, 0, none⟩ = some (.bool s1) ∧ w7.cell? ⟨w2.heap.size, 1, none⟩ = some (.slice o1 m1 c1) ∧ w7.cell? ⟨w4.heap.size, 0, none⟩ = some (.bool s2) ∧ w7.cell? ⟨w4.heap.size, 1, none⟩ = some (.slice o2 m2 c2)) := Lib.hid (by
            obtain ⟨y0, y1⟩ := pat_cells (row_keep r350 h7.2 (fun h => by omega))
            obtain ⟨y2, y3⟩ := pat_cells (row_keep R5 h7.2 (fun h => by omega))
            exact ⟨y0, y1, y2, y3⟩)
          have HD0 := And.intro t0 (And.intro t1 (And.intro u0 u1))
          have HR7 := Lib.hid h7.1
          have HW7 := Lib.hid hw7
          have HQ : Hid (∀ ok : Bool, (ok = true ↔ (e1 = 0 ∧ e2 = 0 ∧ s2 = false)) → P (.returned (.tuple #[.agg #[.bool s1, .slice o1 m1 c1, .bool s2, .slice o2 m2 c2, .bool false], .bool ok])) w7) := Lib.hid fun ok hok => by
            rw [← HP.out]
            have hle : ok = true ↔ lineE ns s.data.toList = .none := by
              rw [hok, HLE.out.1]
              constructor
              · rintro ⟨h1, h2, h3⟩
                rw [if_neg (by rw [h1, h2, h3]; simp)]
              · intro h
                split at h
                · cases h
                · rename_i h4
                  simp only [not_or, Decidable.not_not] at h4
                  exact ⟨h4.1, h4.2.1, by simpa using h4.2.2⟩
            refine ⟨((s1, o1, xs1, c1), (s2, o2, xs2, c2), false), ok, by rw [← HM1.out, ← HM2.out], hle, fun _ => ⟨by rw [HLE.out.2]; rfl, ?_, fun k hk => ?_⟩, Moves.below HB5.out HB5.out.size h7.2 (fun k hk => by omega)⟩
            · intro x hx
              rw [List.mem_singleton.1 hx]
              exact ⟨⟨cell_movesP (n := w.heap.size + 1) HA5.out (fun k hk => HK1'.out k hk) h7.2 (fun k hk => by omega), by rw [HM1.out]; exact HL1.out⟩, cell_movesP (n := w.heap.size + 1) HC5.out (fun k hk => HK2.out k hk) h7.2 (fun k hk => by omega), by rw [HM2.out]; exact HL2.out⟩
            · have h9 : w5.heap.size ≤ w7.heap.size := h7.2.size
              rcases hk with hk | hk
              · have := HK1'.out k hk
                omega
              · have := HK2.out k hk
                omega
          have hW5 := Lib.hid hw5
          clear a2 l2 k2 b4 b5 b45 bd R5 RR5 r35 r350 r55 fz h7 h70 hw6 hw7 hw5 HLE HA3 HRR3 HR3 HK1 HS3 HL1 HL2 HK2 HK1' HA5 HC5 HM1 HM2 HB3 HW3 KA KB PA PB
          go_wp2_with fail
          rw [hW5.out]
          by_cases q1 : e1 = 0
          · subst q1
            by_cases q2 : e2 = 0
            · subst q2
              cases s2 with
              | true =>
                have HQ2 := Lib.hid (HQ.out false (by simp))
                clear HQ
                refine wp_region_held_drew (S := (fun W => W.cell? ⟨w2.heap.size, 0, none⟩ = some (.bool s1) ∧ W.cell? ⟨w2.heap.size, 1, none⟩ = some (.slice o1 m1 c1) ∧ W.cell? ⟨w4.heap.size, 0, none⟩ = some (.bool true) ∧ W.cell? ⟨w4.heap.size, 1, none⟩ = some (.slice o2 m2 c2))) (by kernel_rfl) HD0 (fun hHeld => ?_)
                refine wpT (i := 0) (v := ?_) rfl (Or.inl ⟨by rfl, ?_⟩) hHeld ?_
                rotate_left 1
                · (intro w' hSw; (try dsimp only at hSw); first | (go_simp; done) | (go_simp; with_reducible rfl))
                change wpAnyH _ _ _ _ _ _ _ (Act.put _ (some 46) _) _
                simp only [Act.put, lsA, lsB, lsC]
                refine wpT (i := 1) (v := ?_) rfl (Or.inl ⟨by rfl, ?_⟩) hHeld ?_
                rotate_left 1
                · (intro w' hSw; (try dsimp only at hSw); first | (go_simp; done) | (go_simp; with_reducible rfl))
                change wpAnyH _ _ _ _ _ _ _ (Act.put _ (some 47) _) _
                simp only [Act.put, lsA, lsB, lsC]
                refine wpT (i := 2) (v := ?_) rfl (Or.inl ⟨by rfl, ?_⟩) hHeld ?_
                rotate_left 1
                · (intro w' hSw; (try dsimp only at hSw); first | (go_simp; done) | (go_simp; with_reducible rfl))
                change wpAnyH _ _ _ _ _ _ _ (Act.put _ (some 48) _) _
                simp only [Act.put, lsA, lsB, lsC]
                refine wpT (i := 3) (v := ?_) rfl (Or.inl ⟨by rfl, ?_⟩) hHeld ?_
                rotate_left 1
                · (intro w' hSw; (try dsimp only at hSw); first | (go_simp; done) | (go_simp; with_reducible rfl))
                change wpAnyH _ _ _ _ _ _ _ (Act.put _ (some 49) _) _
                simp only [Act.put, lsA, lsB, lsC]
                refine wpT (i := 4) (v := ?_) rfl (Or.inl ⟨by rfl, ?_⟩) hHeld ?_
                rotate_left 1
                · (intro w' hSw; (try dsimp only at hSw); first | (go_simp; done) | (go_simp; with_reducible rfl))
                change wpAnyH _ _ _ _ _ _ _ (Act.put _ (some 50) _) _
                simp only [Act.put, lsA, lsB, lsC]
                refine wpT (i := 5) (v := ?_) rfl (Or.inl ⟨by rfl, ?_⟩) hHeld ?_
                rotate_left 1
                · (intro w' hSw; (try dsimp only at hSw); first | (go_simp; done) | (go_simp; with_reducible rfl))
                change wpAnyH _ _ _ _ _ _ _ (Act.put _ (some 51) _) _
                simp only [Act.put, lsA, lsB, lsC]
                refine wpT (i := 6) (v := ?_) rfl (Or.inl ⟨by rfl, ?_⟩) hHeld ?_
                rotate_left 1
                · (intro w' hSw; (try dsimp only at hSw); first | (go_simp; done) | (go_simp; with_reducible rfl))
                change wpAnyH _ _ _ _ _ _ _ (Act.put _ (some 52) _) _
                simp only [Act.put, lsA, lsB, lsC]
                refine wpT (i := 7) (v := ?_) rfl (Or.inl ⟨by rfl, ?_⟩) hHeld ?_
                rotate_left 1
                · (intro w' hSw; (try dsimp only at hSw); first | (go_simp; done) | (go_simp; with_reducible rfl))
                change wpAnyH _ _ _ _ _ _ _ (Act.put _ (some 53) _) _
                simp only [Act.put, lsA, lsB, lsC]
                refine wpT (i := 8) (v := ?_) rfl (Or.inl ⟨by rfl, ?_⟩) hHeld ?_
                rotate_left 1
                · (intro w' hSw; (try dsimp only at hSw); first | (go_simp; done) | (go_simp; with_reducible rfl))
                change wpAnyH _ _ _ _ _ _ _ (Act.put _ (some 54) _) _
                simp only [Act.put, lsA, lsB, lsC]
                refine wpT (i := 9) (v := ?_) rfl (Or.inl ⟨by rfl, ?_⟩) hHeld ?_
                rotate_left 1
                · (intro w' hSw; (try dsimp only at hSw); first | (go_simp; done) | (go_simp; with_reducible rfl))
                change wpAnyH _ _ _ _ _ _ _ (Act.put _ (some 55) _) _
                simp only [Act.put, lsA, lsB, lsC]
                refine wpT (i := 10) (v := ?_) rfl (Or.inl ⟨by rfl, ?_⟩) hHeld ?_
                rotate_left 1
                · (intro w' hSw; (try dsimp only at hSw); first | (go_simp; done) | (go_simp; with_reducible rfl))
                change wpAnyH _ _ _ _ _ _ _ (Act.put _ (some 56) _) _
                simp only [Act.put, lsA, lsB, lsC]
                refine wpT (i := 11) (v := ?_) rfl (Or.inl ⟨by rfl, ?_⟩) hHeld ?_
                rotate_left 1
                · (intro w' hSw; (try dsimp only at hSw); first | (go_simp; done) | (go_simp; with_reducible rfl))
                change wpAnyH _ _ _ _ _ _ _ (Act.put _ (some 57) _) _
                simp only [Act.put, lsA, lsB, lsC]
                refine wpT (i := 12) (v := ?_) rfl (Or.inl ⟨by rfl, ?_⟩) hHeld ?_
                rotate_left 1
                · (intro w' hSw; (try dsimp only at hSw); first | (go_simp; done) | (go_simp; with_reducible rfl))
                change wpAnyH _ _ _ _ _ _ _ (Act.put _ (some 58) _) _
                simp only [Act.put, lsA, lsB, lsC]
                refine wpT (i := 13) (v := ?_) rfl (Or.inl ⟨by rfl, ?_⟩) hHeld ?_
                rotate_left 1
                · (intro w' hSw; (try dsimp only at hSw); first | (go_simp; done) | (go_simp; with_reducible rfl))
                change wpAnyH _ _ _ _ _ _ _ (Act.put _ (some 59) _) _
                simp only [Act.put, lsA, lsB, lsC]
                refine wpT (i := 14) (v := ?_) rfl (Or.inl ⟨by rfl, ?_⟩) hHeld ?_
                rotate_left 1
                · (intro w' hSw; (try dsimp only at hSw); first | (go_simp; done) | (go_simp; with_reducible rfl))
                change wpAnyH _ _ _ _ _ _ _ (Act.put _ (some 60) _) _
                simp only [Act.put, lsA, lsB, lsC]
                refine wpT (i := 15) (v := ?_) rfl (Or.inl ⟨by rfl, ?_⟩) hHeld ?_
                rotate_left 1
                · (intro w' hSw; (try dsimp only at hSw); first | (go_simp; done) | (go_simp; with_reducible rfl))
                change wpAnyH _ _ _ _ _ _ _ (Act.put _ (some 61) _) _
                simp only [Act.put, lsA, lsB, lsC]
                refine wpT (i := 16) (v := ?_) rfl (Or.inl ⟨by rfl, ?_⟩) hHeld ?_
                rotate_left 1
                · (intro w' hSw; (try dsimp only at hSw); first | (go_simp; done) | (go_simp; with_reducible rfl))
                change wpAnyH _ _ _ _ _ _ _ (Act.put _ (some 62) _) _
                simp only [Act.put, lsA, lsB, lsC]
                refine wpT (i := 17) (v := ?_) rfl (Or.inl ⟨by rfl, ?_⟩) hHeld ?_
                rotate_left 1
                · (intro w' hSw; (try dsimp only at hSw); first | (go_simp; done) | (go_simp; with_reducible rfl))
                change wpAnyH _ _ _ _ _ _ _ (Act.put _ (some 63) _) _
                simp only [Act.put, lsA, lsB, lsC]
                refine wpAnyH_ready (rs := [18]) (by kernel_rfl) (by simp) ?_
                refine AllReadyH.cons rfl (fun K hK => ?_) AllReadyH.nil
                go_simp
                try go_wp2_with fail
                rw [HW7.out]
                refine hK.out _ _ HS7.out (fun hHeld => ?_)
                clear hK K
                try simp only [Act.put, lsA, lsB, lsC]
                refine wpT (i := 19) (v := ?_) rfl (Or.inl ⟨by rfl, ?_⟩) hHeld ?_
                rotate_left 1
                · (intro w' hSw; (try dsimp only at hSw); first | (go_simp; done) | (go_simp; with_reducible rfl))
                change wpAnyH _ _ _ _ _ _ _ (Act.put _ (some 5) _) _
                simp only [Act.put, lsA, lsB, lsC]
                refine wpAnyH_done (by kernel_rfl) ?_ _
                try go_simp
                try go_wp2_with fail
                exact bodyPost_ret (v := .tuple #[.agg #[.bool s1, .slice o1 m1 c1, .bool true, .slice o2 m2 c2, .bool false], .bool false]) (results_cell_tmp rfl _ _ w.heap.size _ _ _ _ _ rfl rfl HR7.out Tryz.underlying37 rfl (by kernel_rfl)) rfl HQ2.out
              | false =>
                have HQ2 := Lib.hid (HQ.out true (by simp))
                clear HQ
                refine wp_region_held_drew (S := (fun W => W.cell? ⟨w2.heap.size, 0, none⟩ = some (.bool s1) ∧ W.cell? ⟨w2.heap.size, 1, none⟩ = some (.slice o1 m1 c1) ∧ W.cell? ⟨w4.heap.size, 0, none⟩ = some (.bool false) ∧ W.cell? ⟨w4.heap.size, 1, none⟩ = some (.slice o2 m2 c2))) (by kernel_rfl) HD0 (fun hHeld => ?_)
                refine wpT (i := 0) (v := ?_) rfl (Or.inl ⟨by rfl, ?_⟩) hHeld ?_
                rotate_left 1
                · (intro w' hSw; (try dsimp only at hSw); first | (go_simp; done) | (go_simp; with_reducible rfl))
                change wpAnyH _ _ _ _ _ _ _ (Act.put _ (some 46) _) _
                simp only [Act.put, lsA, lsB, lsC]
                refine wpT (i := 1) (v := ?_) rfl (Or.inl ⟨by rfl, ?_⟩) hHeld ?_
                rotate_left 1
                · (intro w' hSw; (try dsimp only at hSw); first | (go_simp; done) | (go_simp; with_reducible rfl))
                change wpAnyH _ _ _ _ _ _ _ (Act.put _ (some 47) _) _
                simp only [Act.put, lsA, lsB, lsC]
                refine wpT (i := 2) (v := ?_) rfl (Or.inl ⟨by rfl, ?_⟩) hHeld ?_
                rotate_left 1
                · (intro w' hSw; (try dsimp only at hSw); first | (go_simp; done) | (go_simp; with_reducible rfl))
                change wpAnyH _ _ _ _ _ _ _ (Act.put _ (some 48) _) _
                simp only [Act.put, lsA, lsB, lsC]
                refine wpT (i := 3) (v := ?_) rfl (Or.inl ⟨by rfl, ?_⟩) hHeld ?_
                rotate_left 1
                · (intro w' hSw; (try dsimp only at hSw); first | (go_simp; done) | (go_simp; with_reducible rfl))
                change wpAnyH _ _ _ _ _ _ _ (Act.put _ (some 49) _) _
                simp only [Act.put, lsA, lsB, lsC]
                refine wpT (i := 4) (v := ?_) rfl (Or.inl ⟨by rfl, ?_⟩) hHeld ?_
                rotate_left 1
                · (intro w' hSw; (try dsimp only at hSw); first | (go_simp; done) | (go_simp; with_reducible rfl))
                change wpAnyH _ _ _ _ _ _ _ (Act.put _ (some 50) _) _
                simp only [Act.put, lsA, lsB, lsC]
                refine wpT (i := 5) (v := ?_) rfl (Or.inl ⟨by rfl, ?_⟩) hHeld ?_
                rotate_left 1
                · (intro w' hSw; (try dsimp only at hSw); first | (go_simp; done) | (go_simp; with_reducible rfl))
                change wpAnyH _ _ _ _ _ _ _ (Act.put _ (some 51) _) _
                simp only [Act.put, lsA, lsB, lsC]
                refine wpT (i := 6) (v := ?_) rfl (Or.inl ⟨by rfl, ?_⟩) hHeld ?_
                rotate_left 1
                · (intro w' hSw; (try dsimp only at hSw); first | (go_simp; done) | (go_simp; with_reducible rfl))
                change wpAnyH _ _ _ _ _ _ _ (Act.put _ (some 52) _) _
                simp only [Act.put, lsA, lsB, lsC]
                refine wpT (i := 7) (v := ?_) rfl (Or.inl ⟨by rfl, ?_⟩) hHeld ?_
                rotate_left 1
                · (intro w' hSw; (try dsimp only at hSw); first | (go_simp; done) | (go_simp; with_reducible rfl))
                change wpAnyH _ _ _ _ _ _ _ (Act.put _ (some 53) _) _
                simp only [Act.put, lsA, lsB, lsC]
                refine wpT (i := 8) (v := ?_) rfl (Or.inl ⟨by rfl, ?_⟩) hHeld ?_
                rotate_left 1
                · (intro w' hSw; (try dsimp only at hSw); first | (go_simp; done) | (go_simp; with_reducible rfl))
                change wpAnyH _ _ _ _ _ _ _ (Act.put _ (some 54) _) _
                simp only [Act.put, lsA, lsB, lsC]
                refine wpT (i := 9) (v := ?_) rfl (Or.inl ⟨by rfl, ?_⟩) hHeld ?_
                rotate_left 1
                · (intro w' hSw; (try dsimp only at hSw); first | (go_simp; done) | (go_simp; with_reducible rfl))
                change wpAnyH _ _ _ _ _ _ _ (Act.put _ (some 55) _) _
                simp only [Act.put, lsA, lsB, lsC]
                refine wpT (i := 10) (v := ?_) rfl (Or.inl ⟨by rfl, ?_⟩) hHeld ?_
                rotate_left 1
                · (intro w' hSw; (try dsimp only at hSw); first | (go_simp; done) | (go_simp; with_reducible rfl))
                change wpAnyH _ _ _ _ _ _ _ (Act.put _ (some 56) _) _
                simp only [Act.put, lsA, lsB, lsC]
                refine wpT (i := 11) (v := ?_) rfl (Or.inl ⟨by rfl, ?_⟩) hHeld ?_
                rotate_left 1
                · (intro w' hSw; (try dsimp only at hSw); first | (go_simp; done) | (go_simp; with_reducible rfl))
                change wpAnyH _ _ _ _ _ _ _ (Act.put _ (some 57) _) _
                simp only [Act.put, lsA, lsB, lsC]
                refine wpT (i := 12) (v := ?_) rfl (Or.inl ⟨by rfl, ?_⟩) hHeld ?_
                rotate_left 1
                · (intro w' hSw; (try dsimp only at hSw); first | (go_simp; done) | (go_simp; with_reducible rfl))
                change wpAnyH _ _ _ _ _ _ _ (Act.put _ (some 58) _) _
                simp only [Act.put, lsA, lsB, lsC]
                refine wpT (i := 13) (v := ?_) rfl (Or.inl ⟨by rfl, ?_⟩) hHeld ?_
                rotate_left 1
                · (intro w' hSw; (try dsimp only at hSw); first | (go_simp; done) | (go_simp; with_reducible rfl))
                change wpAnyH _ _ _ _ _ _ _ (Act.put _ (some 59) _) _
                simp only [Act.put, lsA, lsB, lsC]
                refine wpT (i := 14) (v := ?_) rfl (Or.inl ⟨by rfl, ?_⟩) hHeld ?_
                rotate_left 1
                · (intro w' hSw; (try dsimp only at hSw); first | (go_simp; done) | (go_simp; with_reducible rfl))
                change wpAnyH _ _ _ _ _ _ _ (Act.put _ (some 60) _) _
                simp only [Act.put, lsA, lsB, lsC]
                refine wpT (i := 15) (v := ?_) rfl (Or.inl ⟨by rfl, ?_⟩) hHeld ?_
                rotate_left 1
                · (intro w' hSw; (try dsimp only at hSw); first | (go_simp; done) | (go_simp; with_reducible rfl))
                change wpAnyH _ _ _ _ _ _ _ (Act.put _ (some 61) _) _
                simp only [Act.put, lsA, lsB, lsC]
                refine wpT (i := 16) (v := ?_) rfl (Or.inl ⟨by rfl, ?_⟩) hHeld ?_
                rotate_left 1
                · (intro w' hSw; (try dsimp only at hSw); first | (go_simp; done) | (go_simp; with_reducible rfl))
                change wpAnyH _ _ _ _ _ _ _ (Act.put _ (some 62) _) _
                simp only [Act.put, lsA, lsB, lsC]
                refine wpT (i := 17) (v := ?_) rfl (Or.inl ⟨by rfl, ?_⟩) hHeld ?_
                rotate_left 1
                · (intro w' hSw; (try dsimp only at hSw); first | (go_simp; done) | (go_simp; with_reducible rfl))
                change wpAnyH _ _ _ _ _ _ _ (Act.put _ (some 63) _) _
                simp only [Act.put, lsA, lsB, lsC]
                refine wpAnyH_ready (rs := [18]) (by kernel_rfl) (by simp) ?_
                refine AllReadyH.cons rfl (fun K hK => ?_) AllReadyH.nil
                go_simp
                try go_wp2_with fail
                rw [HW7.out]
                refine hK.out _ _ HS7.out (fun hHeld => ?_)
                clear hK K
                try simp only [Act.put, lsA, lsB, lsC]
                refine wpT (i := 19) (v := ?_) rfl (Or.inl ⟨by rfl, ?_⟩) hHeld ?_
                rotate_left 1
                · (intro w' hSw; (try dsimp only at hSw); first | (go_simp; done) | (go_simp; with_reducible rfl))
                change wpAnyH _ _ _ _ _ _ _ (Act.put _ (some 5) _) _
                simp only [Act.put, lsA, lsB, lsC]
                refine wpAnyH_done (by kernel_rfl) ?_ _
                try go_simp
                try go_wp2_with fail
                exact bodyPost_ret (v := .tuple #[.agg #[.bool s1, .slice o1 m1 c1, .bool false, .slice o2 m2 c2, .bool false], .bool true]) (results_cell_tmp rfl _ _ w.heap.size _ _ _ _ _ rfl rfl HR7.out Tryz.underlying37 rfl (by kernel_rfl)) rfl HQ2.out
            · have HQ2 := Lib.hid (HQ.out false (by simp [q2]))
              have d4 : (e2 == 0) = false := beq_eq_false_iff_ne.2 q2
              clear HQ q2
              refine wp_region_held_drew (S := (fun W => W.cell? ⟨w2.heap.size, 0, none⟩ = some (.bool s1) ∧ W.cell? ⟨w2.heap.size, 1, none⟩ = some (.slice o1 m1 c1) ∧ W.cell? ⟨w4.heap.size, 0, none⟩ = some (.bool s2) ∧ W.cell? ⟨w4.heap.size, 1, none⟩ = some (.slice o2 m2 c2))) (by kernel_rfl) HD0 (fun hHeld => ?_)
              refine wpT (i := 0) (v := ?_) rfl (Or.inl ⟨by rfl, ?_⟩) hHeld ?_
              rotate_left 1
              · (intro w' hSw; (try dsimp only at hSw); first | (go_simp; done) | (go_simp; with_reducible rfl))
              change wpAnyH _ _ _ _ _ _ _ (Act.put _ (some 46) _) _
              simp only [Act.put, lsA, lsB, lsC]
              refine wpT (i := 1) (v := ?_) rfl (Or.inl ⟨by rfl, ?_⟩) hHeld ?_
              rotate_left 1
              · (intro w' hSw; (try dsimp only at hSw); first | (go_simp; done) | (go_simp; with_reducible rfl))
              change wpAnyH _ _ _ _ _ _ _ (Act.put _ (some 47) _) _
              simp only [Act.put, lsA, lsB, lsC]
              refine wpT (i := 2) (v := ?_) rfl (Or.inl ⟨by rfl, ?_⟩) hHeld ?_
              rotate_left 1
              · (intro w' hSw; (try dsimp only at hSw); first | (go_simp; done) | (go_simp; with_reducible rfl))
              change wpAnyH _ _ _ _ _ _ _ (Act.put _ (some 48) _) _
              simp only [Act.put, lsA, lsB, lsC]
              refine wpT (i := 3) (v := ?_) rfl (Or.inl ⟨by rfl, ?_⟩) hHeld ?_
              rotate_left 1
              · (intro w' hSw; (try dsimp only at hSw); first | (go_simp; done) | (go_simp; with_reducible rfl))
              change wpAnyH _ _ _ _ _ _ _ (Act.put _ (some 49) _) _
              simp only [Act.put, lsA, lsB, lsC]
              refine wpT (i := 4) (v := ?_) rfl (Or.inl ⟨by rfl, ?_⟩) hHeld ?_
              rotate_left 1
              · (intro w' hSw; (try dsimp only at hSw); first | (go_simp; done) | (go_simp; with_reducible rfl))
              change wpAnyH _ _ _ _ _ _ _ (Act.put _ (some 50) _) _
              simp only [Act.put, lsA, lsB, lsC]
              refine wpT (i := 5) (v := ?_) rfl (Or.inl ⟨by rfl, ?_⟩) hHeld ?_
              rotate_left 1
              · (intro w' hSw; (try dsimp only at hSw); first | (go_simp; done) | (go_simp; with_reducible rfl))
              change wpAnyH _ _ _ _ _ _ _ (Act.put _ (some 51) _) _
              simp only [Act.put, lsA, lsB, lsC]
              refine wpT (i := 6) (v := ?_) rfl (Or.inl ⟨by rfl, ?_⟩) hHeld ?_
              rotate_left 1
              · (intro w' hSw; (try dsimp only at hSw); first | (go_simp; done) | (go_simp; with_reducible rfl))
              change wpAnyH _ _ _ _ _ _ _ (Act.put _ (some 52) _) _
              simp only [Act.put, lsA, lsB, lsC]
              refine wpT (i := 7) (v := ?_) rfl (Or.inl ⟨by rfl, ?_⟩) hHeld ?_
              rotate_left 1
              · (intro w' hSw; (try dsimp only at hSw); first | (go_simp; done) | (go_simp; with_reducible rfl))
              change wpAnyH _ _ _ _ _ _ _ (Act.put _ (some 53) _) _
              simp only [Act.put, lsA, lsB, lsC]
              refine wpT (i := 8) (v := ?_) rfl (Or.inl ⟨by rfl, ?_⟩) hHeld ?_
              rotate_left 1
              · (intro w' hSw; (try dsimp only at hSw); first | (go_simp; done) | (go_simp; with_reducible rfl))
              change wpAnyH _ _ _ _ _ _ _ (Act.put _ (some 54) _) _
              simp only [Act.put, lsA, lsB, lsC]
              refine wpT (i := 9) (v := ?_) rfl (Or.inl ⟨by rfl, ?_⟩) hHeld ?_
              rotate_left 1
              · (intro w' hSw; (try dsimp only at hSw); first | (go_simp; done) | (go_simp; with_reducible rfl))
              change wpAnyH _ _ _ _ _ _ _ (Act.put _ (some 55) _) _
              simp only [Act.put, lsA, lsB, lsC]
              refine wpT (i := 10) (v := ?_) rfl (Or.inl ⟨by rfl, ?_⟩) hHeld ?_
              rotate_left 1
              · (intro w' hSw; (try dsimp only at hSw); first | (go_simp; done) | (go_simp; with_reducible rfl))
              change wpAnyH _ _ _ _ _ _ _ (Act.put _ (some 56) _) _
              simp only [Act.put, lsA, lsB, lsC]
              refine wpT (i := 11) (v := .bool false) rfl (Or.inl ⟨by rfl, ?_⟩) hHeld ?_
              · (intro w' hSw; (try dsimp only at hSw); go_simp; done)
              change wpAnyH _ _ _ _ _ _ _ (Act.put _ (some 57) _) _
              simp only [Act.put, lsA, lsB, lsC]
              refine wpT (i := 12) (v := ?_) rfl (Or.inl ⟨by rfl, ?_⟩) hHeld ?_
              rotate_left 1
              · (intro w' hSw; (try dsimp only at hSw); first | (go_simp; done) | (go_simp; with_reducible rfl))
              change wpAnyH _ _ _ _ _ _ _ (Act.put _ (some 58) _) _
              simp only [Act.put, lsA, lsB, lsC]
              refine wpT (i := 13) (v := ?_) rfl (Or.inl ⟨by rfl, ?_⟩) hHeld ?_
              rotate_left 1
              · (intro w' hSw; (try dsimp only at hSw); first | (go_simp; done) | (go_simp; with_reducible rfl))
              change wpAnyH _ _ _ _ _ _ _ (Act.put _ (some 59) _) _
              simp only [Act.put, lsA, lsB, lsC]
              refine wpT (i := 14) (v := undef) rfl (Or.inr ⟨by rfl, rfl⟩) hHeld ?_
              change wpAnyH _ _ _ _ _ _ _ (Act.put _ (some 60) _) _
              simp only [Act.put, lsA, lsB, lsC]
              refine wpT (i := 15) (v := undef) rfl (Or.inr ⟨by rfl, rfl⟩) hHeld ?_
              change wpAnyH _ _ _ _ _ _ _ (Act.put _ (some 61) _) _
              simp only [Act.put, lsA, lsB, lsC]
              refine wpT (i := 16) (v := undef) rfl (Or.inr ⟨by rfl, rfl⟩) hHeld ?_
              change wpAnyH _ _ _ _ _ _ _ (Act.put _ (some 62) _) _
              simp only [Act.put, lsA, lsB, lsC]
              refine wpT (i := 17) (v := ?_) rfl (Or.inl ⟨by rfl, ?_⟩) hHeld ?_
              rotate_left 1
              · (intro w' hSw; (try dsimp only at hSw); first | (go_simp; done) | (go_simp; with_reducible rfl))
              change wpAnyH _ _ _ _ _ _ _ (Act.put _ (some 63) _) _
              simp only [Act.put, lsA, lsB, lsC]
              refine wpAnyH_ready (rs := [18]) (by kernel_rfl) (by simp) ?_
              refine AllReadyH.cons rfl (fun K hK => ?_) AllReadyH.nil
              go_simp
              try go_wp2_with fail
              rw [HW7.out]
              refine hK.out _ _ HS7.out (fun hHeld => ?_)
              clear hK K
              try simp only [Act.put, lsA, lsB, lsC]
              refine wpT (i := 19) (v := ?_) rfl (Or.inl ⟨by rfl, ?_⟩) hHeld ?_
              rotate_left 1
              · (intro w' hSw; (try dsimp only at hSw); first | (go_simp; done) | (go_simp; with_reducible rfl))
              change wpAnyH _ _ _ _ _ _ _ (Act.put _ (some 5) _) _
              simp only [Act.put, lsA, lsB, lsC]
              refine wpAnyH_done (by kernel_rfl) ?_ _
              try go_simp
              try go_wp2_with fail
              exact bodyPost_ret (v := .tuple #[.agg #[.bool s1, .slice o1 m1 c1, .bool s2, .slice o2 m2 c2, .bool false], .bool false]) (results_cell_tmp rfl _ _ w.heap.size _ _ _ _ _ rfl rfl HR7.out Tryz.underlying37 rfl (by kernel_rfl)) rfl HQ2.out
          · have HQ2 := Lib.hid (HQ.out false (by simp [q1]))
            have d4 : (e1 == 0) = false := beq_eq_false_iff_ne.2 q1
            clear HQ q1
            refine wp_region_held_drew (S := (fun W => W.cell? ⟨w2.heap.size, 0, none⟩ = some (.bool s1) ∧ W.cell? ⟨w2.heap.size, 1, none⟩ = some (.slice o1 m1 c1) ∧ W.cell? ⟨w4.heap.size, 0, none⟩ = some (.bool s2) ∧ W.cell? ⟨w4.heap.size, 1, none⟩ = some (.slice o2 m2 c2))) (by kernel_rfl) HD0 (fun hHeld => ?_)
            refine wpT (i := 0) (v := ?_) rfl (Or.inl ⟨by rfl, ?_⟩) hHeld ?_
            rotate_left 1
            · (intro w' hSw; (try dsimp only at hSw); first | (go_simp; done) | (go_simp; with_reducible rfl))
            change wpAnyH _ _ _ _ _ _ _ (Act.put _ (some 46) _) _
            simp only [Act.put, lsA, lsB, lsC]
            refine wpT (i := 1) (v := ?_) rfl (Or.inl ⟨by rfl, ?_⟩) hHeld ?_
            rotate_left 1
            · (intro w' hSw; (try dsimp only at hSw); first | (go_simp; done) | (go_simp; with_reducible rfl))
            change wpAnyH _ _ _ _ _ _ _ (Act.put _ (some 47) _) _
            simp only [Act.put, lsA, lsB, lsC]
            refine wpT (i := 2) (v := ?_) rfl (Or.inl ⟨by rfl, ?_⟩) hHeld ?_
            rotate_left 1
            · (intro w' hSw; (try dsimp only at hSw); first | (go_simp; done) | (go_simp; with_reducible rfl))
            change wpAnyH _ _ _ _ _ _ _ (Act.put _ (some 48) _) _
            simp only [Act.put, lsA, lsB, lsC]
            refine wpT (i := 3) (v := ?_) rfl (Or.inl ⟨by rfl, ?_⟩) hHeld ?_
            rotate_left 1
            · (intro w' hSw; (try dsimp only at hSw); first | (go_simp; done) | (go_simp; with_reducible rfl))
            change wpAnyH _ _ _ _ _ _ _ (Act.put _ (some 49) _) _
            simp only [Act.put, lsA, lsB, lsC]
            refine wpT (i := 4) (v := ?_) rfl (Or.inl ⟨by rfl, ?_⟩) hHeld ?_
            rotate_left 1
            · (intro w' hSw; (try dsimp only at hSw); first | (go_simp; done) | (go_simp; with_reducible rfl))
            change wpAnyH _ _ _ _ _ _ _ (Act.put _ (some 50) _) _
            simp only [Act.put, lsA, lsB, lsC]
            refine wpT (i := 5) (v := ?_) rfl (Or.inl ⟨by rfl, ?_⟩) hHeld ?_
            rotate_left 1
            · (intro w' hSw; (try dsimp only at hSw); first | (go_simp; done) | (go_simp; with_reducible rfl))
            change wpAnyH _ _ _ _ _ _ _ (Act.put _ (some 51) _) _
            simp only [Act.put, lsA, lsB, lsC]
            refine wpT (i := 6) (v := ?_) rfl (Or.inl ⟨by rfl, ?_⟩) hHeld ?_
            rotate_left 1
            · (intro w' hSw; (try dsimp only at hSw); first | (go_simp; done) | (go_simp; with_reducible rfl))
            change wpAnyH _ _ _ _ _ _ _ (Act.put _ (some 52) _) _
            simp only [Act.put, lsA, lsB, lsC]
            refine wpT (i := 7) (v := ?_) rfl (Or.inl ⟨by rfl, ?_⟩) hHeld ?_
            rotate_left 1
            · (intro w' hSw; (try dsimp only at hSw); first | (go_simp; done) | (go_simp; with_reducible rfl))
            change wpAnyH _ _ _ _ _ _ _ (Act.put _ (some 53) _) _
            simp only [Act.put, lsA, lsB, lsC]
            refine wpT (i := 8) (v := .bool false) rfl (Or.inl ⟨by rfl, ?_⟩) hHeld ?_
            · (intro w' hSw; (try dsimp only at hSw); go_simp; done)
            change wpAnyH _ _ _ _ _ _ _ (Act.put _ (some 54) _) _
            simp only [Act.put, lsA, lsB, lsC]
            refine wpT (i := 9) (v := ?_) rfl (Or.inl ⟨by rfl, ?_⟩) hHeld ?_
            rotate_left 1
            · (intro w' hSw; (try dsimp only at hSw); first | (go_simp; done) | (go_simp; with_reducible rfl))
            change wpAnyH _ _ _ _ _ _ _ (Act.put _ (some 55) _) _
            simp only [Act.put, lsA, lsB, lsC]
            refine wpT (i := 10) (v := undef) rfl (Or.inr ⟨by rfl, rfl⟩) hHeld ?_
            change wpAnyH _ _ _ _ _ _ _ (Act.put _ (some 56) _) _
            simp only [Act.put, lsA, lsB, lsC]
            refine wpT (i := 11) (v := undef) rfl (Or.inr ⟨by rfl, rfl⟩) hHeld ?_
            change wpAnyH _ _ _ _ _ _ _ (Act.put _ (some 57) _) _
            simp only [Act.put, lsA, lsB, lsC]
            refine wpT (i := 12) (v := ?_) rfl (Or.inl ⟨by rfl, ?_⟩) hHeld ?_
            rotate_left 1
            · (intro w' hSw; (try dsimp only at hSw); first | (go_simp; done) | (go_simp; with_reducible rfl))
            change wpAnyH _ _ _ _ _ _ _ (Act.put _ (some 58) _) _
            simp only [Act.put, lsA, lsB, lsC]
            refine wpT (i := 13) (v := ?_) rfl (Or.inl ⟨by rfl, ?_⟩) hHeld ?_
            rotate_left 1
            · (intro w' hSw; (try dsimp only at hSw); first | (go_simp; done) | (go_simp; with_reducible rfl))
            change wpAnyH _ _ _ _ _ _ _ (Act.put _ (some 59) _) _
            simp only [Act.put, lsA, lsB, lsC]
            refine wpT (i := 14) (v := undef) rfl (Or.inr ⟨by rfl, rfl⟩) hHeld ?_
            change wpAnyH _ _ _ _ _ _ _ (Act.put _ (some 60) _) _
            simp only [Act.put, lsA, lsB, lsC]
            refine wpT (i := 15) (v := undef) rfl (Or.inr ⟨by rfl, rfl⟩) hHeld ?_
            change wpAnyH _ _ _ _ _ _ _ (Act.put _ (some 61) _) _
            simp only [Act.put, lsA, lsB, lsC]
            refine wpT (i := 16) (v := undef) rfl (Or.inr ⟨by rfl, rfl⟩) hHeld ?_
            change wpAnyH _ _ _ _ _ _ _ (Act.put _ (some 62) _) _
            simp only [Act.put, lsA, lsB, lsC]
            refine wpT (i := 17) (v := ?_) rfl (Or.inl ⟨by rfl, ?_⟩) hHeld ?_
            rotate_left 1
            · (intro w' hSw; (try dsimp only at hSw); first | (go_simp; done) | (go_simp; with_reducible rfl))
            change wpAnyH _ _ _ _ _ _ _ (Act.put _ (some 63) _) _
            simp only [Act.put, lsA, lsB, lsC]
            refine wpAnyH_ready (rs := [18]) (by kernel_rfl) (by simp) ?_
            refine AllReadyH.cons rfl (fun K hK => ?_) AllReadyH.nil
            go_simp
            try go_wp2_with fail
            rw [HW7.out]
            refine hK.out _ _ HS7.out (fun hHeld => ?_)
            clear hK K
            try simp only [Act.put, lsA, lsB, lsC]
            refine wpT (i := 19) (v := ?_) rfl (Or.inl ⟨by rfl, ?_⟩) hHeld ?_
            rotate_left 1
            · (intro w' hSw; (try dsimp only at hSw); first | (go_simp; done) | (go_simp; with_reducible rfl))
            change wpAnyH _ _ _ _ _ _ _ (Act.put _ (some 5) _) _
            simp only [Act.put, lsA, lsB, lsC]
            refine wpAnyH_done (by kernel_rfl) ?_ _
            try go_simp
            try go_wp2_with fail
            exact bodyPost_ret (v := .tuple #[.agg #[.bool s1, .slice o1 m1 c1, .bool s2, .slice o2 m2 c2, .bool false], .bool false]) (results_cell_tmp rfl _ _ w.heap.size _ _ _ _ _ rfl rfl HR7.out Tryz.underlying37 rfl (by kernel_rfl)) rfl HQ2.out
        · clear hdm
          go_wp2_with fail
          refine (KA.out _).mono ?_
          rintro e _ ⟨rfl, rfl⟩
          go_wp2_with fail
          refine (PA.out _ HB1.out).mono ?_
          rintro e w2 ⟨o1, c1, rfl, a1, l1, k1, b2⟩
          obtain ⟨w3, hw3⟩ : ∃ w3, w2.alloc (patO s1 o1 m1 c1) = w3 := ⟨_, rfl⟩
          have b3 : Below w2.heap.size w2 w3 := by rw [← hw3]; exact (Below.refl _ _).alloc (Nat.le_refl _) _
          have R3 : w3.heap[w2.heap.size]? = some (patO s1 o1 m1 c1) := by rw [← hw3]; exact heap_alloc_new _ _
          have HB3 := Lib.hid (HB1.out.trans ((b2.trans (b3.mono b2.size)).mono HB1.out.size))
          have HA3 := Lib.hid (a1.below b3)
          have HRR3 := Lib.hid (row_below (row_below HR1.out b2) b3)
          have HR3 := Lib.hid R3
          have HW3 := Lib.hid hw3
          have HK1 : Hid (∀ k, inQ o1 k → w.heap.size < k ∧ k < w3.heap.size) := Lib.hid fun k hk => by have h1 := k1 k hk; have h2 := b3.size; have h3 := HB1.out.size; have h4 := z1; omega
          have HL1 := Lib.hid l1
          have HS3 : Hid (w1.heap.size ≤ w2.heap.size ∧ w2.heap.size < w3.heap.size) := Lib.hid ⟨b2.size, (Array.getElem?_eq_some_iff.1 R3).1⟩
          clear a1 l1 k1 b2 b3 R3 hw3
          go_wp2_with fail
          rw [HW3.out]
          refine (KB.out _).mono ?_
          rintro e _ ⟨rfl, rfl⟩
          go_wp2_with fail
          refine (PB.out _ HB3.out).mono ?_
          rintro e w4 ⟨o2, c2, rfl, a2, l2, k2, b4⟩
          obtain ⟨w5, hw5⟩ : ∃ w5, w4.alloc (patO s2 o2 m2 c2) = w5 := ⟨_, rfl⟩
          have b5 : Below w4.heap.size w4 w5 := by rw [← hw5]; exact (Below.refl _ _).alloc (Nat.le_refl _) _
          have R5 : w5.heap[w4.heap.size]? = some (patO s2 o2 m2 c2) := by rw [← hw5]; exact heap_alloc_new _ _
          have b45 := b4.trans (b5.mono b4.size)
          have bd : Below w5.heap.size w5 w5.drew := (Below.refl _ _).drew
          have HB5 := Lib.hid (HB3.out.trans (b45.mono HB3.out.size))
          have HA5 := Lib.hid (HA3.out.below b45)
          have HC5 := Lib.hid (a2.below b5)
          have HK2 : Hid (∀ k, inQ o2 k → w.heap.size < k ∧ k < w5.heap.size) := Lib.hid fun k hk => by have h1 := k2 k hk; have h2 := b5.size; have h3 := HB3.out.size; have h4 := HS3.out; omega
          have HK1' : Hid (∀ k, inQ o1 k → w.heap.size < k ∧ k < w5.heap.size) := Lib.hid fun k hk => by have h1 := HK1.out k hk; have h2 := b45.size; omega
          have HL2 := Lib.hid l2
          have RR5 := row_below HRR3.out b45
          have r350 := row_below HR3.out b45
          have r35 := row_below r350 bd
          have r55 := row_below R5 bd
          obtain ⟨t0, t1⟩ := pat_cells r35
          obtain ⟨u0, u1⟩ := pat_cells r55
          obtain ⟨v0, v1, v2, v3, v4⟩ := five_cells RR5
          have fz : ∀ i, w5.frozen? ⟨w.heap.size, i, none⟩ = false := fun i => frozen_of_row w5 w.heap.size i _ _ RR5
          have f0 := fz 0
          have f1 := fz 1
          have f2 := fz 2
          have f3 := fz 3
          have f4 := fz 4
          have lz : w.heap.size < w5.heap.size := by have := (Array.getElem?_eq_some_iff.1 RR5).1; exact this
          have nz2 : w.heap.size < w2.heap.size := by have h1 := HS3.out; omega
          have nz4 : w.heap.size < w4.heap.size := by have h1 := HS3.out; have h2 := b4.size; omega
          have lz2 : w2.heap.size < w5.heap.size := by have := (Array.getElem?_eq_some_iff.1 r35).1; exact this
          have lz4 : w4.heap.size < w5.heap.size := by have := (Array.getElem?_eq_some_iff.1 r55).1; exact this
          have h70 := five_setJ (.bool s1) (.slice o1 m1 c1) (.bool s2) (.slice o2 m2 c2) (.bool true) RR5
          obtain ⟨w6, hw6⟩ : ∃ w6, (((((w5.setCell ⟨w.heap.size, 0, none⟩ (.bool s1)).setCell ⟨w.heap.size, 1, none⟩ (.slice o1 m1 c1)).setCell ⟨w.heap.size, 2, none⟩ (.bool s2)).setCell ⟨w.heap.size, 3, none⟩ (.slice o2 m2 c2)).setCell ⟨w.heap.size, 4, none⟩ (.bool true)) = w6 := ⟨_, rfl⟩
          rw [hw6] at h70
          obtain ⟨w7, hw7⟩ : ∃ w7, w6.drew = w7 := ⟨_, rfl⟩
          have h7 : w7.heap[w.heap.size]? = some (.cells #[.bool s1, .slice o1 m1 c1, .bool s2, .slice o2 m2 c2, .bool true] 37 (0, 0)) ∧ Moves (fun k => k = w.heap.size) w5 w7 := by
            rw [← hw7]
            exact ⟨h70.1, h70.2.trans (Moves.of_below ((Below.refl w6.heap.size w6).drew))⟩
          rw [← hw6] at hw7
          have HS7 : Hid (w7.cell? ⟨w2.heap.size, 0, none⟩ = some (.bool s1) ∧ w7.cell? ⟨w2.heap.size, 1, none⟩ = some (.slice o1 m1 c1) ∧ w7.cell? ⟨w4.heap.size, 0, none⟩ = some (.bool s2) ∧ w7.cell? ⟨w4.heap.size, 1, none⟩ = some (.slice o2 m2 c2)) := Lib.hid (by
            obtain ⟨y0, y1⟩ := pat_cells (row_keep r350 h7.2 (fun h => by omega))
            obtain ⟨y2, y3⟩ := pat_cells (row_keep R5 h7.2 (fun h => by omega))
            exact ⟨y0, y1, y2, y3⟩)
          have HD0 := And.intro t0 (And.intro t1 (And.intro u0 u1))
          have HR7 := Lib.hid h7.1
          have HW7 := Lib.hid hw7
          have HQ : Hid (∀ ok : Bool, (ok = true ↔ (e1 = 0 ∧ e2 = 0 ∧ s2 = false)) → P (.returned (.tuple #[.agg #[.bool s1, .slice o1 m1 c1, .bool s2, .slice o2 m2 c2, .bool true], .bool ok])) w7) := Lib.hid fun ok hok => by
            rw [← HP.out]
            have hle : ok = true ↔ lineE ns s.data.toList = .none := by
              rw [hok, HLE.out.1]
              constructor
              · rintro ⟨h1, h2, h3⟩
                rw [if_neg (by rw [h1, h2, h3]; simp)]
              · intro h
                split at h
                · cases h
                · rename_i h4
                  simp only [not_or, Decidable.not_not] at h4
                  exact ⟨h4.1, h4.2.1, by simpa using h4.2.2⟩
            refine ⟨((s1, o1, xs1, c1), (s2, o2, xs2, c2), true), ok, by rw [← HM1.out, ← HM2.out], hle, fun _ => ⟨by rw [HLE.out.2]; rfl, ?_, fun k hk => ?_⟩, Moves.below HB5.out HB5.out.size h7.2 (fun k hk => by omega)⟩
            · intro x hx
              rw [List.mem_singleton.1 hx]
              exact ⟨⟨cell_movesP (n := w.heap.size + 1) HA5.out (fun k hk => HK1'.out k hk) h7.2 (fun k hk => by omega), by rw [HM1.out]; exact HL1.out⟩, cell_movesP (n := w.heap.size + 1) HC5.out (fun k hk => HK2.out k hk) h7.2 (fun k hk => by omega), by rw [HM2.out]; exact HL2.out⟩
            · have h9 : w5.heap.size ≤ w7.heap.size := h7.2.size
              rcases hk with hk | hk
              · have := HK1'.out k hk
                omega
              · have := HK2.out k hk
                omega
          have hW5 := Lib.hid hw5
          clear a2 l2 k2 b4 b5 b45 bd R5 RR5 r35 r350 r55 fz h7 h70 hw6 hw7 hw5 HLE HA3 HRR3 HR3 HK1 HS3 HL1 HL2 HK2 HK1' HA5 HC5 HM1 HM2 HB3 HW3 KA KB PA PB
          go_wp2_with fail
          rw [hW5.out]
          by_cases q1 : e1 = 0
          · subst q1
            by_cases q2 : e2 = 0
            · subst q2
              cases s2 with
              | true =>
                have HQ2 := Lib.hid (HQ.out false (by simp))
                clear HQ
                refine wp_region_held_drew (S := (fun W => W.cell? ⟨w2.heap.size, 0, none⟩ = some (.bool s1) ∧ W.cell? ⟨w2.heap.size, 1, none⟩ = some (.slice o1 m1 c1) ∧ W.cell? ⟨w4.heap.size, 0, none⟩ = some (.bool true) ∧ W.cell? ⟨w4.heap.size, 1, none⟩ = some (.slice o2 m2 c2))) (by kernel_rfl) HD0 (fun hHeld => ?_)
                refine wpT (i := 0) (v := ?_) rfl (Or.inl ⟨by rfl, ?_⟩) hHeld ?_
                rotate_left 1
                · (intro w' hSw; (try dsimp only at hSw); first | (go_simp; done) | (go_simp; with_reducible rfl))
                change wpAnyH _ _ _ _ _ _ _ (Act.put _ (some 46) _) _
                simp only [Act.put, lsA, lsB, lsC]
                refine wpT (i := 1) (v := ?_) rfl (Or.inl ⟨by rfl, ?_⟩) hHeld ?_
                rotate_left 1
                · (intro w' hSw; (try dsimp only at hSw); first | (go_simp; done) | (go_simp; with_reducible rfl))
                change wpAnyH _ _ _ _ _ _ _ (Act.put _ (some 47) _) _
                simp only [Act.put, lsA, lsB, lsC]
                refine wpT (i := 2) (v := ?_) rfl (Or.inl ⟨by rfl, ?_⟩) hHeld ?_
                rotate_left 1
                · (intro w' hSw; (try dsimp only at hSw); first | (go_simp; done) | (go_simp; with_reducible rfl))
                change wpAnyH _ _ _ _ _ _ _ (Act.put _ (some 48) _) _
                simp only [Act.put, lsA, lsB, lsC]
                refine wpT (i := 3) (v := ?_) rfl (Or.inl ⟨by rfl, ?_⟩) hHeld ?_
                rotate_left 1
                · (intro w' hSw; (try dsimp only at hSw); first | (go_simp; done) | (go_simp; with_reducible rfl))
                change wpAnyH _ _ _ _ _ _ _ (Act.put _ (some 49) _) _
                simp only [Act.put, lsA, lsB, lsC]
                refine wpT (i := 4) (v := ?_) rfl (Or.inl ⟨by rfl, ?_⟩) hHeld ?_
                rotate_left 1
                · (intro w' hSw; (try dsimp only at hSw); first | (go_simp; done) | (go_simp; with_reducible rfl))
                change wpAnyH _ _ _ _ _ _ _ (Act.put _ (some 50) _) _
                simp only [Act.put, lsA, lsB, lsC]
                refine wpT (i := 5) (v := ?_) rfl (Or.inl ⟨by rfl, ?_⟩) hHeld ?_
                rotate_left 1
                · (intro w' hSw; (try dsimp only at hSw); first | (go_simp; done) | (go_simp; with_reducible rfl))
                change wpAnyH _ _ _ _ _ _ _ (Act.put _ (some 51) _) _
                simp only [Act.put, lsA, lsB, lsC]
                refine wpT (i := 6) (v := ?_) rfl (Or.inl ⟨by rfl, ?_⟩) hHeld ?_
                rotate_left 1
                · (intro w' hSw; (try dsimp only at hSw); first | (go_simp; done) | (go_simp; with_reducible rfl))
                change wpAnyH _ _ _ _ _ _ _ (Act.put _ (some 52) _) _
                simp only [Act.put, lsA, lsB, lsC]
                refine wpT (i := 7) (v := ?_) rfl (Or.inl ⟨by rfl, ?_⟩) hHeld ?_
                rotate_left 1
                · (intro w' hSw; (try dsimp only at hSw); first | (go_simp; done) | (go_simp; with_reducible rfl))
                change wpAnyH _ _ _ _ _ _ _ (Act.put _ (some 53) _) _
                simp only [Act.put, lsA, lsB, lsC]
                refine wpT (i := 8) (v := ?_) rfl (Or.inl ⟨by rfl, ?_⟩) hHeld ?_
                rotate_left 1
                · (intro w' hSw; (try dsimp only at hSw); first | (go_simp; done) | (go_simp; with_reducible rfl))
                change wpAnyH _ _ _ _ _ _ _ (Act.put _ (some 54) _) _
                simp only [Act.put, lsA, lsB, lsC]
                refine wpT (i := 9) (v := ?_) rfl (Or.inl ⟨by rfl, ?_⟩) hHeld ?_
                rotate_left 1
                · (intro w' hSw; (try dsimp only at hSw); first | (go_simp; done) | (go_simp; with_reducible rfl))
                change wpAnyH _ _ _ _ _ _ _ (Act.put _ (some 55) _) _
                simp only [Act.put, lsA, lsB, lsC]
                refine wpT (i := 10) (v := ?_) rfl (Or.inl ⟨by rfl, ?_⟩) hHeld ?_
                rotate_left 1
                · (intro w' hSw; (try dsimp only at hSw); first | (go_simp; done) | (go_simp; with_reducible rfl))
                change wpAnyH _ _ _ _ _ _ _ (Act.put _ (some 56) _) _
                simp only [Act.put, lsA, lsB, lsC]
                refine wpT (i := 11) (v := ?_) rfl (Or.inl ⟨by rfl, ?_⟩) hHeld ?_
                rotate_left 1
                · (intro w' hSw; (try dsimp only at hSw); first | (go_simp; done) | (go_simp; with_reducible rfl))
                change wpAnyH _ _ _ _ _ _ _ (Act.put _ (some 57) _) _
                simp only [Act.put, lsA, lsB, lsC]
                refine wpT (i := 12) (v := ?_) rfl (Or.inl ⟨by rfl, ?_⟩) hHeld ?_
                rotate_left 1
                · (intro w' hSw; (try dsimp only at hSw); first | (go_simp; done) | (go_simp; with_reducible rfl))
                change wpAnyH _ _ _ _ _ _ _ (Act.put _ (some 58) _) _
                simp only [Act.put, lsA, lsB, lsC]
                refine wpT (i := 13) (v := ?_) rfl (Or.inl ⟨by rfl, ?_⟩) hHeld ?_
                rotate_left 1
                · (intro w' hSw; (try dsimp only at hSw); first | (go_simp; done) | (go_simp; with_reducible rfl))
                change wpAnyH _ _ _ _ _ _ _ (Act.put _ (some 59) _) _
                simp only [Act.put, lsA, lsB, lsC]
                refine wpT (i := 14) (v := ?_) rfl (Or.inl ⟨by rfl, ?_⟩) hHeld ?_
                rotate_left 1
                · (intro w' hSw; (try dsimp only at hSw); first | (go_simp; done) | (go_simp; with_reducible rfl))
                change wpAnyH _ _ _ _ _ _ _ (Act.put _ (some 60) _) _
                simp only [Act.put, lsA, lsB, lsC]
                refine wpT (i := 15) (v := ?_) rfl (Or.inl ⟨by rfl, ?_⟩) hHeld ?_
                rotate_left 1
                · (intro w' hSw; (try dsimp only at hSw); first | (go_simp; done) | (go_simp; with_reducible rfl))
                change wpAnyH _ _ _ _ _ _ _ (Act.put _ (some 61) _) _
                simp only [Act.put, lsA, lsB, lsC]
                refine wpT (i := 16) (v := ?_) rfl (Or.inl ⟨by rfl, ?_⟩) hHeld ?_
                rotate_left 1
                · (intro w' hSw; (try dsimp only at hSw); first | (go_simp; done) | (go_simp; with_reducible rfl))
                change wpAnyH _ _ _ _ _ _ _ (Act.put _ (some 62) _) _
                simp only [Act.put, lsA, lsB, lsC]
                refine wpT (i := 17) (v := ?_) rfl (Or.inl ⟨by rfl, ?_⟩) hHeld ?_
                rotate_left 1
                · (intro w' hSw; (try dsimp only at hSw); first | (go_simp; done) | (go_simp; with_reducible rfl))
                change wpAnyH _ _ _ _ _ _ _ (Act.put _ (some 63) _) _
                simp only [Act.put, lsA, lsB, lsC]
                refine wpAnyH_ready (rs := [18]) (by kernel_rfl) (by simp) ?_
                refine AllReadyH.cons rfl (fun K hK => ?_) AllReadyH.nil
                go_simp
                try go_wp2_with fail
                rw [HW7.out]
                refine hK.out _ _ HS7.out (fun hHeld => ?_)
                clear hK K
                try simp only [Act.put, lsA, lsB, lsC]
                refine wpT (i := 19) (v := ?_) rfl (Or.inl ⟨by rfl, ?_⟩) hHeld ?_
                rotate_left 1
                · (intro w' hSw; (try dsimp only at hSw); first | (go_simp; done) | (go_simp; with_reducible rfl))
                change wpAnyH _ _ _ _ _ _ _ (Act.put _ (some 5) _) _
                simp only [Act.put, lsA, lsB, lsC]
                refine wpAnyH_done (by kernel_rfl) ?_ _
                try go_simp
                try go_wp2_with fail
                exact bodyPost_ret (v := .tuple #[.agg #[.bool s1, .slice o1 m1 c1, .bool true, .slice o2 m2 c2, .bool true], .bool false]) (results_cell_tmp rfl _ _ w.heap.size _ _ _ _ _ rfl rfl HR7.out Tryz.underlying37 rfl (by kernel_rfl)) rfl HQ2.out
              | false =>
                have HQ2 := Lib.hid (HQ.out true (by simp))
                clear HQ
                refine wp_region_held_drew (S := (fun W => W.cell? ⟨w2.heap.size, 0, none⟩ = some (.bool s1) ∧ W.cell? ⟨w2.heap.size, 1, none⟩ = some (.slice o1 m1 c1) ∧ W.cell? ⟨w4.heap.size, 0, none⟩ = some (.bool false) ∧ W.cell? ⟨w4.heap.size, 1, none⟩ = some (.slice o2 m2 c2))) (by kernel_rfl) HD0 (fun hHeld => ?_)
                refine wpT (i := 0) (v := ?_) rfl (Or.inl ⟨by rfl, ?_⟩) hHeld ?_
                rotate_left 1
                · (intro w' hSw; (try dsimp only at hSw); first | (go_simp; done) | (go_simp; with_reducible rfl))
                change wpAnyH _ _ _ _ _ _ _ (Act.put _ (some 46) _) _
                simp only [Act.put, lsA, lsB, lsC]
                refine wpT (i := 1) (v := ?_) rfl (Or.inl ⟨by rfl, ?_⟩) hHeld ?_
                rotate_left 1
                · (intro w' hSw; (try dsimp only at hSw); first | (go_simp; done) | (go_simp; with_reducible rfl))
                change wpAnyH _ _ _ _ _ _ _ (Act.put _ (some 47) _) _
                simp only [Act.put, lsA, lsB, lsC]
                refine wpT (i := 2) (v := ?_) rfl (Or.inl ⟨by rfl, ?_⟩) hHeld ?_
                rotate_left 1
                · (intro w' hSw; (try dsimp only at hSw); first | (go_simp; done) | (go_simp; with_reducible rfl))
                change wpAnyH _ _ _ _ _ _ _ (Act.put _ (some 48) _) _
                simp only [Act.put, lsA, lsB, lsC]
                refine wpT (i := 3) (v := ?_) rfl (Or.inl ⟨by rfl, ?_⟩) hHeld ?_
                rotate_left 1
                · (intro w' hSw; (try dsimp only at hSw); first | (go_simp; done) | (go_simp; with_reducible rfl))
                change wpAnyH _ _ _ _ _ _ _ (Act.put _ (some 49) _) _
                simp only [Act.put, lsA, lsB, lsC]
                refine wpT (i := 4) (v := ?_) rfl (Or.inl ⟨by rfl, ?_⟩) hHeld ?_
                rotate_left 1
                · (intro w' hSw; (try dsimp only at hSw); first | (go_simp; done) | (go_simp; with_reducible rfl))
                change wpAnyH _ _ _ _ _ _ _ (Act.put _ (some 50) _) _
                simp only [Act.put, lsA, lsB, lsC]
                refine wpT (i := 5) (v := ?_) rfl (Or.inl ⟨by rfl, ?_⟩) hHeld ?_
                rotate_left 1
                · (intro w' hSw; (try dsimp only at hSw); first | (go_simp; done) | (go_simp; with_reducible rfl))
                change wpAnyH _ _ _ _ _ _ _ (Act.put _ (some 51) _) _
                simp only [Act.put, lsA, lsB, lsC]
                refine wpT (i := 6) (v := ?_) rfl (Or.inl ⟨by rfl, ?_⟩) hHeld ?_
                rotate_left 1
                · (intro w' hSw; (try dsimp only at hSw); first | (go_simp; done) | (go_simp; with_reducible rfl))
                change wpAnyH _ _ _ _ _ _ _ (Act.put _ (some 52) _) _
                simp only [Act.put, lsA, lsB, lsC]
                refine wpT (i := 7) (v := ?_) rfl (Or.inl ⟨by rfl, ?_⟩) hHeld ?_
                rotate_left 1
                · (intro w' hSw; (try dsimp only at hSw); first | (go_simp; done) | (go_simp; with_reducible rfl))
                change wpAnyH _ _ _ _ _ _ _ (Act.put _ (some 53) _) _
                simp only [Act.put, lsA, lsB, lsC]
                refine wpT (i := 8) (v := ?_) rfl (Or.inl ⟨by rfl, ?_⟩) hHeld ?_
                rotate_left 1
                · (intro w' hSw; (try dsimp only at hSw); first | (go_simp; done) | (go_simp; with_reducible rfl))
                change wpAnyH _ _ _ _ _ _ _ (Act.put _ (some 54) _) _
                simp only [Act.put, lsA, lsB, lsC]
                refine wpT (i := 9) (v := ?_) rfl (Or.inl ⟨by rfl, ?_⟩) hHeld ?_
                rotate_left 1
                · (intro w' hSw; (try dsimp only at hSw); first | (go_simp; done) | (go_simp; with_reducible rfl))
                change wpAnyH _ _ _ _ _ _ _ (Act.put _ (some 55) _) _
                simp only [Act.put, lsA, lsB, lsC]
                refine wpT (i := 10) (v := ?_) rfl (Or.inl ⟨by rfl, ?_⟩) hHeld ?_
                rotate_left 1
                · (intro w' hSw; (try dsimp only at hSw); first | (go_simp; done) | (go_simp; with_reducible rfl))
                change wpAnyH _ _ _ _ _ _ _ (Act.put _ (some 56) _) _
                simp only [Act.put, lsA, lsB, lsC]
                refine wpT (i := 11) (v := ?_) rfl (Or.inl ⟨by rfl, ?_⟩) hHeld ?_
                rotate_left 1
                · (intro w' hSw; (try dsimp only at hSw); first | (go_simp; done) | (go_simp; with_reducible rfl))
                change wpAnyH _ _ _ _ _ _ _ (Act.put _ (some 57) _) _
                simp only [Act.put, lsA, lsB, lsC]
                refine wpT (i := 12) (v := ?_) rfl (Or.inl ⟨by rfl, ?_⟩) hHeld ?_
                rotate_left 1
                · (intro w' hSw; (try dsimp only at hSw); first | (go_simp; done) | (go_simp; with_reducible rfl))
                change wpAnyH _ _ _ _ _ _ _ (Act.put _ (some 58) _) _
                simp only [Act.put, lsA, lsB, lsC]
                refine wpT (i := 13) (v := ?_) rfl (Or.inl ⟨by rfl, ?_⟩) hHeld ?_
                rotate_left 1
                · (intro w' hSw; (try dsimp only at hSw); first | (go_simp; done) | (go_simp; with_reducible rfl))
                change wpAnyH _ _ _ _ _ _ _ (Act.put _ (some 59) _) _
                simp only [Act.put, lsA, lsB, lsC]
                refine wpT (i := 14) (v := ?_) rfl (Or.inl ⟨by rfl, ?_⟩) hHeld ?_
                rotate_left 1
                · (intro w' hSw; (try dsimp only at hSw); first | (go_simp; done) | (go_simp; with_reducible rfl))
                change wpAnyH _ _ _ _ _ _ _ (Act.put _ (some 60) _) _
                simp only [Act.put, lsA, lsB, lsC]
                refine wpT (i := 15) (v := ?_) rfl (Or.inl ⟨by rfl, ?_⟩) hHeld ?_
                rotate_left 1
                · (intro w' hSw; (try dsimp only at hSw); first | (go_simp; done) | (go_simp; with_reducible rfl))
                change wpAnyH _ _ _ _ _ _ _ (Act.put _ (some 61) _) _
                simp only [Act.put, lsA, lsB, lsC]
                refine wpT (i := 16) (v := ?_) rfl (Or.inl ⟨by rfl, ?_⟩) hHeld ?_
                rotate_left 1
                · (intro w' hSw; (try dsimp only at hSw); first | (go_simp; done) | (go_simp; with_reducible rfl))
                change wpAnyH _ _ _ _ _ _ _ (Act.put _ (some 62) _) _
                simp only [Act.put, lsA, lsB, lsC]
                refine wpT (i := 17) (v := ?_) rfl (Or.inl ⟨by rfl, ?_⟩) hHeld ?_
                rotate_left 1
                · (intro w' hSw; (try dsimp only at hSw); first | (go_simp; done) | (go_simp; with_reducible rfl))
                change wpAnyH _ _ _ _ _ _ _ (Act.put _ (some 63) _) _
                simp only [Act.put, lsA, lsB, lsC]
                refine wpAnyH_ready (rs := [18]) (by kernel_rfl) (by simp) ?_
                refine AllReadyH.cons rfl (fun K hK => ?_) AllReadyH.nil
                go_simp
                try go_wp2_with fail
                rw [HW7.out]
                refine hK.out _ _ HS7.out (fun hHeld => ?_)
                clear hK K
                try simp only [Act.put, lsA, lsB, lsC]
                refine wpT (i := 19) (v := ?_) rfl (Or.inl ⟨by rfl, ?_⟩) hHeld ?_
                rotate_left 1
                · (intro w' hSw; (try dsimp only at hSw); first | (go_simp; done) | (go_simp; with_reducible rfl))
                change wpAnyH _ _ _ _ _ _ _ (Act.put _ (some 5) _) _
                simp only [Act.put, lsA, lsB, lsC]
                refine wpAnyH_done (by kernel_rfl) ?_ _
                try go_simp
                try go_wp2_with fail
                exact bodyPost_ret (v := .tuple #[.agg #[.bool s1, .slice o1 m1 c1, .bool false, .slice o2 m2 c2, .bool true], .bool true]) (results_cell_tmp rfl _ _ w.heap.size _ _ _ _ _ rfl rfl HR7.out Tryz.underlying37 rfl (by kernel_rfl)) rfl HQ2.out
            · have HQ2 := Lib.hid (HQ.out false (by simp [q2]))
              have d4 : (e2 == 0) = false := beq_eq_false_iff_ne.2 q2
              clear HQ q2
              refine wp_region_held_drew (S := (fun W => W.cell? ⟨w2.heap.size, 0, none⟩ = some (.bool s1) ∧ W.cell? ⟨w2.heap.size, 1, none⟩ = some (.slice o1 m1 c1) ∧ W.cell? ⟨w4.heap.size, 0, none⟩ = some (.bool s2) ∧ W.cell? ⟨w4.heap.size, 1, none⟩ = some (.slice o2 m2 c2))) (by kernel_rfl) HD0 (fun hHeld => ?_)
              refine wpT (i := 0) (v := ?_) rfl (Or.inl ⟨by rfl, ?_⟩) hHeld ?_
              rotate_left 1
              · (intro w' hSw; (try dsimp only at hSw); first | (go_simp; done) | (go_simp; with_reducible rfl))
              change wpAnyH _ _ _ _ _ _ _ (Act.put _ (some 46) _) _
              simp only [Act.put, lsA, lsB, lsC]
              refine wpT (i := 1) (v := ?_) rfl (Or.inl ⟨by rfl, ?_⟩) hHeld ?_
              rotate_left 1
              · (intro w' hSw; (try dsimp only at hSw); first | (go_simp; done) | (go_simp; with_reducible rfl))
              change wpAnyH _ _ _ _ _ _ _ (Act.put _ (some 47) _) _
              simp only [Act.put, lsA, lsB, lsC]
              refine wpT (i := 2) (v := ?_) rfl (Or.inl ⟨by rfl, ?_⟩) hHeld ?_
              rotate_left 1
              · (intro w' hSw; (try dsimp only at hSw); first | (go_simp; done) | (go_simp; with_reducible rfl))
              change wpAnyH _ _ _ _ _ _ _ (Act.put _ (some 48) _) _
              simp only [Act.put, lsA, lsB, lsC]
              refine wpT (i := 3) (v := ?_) rfl (Or.inl ⟨by rfl, ?_⟩) hHeld ?_
              rotate_left 1
              · (intro w' hSw; (try dsimp only at hSw); first | (go_simp; done) | (go_simp; with_reducible rfl))
              change wpAnyH _ _ _ _ _ _ _ (Act.put _ (some 49) _) _
              simp only [Act.put, lsA, lsB, lsC]
              refine wpT (i := 4) (v := ?_) rfl (Or.inl ⟨by rfl, ?_⟩) hHeld ?_
              rotate_left 1
              · (intro w' hSw; (try dsimp only at hSw); first | (go_simp; done) | (go_simp; with_reducible rfl))
              change wpAnyH _ _ _ _ _ _ _ (Act.put _ (some 50) _) _
              simp only [Act.put, lsA, lsB, lsC]
              refine wpT (i := 5) (v := ?_) rfl (Or.inl ⟨by rfl, ?_⟩) hHeld ?_
              rotate_left 1
              · (intro w' hSw; (try dsimp only at hSw); first | (go_simp; done) | (go_simp; with_reducible rfl))
              change wpAnyH _ _ _ _ _ _ _ (Act.put _ (some 51) _) _
              simp only [Act.put, lsA, lsB, lsC]
              refine wpT (i := 6) (v := ?_) rfl (Or.inl ⟨by rfl, ?_⟩) hHeld ?_
              rotate_left 1
              · (intro w' hSw; (try dsimp only at hSw); first | (go_simp; done) | (go_simp; with_reducible rfl))
              change wpAnyH _ _ _ _ _ _ _ (Act.put _ (some 52) _) _
              simp only [Act.put, lsA, lsB, lsC]
              refine wpT (i := 7) (v := ?_) rfl (Or.inl ⟨by rfl, ?_⟩) hHeld ?_
              rotate_left 1
              · (intro w' hSw; (try dsimp only at hSw); first | (go_simp; done) | (go_simp; with_reducible rfl))
              change wpAnyH _ _ _ _ _ _ _ (Act.put _ (some 53) _) _
              simp only [Act.put, lsA, lsB, lsC]
              refine wpT (i := 8) (v := ?_) rfl (Or.inl ⟨by rfl, ?_⟩) hHeld ?_
              rotate_left 1
              · (intro w' hSw; (try dsimp only at hSw); first | (go_simp; done) | (go_simp; with_reducible rfl))
              change wpAnyH _ _ _ _ _ _ _ (Act.put _ (some 54) _) _
              simp only [Act.put, lsA, lsB, lsC]
              refine wpT (i := 9) (v := ?_) rfl (Or.inl ⟨by rfl, ?_⟩) hHeld ?_
              rotate_left 1
              · (intro w' hSw; (try dsimp only at hSw); first | (go_simp; done) | (go_simp; with_reducible rfl))
              change wpAnyH _ _ _ _ _ _ _ (Act.put _ (some 55) _) _
              simp only [Act.put, lsA, lsB, lsC]
              refine wpT (i := 10) (v := ?_) rfl (Or.inl ⟨by rfl, ?_⟩) hHeld ?_
              rotate_left 1
              · (intro w' hSw; (try dsimp only at hSw); first | (go_simp; done) | (go_simp; with_reducible rfl))
              change wpAnyH _ _ _ _ _ _ _ (Act.put _ (some 56) _) _
              simp only [Act.put, lsA, lsB, lsC]
              refine wpT (i := 11) (v := .bool false) rfl (Or.inl ⟨by rfl, ?_⟩) hHeld ?_
              · (intro w' hSw; (try dsimp only at hSw); go_simp; done)
              change wpAnyH _ _ _ _ _ _ _ (Act.put _ (some 57) _) _
              simp only [Act.put, lsA, lsB, lsC]
              refine wpT (i := 12) (v := ?_) rfl (Or.inl ⟨by rfl, ?_⟩) hHeld ?_
              rotate_left 1
              · (intro w' hSw; (try dsimp only at hSw); first | (go_simp; done) | (go_simp; with_reducible rfl))
              change wpAnyH _ _ _ _ _ _ _ (Act.put _ (some 58) _) _
              simp only [Act.put, lsA, lsB, lsC]
              refine wpT (i := 13) (v := ?_) rfl (Or.inl ⟨by rfl, ?_⟩) hHeld ?_
              rotate_left 1
              · (intro w' hSw; (try dsimp only at hSw); first | (go_simp; done) | (go_simp; with_reducible rfl))
              change wpAnyH _ _ _ _ _ _ _ (Act.put _ (some 59) _) _
              simp only [Act.put, lsA, lsB, lsC]
              refine wpT (i := 14) (v := undef) rfl (Or.inr ⟨by rfl, rfl⟩) hHeld ?_
              change wpAnyH _ _ _ _ _ _ _ (Act.put _ (some 60) _) _
              simp only [Act.put, lsA, lsB, lsC]
              refine wpT (i := 15) (v := undef) rfl (Or.inr ⟨by rfl, rfl⟩) hHeld ?_
              change wpAnyH _ _ _ _ _ _ _ (Act.put _ (some 61) _) _
              simp only [Act.put, lsA, lsB, lsC]
              refine wpT (i := 16) (v := undef) rfl (Or.inr ⟨by rfl, rfl⟩) hHeld ?_
              change wpAnyH _ _ _ _ _ _ _ (Act.put _ (some 62) _) _
              simp only [Act.put, lsA, lsB, lsC]
              refine wpT (i := 17) (v := ?_) rfl (Or.inl ⟨by rfl, ?_⟩) hHeld ?_
              rotate_left 1
              · (intro w' hSw; (try dsimp only at hSw); first | (go_simp; done) | (go_simp; with_reducible rfl))
              change wpAnyH _ _ _ _ _ _ _ (Act.put _ (some 63) _) _
              simp only [Act.put, lsA, lsB, lsC]
              refine wpAnyH_ready (rs := [18]) (by kernel_rfl) (by simp) ?_
              refine AllReadyH.cons rfl (fun K hK => ?_) AllReadyH.nil
              go_simp
              try go_wp2_with fail
              rw [HW7.out]
              refine hK.out _ _ HS7.out (fun hHeld => ?_)
              clear hK K
              try simp only [Act.put, lsA, lsB, lsC]
              refine wpT (i := 19) (v := ?_) rfl (Or.inl ⟨by rfl, ?_⟩) hHeld ?_
              rotate_left 1
              · (intro w' hSw; (try dsimp only at hSw); first | (go_simp; done) | (go_simp; with_reducible rfl))
              change wpAnyH _ _ _ _ _ _ _ (Act.put _ (some 5) _) _
              simp only [Act.put, lsA, lsB, lsC]
              refine wpAnyH_done (by kernel_rfl) ?_ _
              try go_simp
              try go_wp2_with fail
              exact bodyPost_ret (v := .tuple #[.agg #[.bool s1, .slice o1 m1 c1, .bool s2, .slice o2 m2 c2, .bool true], .bool false]) (results_cell_tmp rfl _ _ w.heap.size _ _ _ _ _ rfl rfl HR7.out Tryz.underlying37 rfl (by kernel_rfl)) rfl HQ2.out
          · have HQ2 := Lib.hid (HQ.out false (by simp [q1]))
            have d4 : (e1 == 0) = false := beq_eq_false_iff_ne.2 q1
            clear HQ q1
            refine wp_region_held_drew (S := (fun W => W.cell? ⟨w2.heap.size, 0, none⟩ = some (.bool s1) ∧ W.cell? ⟨w2.heap.size, 1, none⟩ = some (.slice o1 m1 c1) ∧ W.cell? ⟨w4.heap.size, 0, none⟩ = some (.bool s2) ∧ W.cell? ⟨w4.heap.size, 1, none⟩ = some (.slice o2 m2 c2))) (by kernel_rfl) HD0 (fun hHeld => ?_)
            refine wpT (i := 0) (v := ?_) rfl (Or.inl ⟨by rfl, ?_⟩) hHeld ?_
            rotate_left 1
            · (intro w' hSw; (try dsimp only at hSw); first | (go_simp; done) | (go_simp; with_reducible rfl))
            change wpAnyH _ _ _ _ _ _ _ (Act.put _ (some 46) _) _
            simp only [Act.put, lsA, lsB, lsC]
            refine wpT (i := 1) (v := ?_) rfl (Or.inl ⟨by rfl, ?_⟩) hHeld ?_
            rotate_left 1
            · (intro w' hSw; (try dsimp only at hSw); first | (go_simp; done) | (go_simp; with_reducible rfl))
            change wpAnyH _ _ _ _ _ _ _ (Act.put _ (some 47) _) _
            simp only [Act.put, lsA, lsB, lsC]
            refine wpT (i := 2) (v := ?_) rfl (Or.inl ⟨by rfl, ?_⟩) hHeld ?_
            rotate_left 1
            · (intro w' hSw; (try dsimp only at hSw); first | (go_simp; done) | (go_simp; with_reducible rfl))
            change wpAnyH _ _ _ _ _ _ _ (Act.put _ (some 48) _) _
            simp only [Act.put, lsA, lsB, lsC]
            refine wpT (i := 3) (v := ?_) rfl (Or.inl ⟨by rfl, ?_⟩) hHeld ?_
            rotate_left 1
            · (intro w' hSw; (try dsimp only at hSw); first | (go_simp; done) | (go_simp; with_reducible rfl))
            change wpAnyH _ _ _ _ _ _ _ (Act.put _ (some 49) _) _
            simp only [Act.put, lsA, lsB, lsC]
            refine wpT (i := 4) (v := ?_) rfl (Or.inl ⟨by rfl, ?_⟩) hHeld ?_
            rotate_left 1
            · (intro w' hSw; (try dsimp only at hSw); first | (go_simp; done) | (go_simp; with_reducible rfl))
            change wpAnyH _ _ _ _ _ _ _ (Act.put _ (some 50) _) _
            simp only [Act.put, lsA, lsB, lsC]
            refine wpT (i := 5) (v := ?_) rfl (Or.inl ⟨by rfl, ?_⟩) hHeld ?_
            rotate_left 1
            · (intro w' hSw; (try dsimp only at hSw); first | (go_simp; done) | (go_simp; with_reducible rfl))
            change wpAnyH _ _ _ _ _ _ _ (Act.put _ (some 51) _) _
            simp only [Act.put, lsA, lsB, lsC]
            refine wpT (i := 6) (v := ?_) rfl (Or.inl ⟨by rfl, ?_⟩) hHeld ?_
            rotate_left 1
            · (intro w' hSw; (try dsimp only at hSw); first | (go_simp; done) | (go_simp; with_reducible rfl))
            change wpAnyH _ _ _ _ _ _ _ (Act.put _ (some 52) _) _
            simp only [Act.put, lsA, lsB, lsC]
            refine wpT (i := 7) (v := ?_) rfl (Or.inl ⟨by rfl, ?_⟩) hHeld ?_
            rotate_left 1
            · (intro w' hSw; (try dsimp only at hSw); first | (go_simp; done) | (go_simp; with_reducible rfl))
            change wpAnyH _ _ _ _ _ _ _ (Act.put _ (some 53) _) _
            simp only [Act.put, lsA, lsB, lsC]
            refine wpT (i := 8) (v := .bool false) rfl (Or.inl ⟨by rfl, ?_⟩) hHeld ?_
            · (intro w' hSw; (try dsimp only at hSw); go_simp; done)
            change wpAnyH _ _ _ _ _ _ _ (Act.put _ (some 54) _) _
            simp only [Act.put, lsA, lsB, lsC]
            refine wpT (i := 9) (v := ?_) rfl (Or.inl ⟨by rfl, ?_⟩) hHeld ?_
            rotate_left 1
            · (intro w' hSw; (try dsimp only at hSw); first | (go_simp; done) | (go_simp; with_reducible rfl))
            change wpAnyH _ _ _ _ _ _ _ (Act.put _ (some 55) _) _
            simp only [Act.put, lsA, lsB, lsC]
            refine wpT (i := 10) (v := undef) rfl (Or.inr ⟨by rfl, rfl⟩) hHeld ?_
            change wpAnyH _ _ _ _ _ _ _ (Act.put _ (some 56) _) _
            simp only [Act.put, lsA, lsB, lsC]
            refine wpT (i := 11) (v := undef) rfl (Or.inr ⟨by rfl, rfl⟩) hHeld ?_
            change wpAnyH _ _ _ _ _ _ _ (Act.put _ (some 57) _) _
            simp only [Act.put, lsA, lsB, lsC]
            refine wpT (i := 12) (v := ?_) rfl (Or.inl ⟨by rfl, ?_⟩) hHeld ?_
            rotate_left 1
            · (intro w' hSw; (try dsimp only at hSw); first | (go_simp; done) | (go_simp; with_reducible rfl))
            change wpAnyH _ _ _ _ _ _ _ (Act.put _ (some 58) _) _
            simp only [Act.put, lsA, lsB, lsC]
            refine wpT (i := 13) (v := ?_) rfl (Or.inl ⟨by rfl, ?_⟩) hHeld ?_
            rotate_left 1
            · (intro w' hSw; (try dsimp only at hSw); first | (go_simp; done) | (go_simp; with_reducible rfl))
            change wpAnyH _ _ _ _ _ _ _ (Act.put _ (some 59) _) _
            simp only [Act.put, lsA, lsB, lsC]
            refine wpT (i := 14) (v := undef) rfl (Or.inr ⟨by rfl, rfl⟩) hHeld ?_
            change wpAnyH _ _ _ _ _ _ _ (Act.put _ (some 60) _) _
            simp only [Act.put, lsA, lsB, lsC]
            refine wpT (i := 15) (v := undef) rfl (Or.inr ⟨by rfl, rfl⟩) hHeld ?_
            change wpAnyH _ _ _ _ _ _ _ (Act.put _ (some 61) _) _
            simp only [Act.put, lsA, lsB, lsC]
            refine wpT (i := 16) (v := undef) rfl (Or.inr ⟨by rfl, rfl⟩) hHeld ?_
            change wpAnyH _ _ _ _ _ _ _ (Act.put _ (some 62) _) _
            simp only [Act.put, lsA, lsB, lsC]
            refine wpT (i := 17) (v := ?_) rfl (Or.inl ⟨by rfl, ?_⟩) hHeld ?_
            rotate_left 1
            · (intro w' hSw; (try dsimp only at hSw); first | (go_simp; done) | (go_simp; with_reducible rfl))
            change wpAnyH _ _ _ _ _ _ _ (Act.put _ (some 63) _) _
            simp only [Act.put, lsA, lsB, lsC]
            refine wpAnyH_ready (rs := [18]) (by kernel_rfl) (by simp) ?_
            refine AllReadyH.cons rfl (fun K hK => ?_) AllReadyH.nil
            go_simp
            try go_wp2_with fail
            rw [HW7.out]
            refine hK.out _ _ HS7.out (fun hHeld => ?_)
            clear hK K
            try simp only [Act.put, lsA, lsB, lsC]
            refine wpT (i := 19) (v := ?_) rfl (Or.inl ⟨by rfl, ?_⟩) hHeld ?_
            rotate_left 1
            · (intro w' hSw; (try dsimp only at hSw); first | (go_simp; done) | (go_simp; with_reducible rfl))
            change wpAnyH _ _ _ _ _ _ _ (Act.put _ (some 5) _) _
            simp only [Act.put, lsA, lsB, lsC]
            refine wpAnyH_done (by kernel_rfl) ?_ _
            try go_simp
            try go_wp2_with fail
            exact bodyPost_ret (v := .tuple #[.agg #[.bool s1, .slice o1 m1 c1, .bool s2, .slice o2 m2 c2, .bool true], .bool false]) (results_cell_tmp rfl _ _ w.heap.size _ _ _ _ _ rfl rfl HR7.out Tryz.underlying37 rfl (by kernel_rfl)) rfl HQ2.out
      · have q43 : (((d : Nat) : Int) != 43) = true := by simp; omega
        have q47 : (((d : Nat) : Int) != 47) = true := by simp; omega
        have HN2 := Lib.hid (HNM.out.skip hbl (fun h => hm (h.imp (fun h => by rw [← hd, h]; rfl) (fun h => by rw [← hd, h]; rfl))))
        clear hm hbl
        go_wp2_with fail
        go_roundg (s.size - (i + 1))
        case measure => omega
        case rel => exact ⟨i + 1, by simp, by omega, rfl, HN2, rfl⟩
    · obtain rfl : i = s.size := by omega
      have d1 : decide (((s.size : Nat) : Int) < ((s.size : Nat) : Int)) = false := decide_eq_false (by omega)
      have hno : sidesT s.data.toList = ([], [], 0) := sidesT_none (by rw [show s.data.toList.length = s.size from Array.length_toList]; exact HNM.out)
      obtain ⟨v0, v1, v2, v3, v4⟩ := five_cells HR1.out
      have f0 := frozen_of_row w1 w.heap.size 0 _ _ HR1.out
      have f1 := frozen_of_row w1 w.heap.size 1 _ _ HR1.out
      have f2 := frozen_of_row w1 w.heap.size 2 _ _ HR1.out
      have f3 := frozen_of_row w1 w.heap.size 3 _ _ HR1.out
      have f4 := frozen_of_row w1 w.heap.size 4 _ _ HR1.out
      have h7 := five_setJ (.bool false) (.slice none 0 0) (.bool false) (.slice none 0 0) (.bool false) HR1.out
      obtain ⟨w7, hw7⟩ : ∃ w7, (((((w1.setCell ⟨w.heap.size, 0, none⟩ (.bool false)).setCell ⟨w.heap.size, 1, none⟩ (.slice none 0 0)).setCell ⟨w.heap.size, 2, none⟩ (.bool false)).setCell ⟨w.heap.size, 3, none⟩ (.slice none 0 0)).setCell ⟨w.heap.size, 4, none⟩ (.bool false)) = w7 := ⟨_, rfl⟩
      rw [hw7] at h7
      have HR7 := Lib.hid h7.1
      have HW7 := Lib.hid hw7
      have HQ2 : Hid (P (.returned (.tuple #[.agg #[.bool false, .slice none 0 0, .bool false, .slice none 0 0, .bool false], .bool false])) w7) := Lib.hid (by
        rw [← HP.out]
        have he : lineE ns s.data.toList = .part markB 90 := by unfold lineE; rw [hno]; rfl
        exact ⟨rul0, false, rfl, ⟨fun h => (by cases h), fun h => (by rw [he] at h; cases h)⟩, fun h => (by cases h), Moves.below HB1.out HB1.out.size h7.2 (fun k hk => by omega)⟩)
      clear hno h7 hw7 HTR HPA HNM
      go_wp2_with fail
      rw [HW7.out]
      exact bodyPost_ret (v := .tuple #[.agg #[.bool false, .slice none 0 0, .bool false, .slice none 0 0, .bool false], .bool false]) (results_cell_tmp rfl _ _ w.heap.size _ _ _ _ _ rfl rfl HR7.out Tryz.underlying37 rfl (by kernel_rfl)) rfl HQ2.out
end Go.Proofs.YtnmhdcbpbaanoaaGreatDoor
