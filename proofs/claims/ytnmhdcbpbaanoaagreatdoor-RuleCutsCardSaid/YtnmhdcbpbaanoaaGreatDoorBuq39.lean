/- Shaken by bunq.py. -/
import Derived.Test.YtnmhdcbpbaanoaaGreatDoorBuq25
import Derived.Test.YtnmhdcbpbaanoaaGreatDoorBuq11
import Derived.Test.YtnmhdcbpbaanoaaGreatDoorBuq37
import Derived.Deep.RegionHeld3
namespace Go.Proofs.YtnmhdcbpbaanoaaGreatDoor
open Go.RowKit Go.Shelf Go.Maps
attribute [local go_sem] Oper.semAt_some
attribute [local go_sem ↓] app_hide

set_option maxRecDepth 100000 in
set_option maxHeartbeats 8000000 in
theorem ruleCuts_anyL (o lo : Option Addr) (l : List RulX) (cap lcap : Nat) (L : List Int) (nn a : Int) (w : World) (aU aS : Addr) (hQ : GlobQ w aU aS) (hG : KGlob w) {m : Int} (hMx : w.cell? ⟨3, 0, none⟩ = some (.int .i64 m)) (hA : AtC w o l) (hI : ItsC w l) (hL : ListJ w lo L lcap) :
    Calls Tryz.prog 3 #[.slice o l.length cap, .int .i64 nn, .slice lo L.length lcap, .int .i64 a] w fun e w' => e = .returned (.bool true) ∧ Below w.heap.size w w' := by
  obtain ⟨P, hP⟩ : ∃ P, (fun (e : Ending) (w' : World) => e = .returned (.bool true) ∧ Below w.heap.size w w') = P := ⟨_, rfl⟩
  have HP := Lib.hid hP
  rw [hP]
  have HPP : Hid (∀ W, Below w.heap.size w W → P (.returned (.bool true)) W) := by rw [← HP.out]; exact Lib.hid fun W h => ⟨rfl, h⟩
  have HSH := Lib.hid (shownJ_any w aU aS hQ hG hMx)
  have HLI := Lib.hid (fun W => list_anyJ lo L.length lcap hL.le W)
  have hl30 : (L.take 30).length = min L.length 30 := by rw [List.length_take]; omega
  have HLL := Lib.hid (fun W (hb : Below w.heap.size w W) => (listJ_take hL 30).below hb)
  rw [← hl30] at HLI
  obtain ⟨Lk, hLk⟩ : ∃ q, L.take 30 = q := ⟨_, rfl⟩
  rw [hLk] at HLI HLL hl30
  have hlk : Lk.length ≤ 30 := by rw [hl30]; omega
  have HFW := Lib.hid (fun W (hb : Below w.heap.size w W) => Few_anyJ o l cap W (hA.below hb) (hI.below hb))
  have HIF := Lib.hid (itsC_few hI)
  have HFF := Lib.hid (fewC_few l)
  have hfl := fewL_len l
  obtain ⟨F, hF⟩ : ∃ q, fewL l = q := ⟨_, rfl⟩
  rw [hF] at HFW HIF HFF hfl
  obtain ⟨nl, hnl⟩ : ∃ q, l.length = q := ⟨_, rfl⟩
  rw [hnl] at HFW ⊢
  have HGW := Lib.hid (fun W (hb : Below w.heap.size w W) => hG.below hb)
  obtain ⟨ll, hll⟩ : ∃ q, L.length = q := ⟨_, rfl⟩
  rw [hll] at HLI ⊢
  have hfol : Tryz.prog.follows .mixedOrders = true := by kernel_rfl
  clear hP hQ hG hMx hA hI hL hl30 hLk hF hnl hll HP
  go_enter Tryz.func3, Tryz.ntmps3
  go_wp2_with fail
  refine HSH.out.mono ?_
  rintro e w1 ⟨rfl, b1⟩
  have HB1 := Lib.hid b1
  clear b1
  go_wp2_with fail
  refine (HFW.out w1 HB1.out).mono ?_
  rintro e w2 ⟨o2, c2, rfl, ho, b2⟩
  have HB2 := Lib.hid (HB1.out.trans (b2.mono HB1.out.size))
  have HAF := Lib.hid (atC_own ho rfl)
  have HIW := Lib.hid (HIF.out.below HB2.out)
  have HLJ := Lib.hid (HLL.out w2 HB2.out)
  have K1 := Lib.hid (CutsJ_any o2 lo F c2 lcap Lk (by omega) (by omega) HFF.out w2 (HGW.out w2 HB2.out) HAF.out HIW.out HLJ.out)
  have K2 := Lib.hid (fun W (hb : Below w2.heap.size w2 W) => refCutsJ_any o2 lo F c2 lcap Lk (by omega) (by omega) HFF.out W (HAF.out.below hb) (HIW.out.below hb) (HLJ.out.below hb))
  have K3 := Lib.hid (fun W (hb : Below w2.heap.size w2 W) => DecideJ_any o2 lo F c2 lcap Lk a (by omega) (by omega) HFF.out W (HAF.out.below hb) (HIW.out.below hb) (HLJ.out.below hb))
  have K4 := Lib.hid (fun W (hb : Below w2.heap.size w2 W) => refDecideJ_any o2 lo F c2 lcap Lk a (by omega) (by omega) HFF.out W (HAF.out.below hb) (HIW.out.below hb) (HLJ.out.below hb))
  have KR1 := Lib.hid (fun W (hb : Below w2.heap.size w2 W) => RightJ_any o2 F c2 nn (by omega) HFF.out W (HAF.out.below hb) (HIW.out.below hb))
  have KR2 := Lib.hid (fun W (hb : Below w2.heap.size w2 W) => refRightJ_any o2 F c2 nn (by omega) HFF.out W (HAF.out.below hb) (HIW.out.below hb))
  have HAPP := Lib.hid (fun (x : RulX) (hx : x ∈ F) W (hb : Below w2.heap.size w2 W) => And.intro (AppliesJ_any x lo lcap Lk a (by omega) (fun z hz => HFF.out z (by rw [List.mem_singleton.1 hz]; exact hx)) W (fun z hz => (HIW.out.below hb) z (by rw [List.mem_singleton.1 hz]; exact hx)) (HLJ.out.below hb)) (refAppliesJ_any x lo lcap Lk a (by omega) (fun z hz => HFF.out z (by rw [List.mem_singleton.1 hz]; exact hx)) W (fun z hz => (HIW.out.below hb) z (by rw [List.mem_singleton.1 hz]; exact hx)) (HLJ.out.below hb)))
  unfold CutsQ at K1 K2
  have hcl : (cutsV (F.map plX) Lk).length ≤ 32 := by
    unfold cutsV
    split
    · rw [← cutsW_eq, List.length_map]
      have := cutsW_len (F.map plX) Lk
      omega
    · simp
  obtain ⟨nf, hnf⟩ : ∃ q, F.length = q := ⟨_, rfl⟩
  have HNF := Lib.hid hnf
  rw [hnf] at hfl K1 K2 K3 K4 KR1 KR2 ⊢
  obtain ⟨nk, hnk⟩ : ∃ q, Lk.length = q := ⟨_, rfl⟩
  rw [hnk] at hlk K1 K2 K3 K4 HLI HAPP
  have HLI2 := Lib.hid (HLI.out w2)
  obtain ⟨r, hr⟩ : ∃ q, rightsU (F.map plX) nn = q := ⟨_, rfl⟩
  obtain ⟨⟨q1, q2⟩, hq⟩ : ∃ q, decideU (F.map plX) Lk a = q := ⟨_, rfl⟩
  obtain ⟨C, hC⟩ : ∃ q, cutsV (F.map plX) Lk = q := ⟨_, rfl⟩
  obtain ⟨ce, hCC⟩ : ∃ q, cutsE (F.map plX) = q := ⟨_, rfl⟩
  rw [hr] at KR1 KR2
  rw [hq] at K3 K4
  rw [hC] at K1 K2 hcl
  rw [hCC] at K1 K2
  simp only at K3 K4
  have KI := Lib.hid (fun oa ob ca cb W (h1 : NumsAt W oa C) (h2 : NumsAt W ob C) => ints_sameK oa ob C ca cb (by omega) W h1 h2)
  obtain ⟨nc, hnc⟩ : ∃ q, C.length = q := ⟨_, rfl⟩
  rw [hnc] at K1 K2 KI hcl
  clear ho b2 hr hq hC hCC hnf hnk hnc HLI HLL HFW HSH HIW HLJ HIF HFF HGW
  go_wp2_with fail
  refine HLI2.out.mono ?_
  rintro e _ ⟨rfl, rfl⟩
  go_wp2_with fail
  refine K1.out.mono ?_
  rintro e w3 ⟨oa, ca, rfl, na, _, b3⟩
  have HNA3 := Lib.hid na
  have HB3 := Lib.hid b3
  have K2' := Lib.hid (K2.out w3 b3)
  clear b3 na K1 K2
  go_wp2_with fail
  refine K2'.out.mono ?_
  rintro e w4 ⟨ob, cb, rfl, nb, _, b4⟩
  have HNA4 := Lib.hid (HNA3.out.below b4)
  have HNB4 := Lib.hid nb
  have HB4 := Lib.hid (HB3.out.trans (b4.mono HB3.out.size))
  have K3' := Lib.hid (K3.out w4 HB4.out)
  clear b4 nb K2' K3 HNA3
  go_wp2_with fail
  refine K3'.out.mono ?_
  rintro e w5 ⟨rfl, b5⟩
  have HNA5 := Lib.hid (HNA4.out.below b5)
  have HNB5 := Lib.hid (HNB4.out.below b5)
  have HB5 := Lib.hid (HB4.out.trans (b5.mono HB4.out.size))
  have K4' := Lib.hid (K4.out w5 HB5.out)
  clear b5 K3' K4 HNA4 HNB4
  go_wp2_with fail
  refine K4'.out.mono ?_
  rintro e w6 ⟨rfl, b6⟩
  have HNA := Lib.hid (HNA5.out.below b6)
  have HNB := Lib.hid (HNB5.out.below b6)
  have HB6 := Lib.hid (HB5.out.trans (b6.mono HB5.out.size))
  clear b6 K4' HNA5 HNB5
  by_cases h0 : nf = 0
  · subst h0
    have HD0 : Below w6.heap.size w6 w6.drew := (Below.refl _ _).drew
    clear HAPP HAF
    go_wp2_with fail
    refine wp_region_held_drew (S := (fun W => Below w6.heap.size w6 W)) (by kernel_rfl) HD0 (fun hHeld => ?_)
    refine wpAnyH_take (i := 0) (v := ?_) rfl (by kernel_rfl) (by kernel_rfl) (by kernel_rfl) (fun _ _ _ h => h) (Or.inl ⟨by rfl, ?_⟩) hHeld ?_
    rotate_left 1
    · (intro w' hSw; (try dsimp only at hSw); first | (go_simp; done) | (go_simp; with_reducible rfl))
    change wpAnyH _ _ _ _ _ _ _ (Act.put _ (some 50) _) _
    simp only [Act.put, List.setIfInBounds_toArray, List.set_cons_zero, List.set_cons_succ]
    refine wpAnyH_take (i := 1) (v := ?_) rfl (by kernel_rfl) (by kernel_rfl) (by kernel_rfl) (fun _ _ _ h => h) (Or.inl ⟨by rfl, ?_⟩) hHeld ?_
    rotate_left 1
    · (intro w' hSw; (try dsimp only at hSw); first | (go_simp; done) | (go_simp; with_reducible rfl))
    change wpAnyH _ _ _ _ _ _ _ (Act.put _ (some 51) _) _
    simp only [Act.put, List.setIfInBounds_toArray, List.set_cons_zero, List.set_cons_succ]
    refine wpAnyH_take (i := 2) (v := ?_) rfl (by kernel_rfl) (by kernel_rfl) (by kernel_rfl) (fun _ _ _ h => h) (Or.inl ⟨by rfl, ?_⟩) hHeld ?_
    rotate_left 1
    · (intro w' hSw; (try dsimp only at hSw); first | (go_simp; done) | (go_simp; with_reducible rfl))
    change wpAnyH _ _ _ _ _ _ _ (Act.put _ (some 52) _) _
    simp only [Act.put, List.setIfInBounds_toArray, List.set_cons_zero, List.set_cons_succ]
    refine wpAnyH_take (i := 3) (v := ?_) rfl (by kernel_rfl) (by kernel_rfl) (by kernel_rfl) (fun _ _ _ h => h) (Or.inl ⟨by rfl, ?_⟩) hHeld ?_
    rotate_left 1
    · (intro w' hSw; (try dsimp only at hSw); first | (go_simp; done) | (go_simp; with_reducible rfl))
    change wpAnyH _ _ _ _ _ _ _ (Act.put _ (some 53) _) _
    simp only [Act.put, List.setIfInBounds_toArray, List.set_cons_zero, List.set_cons_succ]
    refine wpAnyH_take (i := 4) (v := undef) rfl (by kernel_rfl) (by kernel_rfl) (by kernel_rfl) (fun _ _ _ h => h) (Or.inr ⟨by rfl, rfl⟩) hHeld ?_
    change wpAnyH _ _ _ _ _ _ _ (Act.put _ (some 54) _) _
    simp only [Act.put, List.setIfInBounds_toArray, List.set_cons_zero, List.set_cons_succ]
    refine wpAnyH_take (i := 5) (v := undef) rfl (by kernel_rfl) (by kernel_rfl) (by kernel_rfl) (fun _ _ _ h => h) (Or.inr ⟨by rfl, rfl⟩) hHeld ?_
    change wpAnyH _ _ _ _ _ _ _ (Act.put _ (some 55) _) _
    simp only [Act.put, List.setIfInBounds_toArray, List.set_cons_zero, List.set_cons_succ]
    refine wpAnyH_take (i := 6) (v := undef) rfl (by kernel_rfl) (by kernel_rfl) (by kernel_rfl) (fun _ _ _ h => h) (Or.inr ⟨by rfl, rfl⟩) hHeld ?_
    change wpAnyH _ _ _ _ _ _ _ (Act.put _ (some 56) _) _
    simp only [Act.put, List.setIfInBounds_toArray, List.set_cons_zero, List.set_cons_succ]
    refine wpAnyH_take (i := 7) (v := undef) rfl (by kernel_rfl) (by kernel_rfl) (by kernel_rfl) (fun _ _ _ h => h) (Or.inr ⟨by rfl, rfl⟩) hHeld ?_
    change wpAnyH _ _ _ _ _ _ _ (Act.put _ (some 57) _) _
    simp only [Act.put, List.setIfInBounds_toArray, List.set_cons_zero, List.set_cons_succ]
    refine wpAnyH_take (i := 8) (v := undef) rfl (by kernel_rfl) (by kernel_rfl) (by kernel_rfl) (fun _ _ _ h => h) (Or.inr ⟨by rfl, rfl⟩) hHeld ?_
    change wpAnyH _ _ _ _ _ _ _ (Act.put _ (some 58) _) _
    simp only [Act.put, List.setIfInBounds_toArray, List.set_cons_zero, List.set_cons_succ]
    refine wpAnyH_take (i := 9) (v := undef) rfl (by kernel_rfl) (by kernel_rfl) (by kernel_rfl) (fun _ _ _ h => h) (Or.inr ⟨by rfl, rfl⟩) hHeld ?_
    change wpAnyH _ _ _ _ _ _ _ (Act.put _ (some 59) _) _
    simp only [Act.put, List.setIfInBounds_toArray, List.set_cons_zero, List.set_cons_succ]
    refine wpAnyH_take (i := 10) (v := undef) rfl (by kernel_rfl) (by kernel_rfl) (by kernel_rfl) (fun _ _ _ h => h) (Or.inr ⟨by rfl, rfl⟩) hHeld ?_
    change wpAnyH _ _ _ _ _ _ _ (Act.put _ (some 60) _) _
    simp only [Act.put, List.setIfInBounds_toArray, List.set_cons_zero, List.set_cons_succ]
    refine wpAnyH_take (i := 11) (v := undef) rfl (by kernel_rfl) (by kernel_rfl) (by kernel_rfl) (fun _ _ _ h => h) (Or.inr ⟨by rfl, rfl⟩) hHeld ?_
    change wpAnyH _ _ _ _ _ _ _ (Act.put _ (some 61) _) _
    simp only [Act.put, List.setIfInBounds_toArray, List.set_cons_zero, List.set_cons_succ]
    refine wpAnyH_take (i := 12) (v := undef) rfl (by kernel_rfl) (by kernel_rfl) (by kernel_rfl) (fun _ _ _ h => h) (Or.inr ⟨by rfl, rfl⟩) hHeld ?_
    change wpAnyH _ _ _ _ _ _ _ (Act.put _ (some 62) _) _
    simp only [Act.put, List.setIfInBounds_toArray, List.set_cons_zero, List.set_cons_succ]
    refine wpAnyH_take (i := 13) (v := undef) rfl (by kernel_rfl) (by kernel_rfl) (by kernel_rfl) (fun _ _ _ h => h) (Or.inr ⟨by rfl, rfl⟩) hHeld ?_
    change wpAnyH _ _ _ _ _ _ _ (Act.put _ (some 63) _) _
    simp only [Act.put, List.setIfInBounds_toArray, List.set_cons_zero, List.set_cons_succ]
    refine wpAnyH_take (i := 14) (v := undef) rfl (by kernel_rfl) (by kernel_rfl) (by kernel_rfl) (fun _ _ _ h => h) (Or.inr ⟨by rfl, rfl⟩) hHeld ?_
    change wpAnyH _ _ _ _ _ _ _ (Act.put _ (some 64) _) _
    simp only [Act.put, List.setIfInBounds_toArray, List.set_cons_zero, List.set_cons_succ]
    refine wpAnyH_take (i := 15) (v := undef) rfl (by kernel_rfl) (by kernel_rfl) (by kernel_rfl) (fun _ _ _ h => h) (Or.inr ⟨by rfl, rfl⟩) hHeld ?_
    change wpAnyH _ _ _ _ _ _ _ (Act.put _ (some 65) _) _
    simp only [Act.put, List.setIfInBounds_toArray, List.set_cons_zero, List.set_cons_succ]
    refine wpAnyH_take (i := 16) (v := undef) rfl (by kernel_rfl) (by kernel_rfl) (by kernel_rfl) (fun _ _ _ h => h) (Or.inr ⟨by rfl, rfl⟩) hHeld ?_
    change wpAnyH _ _ _ _ _ _ _ (Act.put _ (some 66) _) _
    simp only [Act.put, List.setIfInBounds_toArray, List.set_cons_zero, List.set_cons_succ]
    refine wpAnyH_take (i := 17) (v := ?_) rfl (by kernel_rfl) (by kernel_rfl) (by kernel_rfl) (fun _ _ _ h => h) (Or.inl ⟨by rfl, ?_⟩) hHeld ?_
    rotate_left 1
    · (intro w' hSw; (try dsimp only at hSw); first | (go_simp; done) | (go_simp; with_reducible rfl))
    change wpAnyH _ _ _ _ _ _ _ (Act.put _ (some 67) _) _
    simp only [Act.put, List.setIfInBounds_toArray, List.set_cons_zero, List.set_cons_succ]
    refine wpAnyH_take (i := 18) (v := ?_) rfl (by kernel_rfl) (by kernel_rfl) (by kernel_rfl) (fun _ _ _ h => h) (Or.inl ⟨by rfl, ?_⟩) hHeld ?_
    rotate_left 1
    · (intro w' hSw; (try dsimp only at hSw); first | (go_simp; done) | (go_simp; with_reducible rfl))
    change wpAnyH _ _ _ _ _ _ _ (Act.put _ (some 18) _) _
    simp only [Act.put, List.setIfInBounds_toArray, List.set_cons_zero, List.set_cons_succ]
    refine wpAnyH_done (by kernel_rfl) ?_ _
    have HB7 := Lib.hid hHeld
    clear hHeld HD0
    obtain ⟨w7, hw7⟩ : ∃ q, w6.drew = q := ⟨_, rfl⟩
    rw [hw7] at HB7 ⊢
    clear hw7
    go_wp2_with fail
    refine (KI.out oa ob ca cb w7 (HNA.out.below HB7.out) (HNB.out.below HB7.out)).mono ?_
    rintro e wi ⟨rfl, bi⟩
    have HBi := Lib.hid (HB7.out.trans (bi.mono HB7.out.size))
    have KR1' := Lib.hid (KR1.out wi (HB6.out.trans (HBi.out.mono HB6.out.size)))
    clear bi KI KR1
    go_wp2_with fail
    refine KR1'.out.mono ?_
    rintro e wj ⟨rfl, bj⟩
    have HBj := Lib.hid (HBi.out.trans (bj.mono HBi.out.size))
    have KR2' := Lib.hid (KR2.out wj (HB6.out.trans (HBj.out.mono HB6.out.size)))
    clear bj KR1' KR2
    go_wp2_with fail
    refine KR2'.out.mono ?_
    rintro e wk ⟨rfl, bk⟩
    have HQ := Lib.hid (HPP.out wk (HB2.out.trans ((HB6.out.trans ((HBj.out.trans (bk.mono HBj.out.size)).mono HB6.out.size)).mono HB2.out.size)))
    clear bk KR2'
    cases r <;> cases q1 <;> (go_wp2_with fail; exact HQ.out)
  · have e0 : decide (((nf : Nat) : Int) = 0) = false := decide_eq_false (by omega)
    have e0' : (((nf : Nat) : Int) == 0) = false := beq_eq_false_iff_ne.2 (by omega)
    have e1 : 0 < nf := by omega
    obtain ⟨x, hx⟩ : ∃ x, F[0]? = some x := ⟨_, List.getElem?_eq_getElem (by rw [HNF.out]; exact e1)⟩
    have hxm := List.mem_of_getElem? hx
    obtain ⟨g, off, rfl, hc⟩ := HAF.out (by rw [HNF.out]; exact e1)
    have HC0 := Lib.hid (hc 0 x hx)
    rw [Nat.zero_mul, Nat.add_zero] at HC0
    have HAP2 := Lib.hid (HAPP.out x hxm)
    obtain ⟨⟨s1, p1, xs1, k1⟩, ⟨s2, p2, xs2, k2⟩, br⟩ := x
    simp only at HC0
    replace HAP2 : Hid (∀ W, Below w2.heap.size w2 W → Calls Tryz.prog 18 #[.agg #[.bool s1, .slice p1 xs1.length k1, .bool s2, .slice p2 xs2.length k2, .bool br], .slice lo nk lcap, .int .i64 a] W (fun e w' => e = .returned (.bool (appliesU (plX ((s1, p1, xs1, k1), (s2, p2, xs2, k2), br)) Lk a)) ∧ Below W.heap.size W w') ∧ Calls Tryz.prog 19 #[.agg #[.bool s1, .slice p1 xs1.length k1, .bool s2, .slice p2 xs2.length k2, .bool br], .slice lo nk lcap, .int .i64 a] W (fun e w' => e = .returned (.bool (appliesU (plX ((s1, p1, xs1, k1), (s2, p2, xs2, k2), br)) Lk a)) ∧ Below W.heap.size W w')) := HAP2
    obtain ⟨v, hv⟩ : ∃ q, appliesU (plX ((s1, p1, xs1, k1), (s2, p2, xs2, k2), br)) Lk a = q := ⟨_, rfl⟩
    rw [hv] at HAP2
    obtain ⟨m1, hm1⟩ : ∃ k, xs1.length = k := ⟨_, rfl⟩
    obtain ⟨m2, hm2⟩ : ∃ k, xs2.length = k := ⟨_, rfl⟩
    simp only [hm1, hm2] at HC0 HAP2
    have HSS : Hid (∀ W, Below w6.heap.size w6 W → (W.cell? ⟨g, off, none⟩ = some (.bool s1) ∧ W.cell? ⟨g, off + 1, none⟩ = some (.slice p1 m1 k1) ∧ W.cell? ⟨g, off + 2, none⟩ = some (.bool s2) ∧ W.cell? ⟨g, off + 3, none⟩ = some (.slice p2 m2 k2) ∧ W.cell? ⟨g, off + 4, none⟩ = some (.bool br) ∧ Below w6.heap.size w6 W)) := Lib.hid fun W hb => by
      obtain ⟨x0, x1, x2, x3, x4⟩ := HC0.out
      have hb2 := HB6.out.trans (hb.mono HB6.out.size)
      exact ⟨cell_keepQ hb2 x0, cell_keepQ hb2 x1, cell_keepQ hb2 x2, cell_keepQ hb2 x3, cell_keepQ hb2 x4, hb⟩
    have KA : Hid (∀ W, (W.cell? ⟨g, off, none⟩ = some (.bool s1) ∧ W.cell? ⟨g, off + 1, none⟩ = some (.slice p1 m1 k1) ∧ W.cell? ⟨g, off + 2, none⟩ = some (.bool s2) ∧ W.cell? ⟨g, off + 3, none⟩ = some (.slice p2 m2 k2) ∧ W.cell? ⟨g, off + 4, none⟩ = some (.bool br) ∧ Below w6.heap.size w6 W) → Calls Tryz.prog 18 #[.agg #[.bool s1, .slice p1 m1 k1, .bool s2, .slice p2 m2 k2, .bool br], .slice lo nk lcap, .int .i64 a] W fun e w' => e = .returned (.bool v) ∧ (w'.cell? ⟨g, off, none⟩ = some (.bool s1) ∧ w'.cell? ⟨g, off + 1, none⟩ = some (.slice p1 m1 k1) ∧ w'.cell? ⟨g, off + 2, none⟩ = some (.bool s2) ∧ w'.cell? ⟨g, off + 3, none⟩ = some (.slice p2 m2 k2) ∧ w'.cell? ⟨g, off + 4, none⟩ = some (.bool br) ∧ Below w6.heap.size w6 w')) := Lib.hid fun W hs => (HAP2.out W (HB6.out.trans (hs.2.2.2.2.2.mono HB6.out.size))).1.mono (by
      rintro e w' ⟨rfl, b⟩
      exact ⟨rfl, HSS.out w' (hs.2.2.2.2.2.trans (b.mono hs.2.2.2.2.2.size))⟩)
    have KB : Hid (∀ W, (W.cell? ⟨g, off, none⟩ = some (.bool s1) ∧ W.cell? ⟨g, off + 1, none⟩ = some (.slice p1 m1 k1) ∧ W.cell? ⟨g, off + 2, none⟩ = some (.bool s2) ∧ W.cell? ⟨g, off + 3, none⟩ = some (.slice p2 m2 k2) ∧ W.cell? ⟨g, off + 4, none⟩ = some (.bool br) ∧ Below w6.heap.size w6 W) → Calls Tryz.prog 19 #[.agg #[.bool s1, .slice p1 m1 k1, .bool s2, .slice p2 m2 k2, .bool br], .slice lo nk lcap, .int .i64 a] W fun e w' => e = .returned (.bool v) ∧ (w'.cell? ⟨g, off, none⟩ = some (.bool s1) ∧ w'.cell? ⟨g, off + 1, none⟩ = some (.slice p1 m1 k1) ∧ w'.cell? ⟨g, off + 2, none⟩ = some (.bool s2) ∧ w'.cell? ⟨g, off + 3, none⟩ = some (.slice p2 m2 k2) ∧ w'.cell? ⟨g, off + 4, none⟩ = some (.bool br) ∧ Below w6.heap.size w6 w')) := Lib.hid fun W hs => (HAP2.out W (HB6.out.trans (hs.2.2.2.2.2.mono HB6.out.size))).2.mono (by
      rintro e w' ⟨rfl, b⟩
      exact ⟨rfl, HSS.out w' (hs.2.2.2.2.2.trans (b.mono hs.2.2.2.2.2.size))⟩)
    have HD := HSS.out w6.drew (Below.refl _ _).drew
    clear hc hx hxm HC0 HAP2 HAPP HAF hv hm1 hm2 h0
    go_wp2_with fail
    go_region_held3 (fun W => W.cell? ⟨g, off, none⟩ = some (.bool s1) ∧ W.cell? ⟨g, off + 1, none⟩ = some (.slice p1 m1 k1) ∧ W.cell? ⟨g, off + 2, none⟩ = some (.bool s2) ∧ W.cell? ⟨g, off + 3, none⟩ = some (.slice p2 m2 k2) ∧ W.cell? ⟨g, off + 4, none⟩ = some (.bool br) ∧ Below w6.heap.size w6 W) (first | assumption | exact HD | go_keep) (first | (go_at_call 18; refine (KA.out _ (by first | assumption | exact HD | exact hg)).mono ?_; rintro e w' ⟨rfl, hg⟩) | (go_at_call 19; refine (KB.out _ (by first | assumption | exact HD | exact hg)).mono ?_; rintro e w' ⟨rfl, hg⟩))
    have HB7 : Hid (Below w6.heap.size w6 w') := Lib.hid hg.2.2.2.2.2
    clear hg HD KA KB HSS
    go_wp2_with fail
    refine (KI.out oa ob ca cb w' (HNA.out.below HB7.out) (HNB.out.below HB7.out)).mono ?_
    rintro e wi ⟨rfl, bi⟩
    have HBi := Lib.hid (HB7.out.trans (bi.mono HB7.out.size))
    have KR1' := Lib.hid (KR1.out wi (HB6.out.trans (HBi.out.mono HB6.out.size)))
    clear bi KI KR1
    go_wp2_with fail
    refine KR1'.out.mono ?_
    rintro e wj ⟨rfl, bj⟩
    have HBj := Lib.hid (HBi.out.trans (bj.mono HBi.out.size))
    have KR2' := Lib.hid (KR2.out wj (HB6.out.trans (HBj.out.mono HB6.out.size)))
    clear bj KR1' KR2
    go_wp2_with fail
    refine KR2'.out.mono ?_
    rintro e wk ⟨rfl, bk⟩
    have HQ := Lib.hid (HPP.out wk (HB2.out.trans ((HB6.out.trans ((HBj.out.trans (bk.mono HBj.out.size)).mono HB6.out.size)).mono HB2.out.size)))
    clear bk KR2'
    cases r <;> cases q1 <;> (go_wp2_with fail; exact HQ.out)
theorem ruleCuts_card (l : List RulX) (o : Option Addr) (cap : Nat) (nn : Int) (L : List Int) (lo : Option Addr) (lcap : Nat) (a : Int) (_h0 : l.length ≤ cap) (h1 : L.length ≤ lcap) (w : World) (aU aS : Addr) (hQ : GlobQ w aU aS) (hG : KGlob w) (hS : w.ShapedOpen Tryz.prog) (A0 : AtC w o l ∧ ItsC w l) (A1 : NumsInQ w lo L ∧ (lo = none → lcap = 0) ∧ ∀ p, lo = some p → 0 < lcap → p.spot = none) :
    Calls Tryz.prog 3 #[.slice o l.length cap, .int .i64 nn, .slice lo L.length lcap, .int .i64 a] w fun e w' => e = .returned (.bool true) ∧ Below w.heap.size w w' := by
  obtain ⟨m, hMx⟩ := mx_shapedJ hS
  exact ruleCuts_anyL o lo l cap lcap L nn a w aU aS hQ hG hMx A0.1 A0.2 ⟨A1.1.1, h1, A1.2.1, A1.2.2⟩
end Go.Proofs.YtnmhdcbpbaanoaaGreatDoor
