/- Shaken by bunq.py. -/
import Derived.Test.YtnmhdcbpbaanoaaGreatDoorBuq29
namespace Go.Proofs.YtnmhdcbpbaanoaaGreatDoor
open Go.RowKit Go.Shelf Go.Maps
attribute [local go_sem] Oper.semAt_some

set_option maxRecDepth 100000 in
set_option maxHeartbeats 40000000 in
theorem reach_step2 (x : ItemP) (xs : List ItemP) (o lo : Option Addr) (cap lcap : Nat) (L : List Int) (F : Nat → Bool) (g : Nat) (hh : x.2 = 2) (hn : L.length ≤ 1000) (hxl : xs.length ≤ 1000) (hxc : xs.length + 1 ≤ cap) (w : World) (hA : AtI w o (x :: xs)) (hL : NumsAt w lo L) (hF : RowB w g L.length F)
    (IH : ∀ o' cap' g' F' W, xs.length ≤ cap' → Below w.heap.size w W → AtI W o' xs → RowB W g' L.length F' → Calls Tryz.prog 89 #[.slice o' xs.length cap', .slice lo L.length lcap, .slice (some ⟨g', 0, none⟩) (L.length + 1) (L.length + 1)] W (ReachQ L.length (reachR L xs F') W)) :
    Calls Tryz.prog 89 #[.slice o (xs.length + 1) cap, .slice lo L.length lcap, .slice (some ⟨g, 0, none⟩) (L.length + 1) (L.length + 1)] w (ReachQ L.length (reachR L (x :: xs) F) w) := by
  obtain ⟨P, hP⟩ : ∃ P, ReachQ L.length (reachR L (x :: xs) F) w = P := ⟨_, rfl⟩
  have HP := Lib.hid hP
  rw [hP]
  obtain ⟨gi, off, rfl, hc⟩ := hA (by simp)
  obtain ⟨k0, k1⟩ := hc 0 x rfl
  rw [show off + 0 * 2 = off from by omega] at k0 k1
  have hgi := World.block_lt_of_cell? w _ k0
  obtain ⟨wi, hwi⟩ : ∃ wi, w.alloc (itO x) = wi := ⟨_, rfl⟩
  have bi : Below w.heap.size w wi := by rw [← hwi]; exact (Below.refl _ _).alloc (Nat.le_refl _) _
  have zi : wi.heap.size = w.heap.size + 1 := by rw [← hwi]; simp
  have ri : wi.heap[w.heap.size]? = some (itO x) := by rw [← hwi]; exact heap_alloc_new _ _
  obtain ⟨o1, hm1, ho1⟩ := makeB wi L.length (by omega)
  obtain ⟨w1, hw1⟩ : ∃ w1, wi.alloc o1 = w1 := ⟨_, rfl⟩
  have b1 : Below wi.heap.size wi w1 := by rw [← hw1]; exact (Below.refl _ _).alloc (Nat.le_refl _) _
  have z1 : w1.heap.size = w.heap.size + 2 := by rw [← hw1]; simp; omega
  rw [hw1] at hm1 ho1
  obtain ⟨o2, hm2, ho2⟩ := makeB w1 L.length (by omega)
  obtain ⟨w2, hw2⟩ : ∃ w2, w1.alloc o2 = w2 := ⟨_, rfl⟩
  have b2 : Below w1.heap.size w1 w2 := by rw [← hw2]; exact (Below.refl _ _).alloc (Nat.le_refl _) _
  rw [hw2] at hm2 ho2
  rw [zi] at hm1 ho1
  rw [← hwi] at hm1
  rw [z1] at hm2 ho2
  have B1 := bi.trans (b1.mono bi.size)
  have B2 := B1.trans (b2.mono B1.size)
  have HST : Hid (EndI x L F L.length w.heap.size (w.heap.size + 1) g w 0 w2) := Lib.hid ⟨(ho1.keep (Moves.of_below (S := fun _ => False) b2) (fun h => h)).ext fun p _ => (out_zero _ _ _ p).symm, ho2.ext fun p _ => (half_zero _ _ _ p).symm, row_below (row_below ri b1) b2, hF.keep (Moves.of_below (S := fun _ => False) B2) (fun h => h), B2⟩
  have HIH := Lib.hid IH
  have HL := Lib.hid hL
  have HC := Lib.hid hc
  have HGF := Lib.hid hF.lt
  obtain ⟨n, hn'⟩ : ∃ n, L.length = n := ⟨_, rfl⟩
  obtain ⟨m, hm⟩ : ∃ m, xs.length = m := ⟨_, rfl⟩
  have HN := Lib.hid hn'
  have HM := Lib.hid hm
  have HHA := Lib.hid (fun c W => refHas_any x.1 c W)
  rw [hn'] at hm1 hm2 hn HST HIH ⊢
  rw [hm] at hxl hxc HIH ⊢
  have HWI := Lib.hid hwi
  obtain ⟨s, h⟩ := x
  simp only at k0 k1 hh HHA
  have HH0 := Lib.hid hh
  clear hh hP hA hL hF IH hc bi zi ri b1 z1 b2 ho1 ho2 hw1 hw2 B1 B2 hn' hm hwi
  go_enter Tryz.func89, Tryz.ntmps89
  go_wp2_with fail
  go_loopg [10] (n + 1) (fun k' v10 wr => ∃ (i : Nat), v10 = .int .i64 (i : Nat) ∧ i ≤ n + 1 ∧ n + 1 - i = k' ∧ Hid (EndI (s, h) L F n w.heap.size (w.heap.size + 1) g w i wr))
  case atStart => exact ⟨0, rfl, Nat.zero_le _, rfl, HST⟩
  case round =>
    obtain ⟨i, rfl, hi, rfl, HI⟩ := hrel
    have hi6 : i < 1000000 := by omega
    obtain ⟨ro, rh, ra, rf, hb⟩ := HI.out
    rcases Nat.lt_or_ge n i with hgt | hle
    · obtain rfl : i = n + 1 := by omega
      have rE : RowB wr (w.heap.size + 1) n (fun p => (endsR (s, h) L F p).1) := ro.ext fun p hp => by unfold outQ; rw [if_pos (by omega)]
      have hl1 : ¬ n + 1 ≤ n := by omega
      have hl2 : ¬ ((n + 1 : Nat) : Int) ≤ ((n : Nat) : Int) := by omega
      have hl3 : ¬ ((n : Nat) : Int) + 1 ≤ ((n : Nat) : Int) := by omega
      have FIN : Hid (∀ e w', ReachQ n (reachR L xs fun p => (endsR (s, h) L F p).1) wr e w' → ∃ g', e = .returned (.slice (some ⟨g', 0, none⟩) (n + 1) (n + 1)) ∧ P (.returned (.slice (some ⟨g', 0, none⟩) (n + 1) (n + 1))) w') := Lib.hid fun e w' hq => by
        obtain ⟨g', rfl, h1, h2⟩ := hq
        refine ⟨g', rfl, ?_⟩
        rw [← HP.out, HN.out]
        exact ⟨g', rfl, h1, hb.trans (h2.mono hb.size)⟩
      have HCI : Hid (∀ o' cap', m ≤ cap' → AtI wr o' xs → Calls Tryz.prog 89 #[.slice o' m cap', .slice lo n lcap, .slice (some ⟨w.heap.size + 1, 0, none⟩) (n + 1) (n + 1)] wr fun e w' => ∃ g', e = .returned (.slice (some ⟨g', 0, none⟩) (n + 1) (n + 1)) ∧ P (.returned (.slice (some ⟨g', 0, none⟩) (n + 1) (n + 1))) w') := Lib.hid fun o' cap' h1 h2 => (HIH.out o' cap' _ _ wr h1 hb h2 rE).mono FIN.out
      have HAT : Hid (AtI wr (some ⟨gi, off + 2, none⟩) xs) := Lib.hid fun _ => ⟨gi, off + 2, rfl, fun j y hy => by
        obtain ⟨c0, c1⟩ := HC.out (j + 1) y (by simpa using hy)
        rw [show off + (j + 1) * 2 = off + 2 + j * 2 from by omega] at c0 c1
        exact ⟨cell_keepQ hb c0, cell_keepQ hb c1⟩⟩
      by_cases hc1 : cap = 1
      · subst hc1
        obtain rfl : m = 0 := by omega
        have HCC := Lib.hid (HCI.out (some ⟨gi, off, none⟩) 0 (Nat.le_refl _) (fun h0 => by have := HM.out; omega))
        clear rE ro rh ra rf hb
        go_wp2_with fail
        refine HCC.out.mono ?_
        rintro e w' ⟨g', rfl, hp⟩
        have HF := Lib.hid hp
        clear hp
        go_wp2
        first | exact HF.out | (go_ret; exact HF.out)
      · obtain ⟨cp, rfl⟩ : ∃ cp, cap = cp + 1 := ⟨cap - 1, by omega⟩
        have HCC := Lib.hid (HCI.out (some ⟨gi, off + 2, none⟩) cp (by omega) HAT.out)
        have hcp : 1 ≤ cp + 1 := by omega
        have hcp0 : ¬ cp = 0 := by omega
        clear rE ro rh ra rf hb
        go_wp2_with fail
        refine HCC.out.mono ?_
        rintro e w' ⟨g', rfl, hp⟩
        have HF := Lib.hid hp
        clear hp
        go_wp2
        first | exact HF.out | (go_ret; exact HF.out)
    · have hh := HH0.out
      subst hh
      have hE := out_step (s, 2) L F i
      have kA := ro.cell hle
      have kF := rf.cell hle
      obtain ⟨i0, i1⟩ := it_cells ra
      have fz := ro.frozen i
      have hEi : (endsR (s, 2) L F i).1 = (outQ (s, 2) L F i i || (F i && decide ((2 : Int) ≠ 0))) := by
        have := hE i
        rw [if_pos rfl, if_pos (Nat.le_refl _)] at this
        exact this.symm
      have hgne : ¬ g = w.heap.size + 1 := by have := HGF.out; omega
      have hgne2 : ¬ g = w.heap.size + 2 := by have := HGF.out; omega
      obtain ⟨A, hA⟩ : ∃ A, outQ (s, 2) L F i i = A := ⟨_, rfl⟩
      obtain ⟨B, hB⟩ : ∃ B, F i = B := ⟨_, rfl⟩
      obtain ⟨H, hH⟩ : ∃ H, halfQ (s, 2) L F i i = H := ⟨_, rfl⟩
      rw [hA] at kA hEi
      rw [hB] at kF hEi
      have HE := Lib.hid hE
      have HAA := Lib.hid hA
      have HBB := Lib.hid hB
      have HHH := Lib.hid hH
      clear hE hA hB hH
      cases A with
      | true =>
        have hEv : (endsR (s, 2) L F i).1 = true := by rw [hEi]; rfl
        obtain ⟨W1', hW1⟩ : ∃ W1', wr.setCell ⟨w.heap.size + 1, i, none⟩ (.bool true) = W1' := ⟨_, rfl⟩
        have m1 : Moves (fun k => k = w.heap.size + 1) wr W1' := by rw [← hW1]; exact Moves.setCell rfl
        have HW1 := Lib.hid hW1
        have ro1' : RowB W1' (w.heap.size + 1) n (fun p => if p ≤ i then (endsR (s, 2) L F p).1 else false) := by
          rw [← hW1]
          refine (ro.set i true hle).ext fun p _ => ?_
          rw [← HE.out p, HAA.out, HBB.out, ← hEi, hEv]
        have k1' := Lib.hid (row_keep ra m1 (by omega))
        obtain ⟨j0, j1⟩ := it_cells k1'.out
        obtain ⟨W1, hW1d⟩ : ∃ W1, W1'.drew = W1 := ⟨_, rfl⟩
        have md : Moves (fun k => k = w.heap.size + 1) wr W1 := by rw [← hW1d]; exact m1.drew
        have ro1 : RowB W1 (w.heap.size + 1) n (fun p => if p ≤ i then (endsR (s, 2) L F p).1 else false) := by rw [← hW1d]; exact ro1'
        have rh1 := rh.keep md (by omega)
        have ra1 := row_keep ra md (by omega)
        have rf1 := rf.keep md hgne
        have hb1 := Moves.below hb hb.size md (fun k hk => by omega)
        have HWD := Lib.hid hW1d
        obtain ⟨n0, n1⟩ := it_cells ra1
        have hbL := Moves.below hb hb.size m1 (fun k hk => by omega)
        clear hW1 m1 hEi ro1' md hW1d
        go_wp2_with fail
        rw [HW1.out]
        by_cases hin : i = n
        · have hinb : (((i : Nat) : Int) == ((n : Nat) : Int)) = true := by rw [hin]; simp
          have hnn := none_next (s, 2) L F (i := i) (fun c hc => by have := (List.getElem?_eq_some_iff.1 hc).1; have := HN.out; omega)
          have HNEW : Hid (EndI (s, 2) L F n w.heap.size (w.heap.size + 1) g w (i + 1) W1) := Lib.hid ⟨ro1.ext fun p _ => (out_none hnn.1 p).symm, rh1.ext fun p _ => (half_none hnn.2 p).symm, ra1, rf1, hb1⟩
          clear ro1 rh1 ra1 rf1 hb1 hbL hEv hnn hin
          refine wp_region_any (by kernel_rfl) ?_
          try (change wpAny _ _ _ _ _ _ _ (World.drew _))
          refine wpAny_take (i := 0) (v := ?_) rfl (by kernel_rfl) (by kernel_rfl) (by kernel_rfl) (fun _ _ _ h => h) (Or.inl ⟨by kernel_rfl, ?_⟩) ?_
          rotate_left 1
          · (intro w; first | (go_simp; done) | (go_simp; with_reducible rfl))
          change wpAny _ _ _ _ _ _ (Act.put _ (some 50) _) _
          refine wpAny_take (i := 1) (v := ?_) rfl (by kernel_rfl) (by kernel_rfl) (by kernel_rfl) (fun _ _ _ h => h) (Or.inl ⟨by kernel_rfl, ?_⟩) ?_
          rotate_left 1
          · (intro w; first | (go_simp; done) | (go_simp; with_reducible rfl))
          change wpAny _ _ _ _ _ _ (Act.put _ (some 51) _) _
          refine wpAny_take (i := 2) (v := ?_) rfl (by kernel_rfl) (by kernel_rfl) (by kernel_rfl) (fun _ _ _ h => h) (Or.inl ⟨by kernel_rfl, ?_⟩) ?_
          rotate_left 1
          · (intro w; first | (go_simp; done) | (go_simp; with_reducible rfl))
          change wpAny _ _ _ _ _ _ (Act.put _ (some 52) _) _
          refine wpAny_take (i := 3) (v := ?_) rfl (by kernel_rfl) (by kernel_rfl) (by kernel_rfl) (fun _ _ _ h => h) (Or.inl ⟨by kernel_rfl, ?_⟩) ?_
          rotate_left 1
          · (intro w; first | (go_simp; done) | (go_simp; with_reducible rfl))
          change wpAny _ _ _ _ _ _ (Act.put _ (some 53) _) _
          refine wpAny_take (i := 4) (v := ?_) rfl (by kernel_rfl) (by kernel_rfl) (by kernel_rfl) (fun _ _ _ h => h) (Or.inl ⟨by kernel_rfl, ?_⟩) ?_
          rotate_left 1
          · (intro w; first | (go_simp; done) | (go_simp; with_reducible rfl))
          change wpAny _ _ _ _ _ _ (Act.put _ (some 54) _) _
          refine wpAny_take (i := 5) (v := undef) rfl (by kernel_rfl) (by kernel_rfl) (by kernel_rfl) (fun _ _ _ h => h) (Or.inr ⟨by kernel_rfl, rfl⟩) ?_
          change wpAny _ _ _ _ _ _ (Act.put _ (some 55) _) _
          refine wpAny_take (i := 6) (v := undef) rfl (by kernel_rfl) (by kernel_rfl) (by kernel_rfl) (fun _ _ _ h => h) (Or.inr ⟨by kernel_rfl, rfl⟩) ?_
          change wpAny _ _ _ _ _ _ (Act.put _ (some 56) _) _
          refine wpAny_take (i := 7) (v := undef) rfl (by kernel_rfl) (by kernel_rfl) (by kernel_rfl) (fun _ _ _ h => h) (Or.inr ⟨by kernel_rfl, rfl⟩) ?_
          change wpAny _ _ _ _ _ _ (Act.put _ (some 57) _) _
          refine wpAny_take (i := 8) (v := undef) rfl (by kernel_rfl) (by kernel_rfl) (by kernel_rfl) (fun _ _ _ h => h) (Or.inr ⟨by kernel_rfl, rfl⟩) ?_
          change wpAny _ _ _ _ _ _ (Act.put _ (some 58) _) _
          refine wpAny_take (i := 9) (v := undef) rfl (by kernel_rfl) (by kernel_rfl) (by kernel_rfl) (fun _ _ _ h => h) (Or.inr ⟨by kernel_rfl, rfl⟩) ?_
          change wpAny _ _ _ _ _ _ (Act.put _ (some 59) _) _
          refine wpAny_take (i := 10) (v := undef) rfl (by kernel_rfl) (by kernel_rfl) (by kernel_rfl) (fun _ _ _ h => h) (Or.inr ⟨by kernel_rfl, rfl⟩) ?_
          change wpAny _ _ _ _ _ _ (Act.put _ (some 60) _) _
          refine wpAny_take (i := 11) (v := undef) rfl (by kernel_rfl) (by kernel_rfl) (by kernel_rfl) (fun _ _ _ h => h) (Or.inr ⟨by kernel_rfl, rfl⟩) ?_
          change wpAny _ _ _ _ _ _ (Act.put _ (some 61) _) _
          refine wpAny_take (i := 12) (v := undef) rfl (by kernel_rfl) (by kernel_rfl) (by kernel_rfl) (fun _ _ _ h => h) (Or.inr ⟨by kernel_rfl, rfl⟩) ?_
          change wpAny _ _ _ _ _ _ (Act.put _ (some 62) _) _
          refine wpAny_take (i := 13) (v := ?_) rfl (by kernel_rfl) (by kernel_rfl) (by kernel_rfl) (fun _ _ _ h => h) (Or.inl ⟨by kernel_rfl, ?_⟩) ?_
          rotate_left 1
          · (intro w; first | (go_simp; done) | (go_simp; with_reducible rfl))
          change wpAny _ _ _ _ _ _ (Act.put _ (some 63) _) _
          refine wpAny_done (by kernel_rfl) ?_ _
          go_simp
          go_wp2
          rw [HWD.out]
          go_roundg (n + 1 - (i + 1))
          case measure => omega
          case rel => exact ⟨i + 1, by simp, by omega, rfl, HNEW⟩
        · have hinb : (((i : Nat) : Int) == ((n : Nat) : Int)) = false := by rw [beq_eq_false_iff_ne]; omega
          have hltn : i < n := by omega
          obtain ⟨c, hcL⟩ : ∃ c, L[i]? = some c := ⟨_, List.getElem?_eq_getElem (by have := HN.out; omega)⟩
          obtain ⟨gl, offl, rfl, hcc⟩ := (HL.out.below hbL) (by have := HN.out; omega)
          have kc := hcc i c hcL
          have HHC := Lib.hid (HHA.out c W1'.drew)
          clear hcc hbL
          cases hhas : hasZ s c with
          | false =>
            rw [hhas] at HHC
            have hnn := none_next (s, 2) L F (i := i) (fun c' hc' => by rw [hcL] at hc'; cases hc'; exact hhas)
            have HNEW : Hid (EndI (s, 2) L F n w.heap.size (w.heap.size + 1) g w (i + 1) W1) := Lib.hid ⟨ro1.ext fun p _ => (out_none hnn.1 p).symm, rh1.ext fun p _ => (half_none hnn.2 p).symm, ra1, rf1, hb1⟩
            clear ro1 rh1 ra1 rf1 hb1 hEv hnn hcL hhas
            refine wp_region_any (by kernel_rfl) ?_
            try (change wpAny _ _ _ _ _ _ _ (World.drew _))
            refine wpAny_take (i := 0) (v := ?_) rfl (by kernel_rfl) (by kernel_rfl) (by kernel_rfl) (fun _ _ _ h => h) (Or.inl ⟨by kernel_rfl, ?_⟩) ?_
            rotate_left 1
            · (intro w; first | (go_simp; done) | (go_simp; with_reducible rfl))
            change wpAny _ _ _ _ _ _ (Act.put _ (some 50) _) _
            refine wpAny_take (i := 1) (v := ?_) rfl (by kernel_rfl) (by kernel_rfl) (by kernel_rfl) (fun _ _ _ h => h) (Or.inl ⟨by kernel_rfl, ?_⟩) ?_
            rotate_left 1
            · (intro w; first | (go_simp; done) | (go_simp; with_reducible rfl))
            change wpAny _ _ _ _ _ _ (Act.put _ (some 51) _) _
            refine wpAny_take (i := 2) (v := ?_) rfl (by kernel_rfl) (by kernel_rfl) (by kernel_rfl) (fun _ _ _ h => h) (Or.inl ⟨by kernel_rfl, ?_⟩) ?_
            rotate_left 1
            · (intro w; first | (go_simp; done) | (go_simp; with_reducible rfl))
            change wpAny _ _ _ _ _ _ (Act.put _ (some 52) _) _
            refine wpAny_take (i := 3) (v := ?_) rfl (by kernel_rfl) (by kernel_rfl) (by kernel_rfl) (fun _ _ _ h => h) (Or.inl ⟨by kernel_rfl, ?_⟩) ?_
            rotate_left 1
            · (intro w; first | (go_simp; done) | (go_simp; with_reducible rfl))
            change wpAny _ _ _ _ _ _ (Act.put _ (some 53) _) _
            refine wpAny_take (i := 4) (v := ?_) rfl (by kernel_rfl) (by kernel_rfl) (by kernel_rfl) (fun _ _ _ h => h) (Or.inl ⟨by kernel_rfl, ?_⟩) ?_
            rotate_left 1
            · (intro w; first | (go_simp; done) | (go_simp; with_reducible rfl))
            change wpAny _ _ _ _ _ _ (Act.put _ (some 54) _) _
            refine wpAny_take (i := 5) (v := ?_) rfl (by kernel_rfl) (by kernel_rfl) (by kernel_rfl) (fun _ _ _ h => h) (Or.inl ⟨by kernel_rfl, ?_⟩) ?_
            rotate_left 1
            · (intro w; first | (go_simp; done) | (go_simp; with_reducible rfl))
            change wpAny _ _ _ _ _ _ (Act.put _ (some 55) _) _
            refine wpAny_take (i := 7) (v := ?_) rfl (by kernel_rfl) (by kernel_rfl) (by kernel_rfl) (fun _ _ _ h => h) (Or.inl ⟨by kernel_rfl, ?_⟩) ?_
            rotate_left 1
            · (intro w; first | (go_simp; done) | (go_simp; with_reducible rfl))
            change wpAny _ _ _ _ _ _ (Act.put _ (some 57) _) _
            refine wpAny_take (i := 8) (v := ?_) rfl (by kernel_rfl) (by kernel_rfl) (by kernel_rfl) (fun _ _ _ h => h) (Or.inl ⟨by kernel_rfl, ?_⟩) ?_
            rotate_left 1
            · (intro w; first | (go_simp; done) | (go_simp; with_reducible rfl))
            change wpAny _ _ _ _ _ _ (Act.put _ (some 58) _) _
            refine wpAny_take (i := 9) (v := ?_) rfl (by kernel_rfl) (by kernel_rfl) (by kernel_rfl) (fun _ _ _ h => h) (Or.inl ⟨by kernel_rfl, ?_⟩) ?_
            rotate_left 1
            · (intro w; first | (go_simp; done) | (go_simp; with_reducible rfl))
            change wpAny _ _ _ _ _ _ (Act.put _ (some 59) _) _
            refine wpAny_ready (rs := [6, 10]) (by kernel_rfl) (by simp) ?_
            refine AllReady.cons rfl (fun K hK => ?_) ?_
            focus
              go_simp
              refine hK _ _ ?_
              clear hK K
              refine wpAny_ready (rs := [10]) (by kernel_rfl) (by simp) ?_
              refine AllReady.cons rfl (fun K hK => ?_) AllReady.nil
              go_simp
              refine hK _ _ ?_
              clear hK K
              refine wpAny_ready (rs := [11]) (by kernel_rfl) (by simp) ?_
              refine AllReady.cons rfl (fun K hK => ?_) AllReady.nil
              go_simp
              go_wp2_with (refine HHC.out.mono ?_; rintro e _ ⟨rfl, rfl⟩)
              refine wpAny_take (i := 12) (v := ?_) rfl (by kernel_rfl) (by kernel_rfl) (by kernel_rfl) (fun _ _ _ h => h) (Or.inl ⟨by kernel_rfl, ?_⟩) ?_
              rotate_left 1
              · (intro w; first | (go_simp; done) | (go_simp; with_reducible rfl))
              change wpAny _ _ _ _ _ _ (Act.put _ (some 62) _) _
              refine wpAny_take (i := 13) (v := ?_) rfl (by kernel_rfl) (by kernel_rfl) (by kernel_rfl) (fun _ _ _ h => h) (Or.inl ⟨by kernel_rfl, ?_⟩) ?_
              rotate_left 1
              · (intro w; first | (go_simp; done) | (go_simp; with_reducible rfl))
              change wpAny _ _ _ _ _ _ (Act.put _ (some 63) _) _
              refine wpAny_done (by kernel_rfl) ?_ _
              go_simp
              go_wp2
              rw [HWD.out]
              go_roundg (n + 1 - (i + 1))
              case measure => omega
              case rel => exact ⟨i + 1, by simp, by omega, rfl, HNEW⟩
            refine AllReady.cons rfl (fun K hK => ?_) AllReady.nil
            go_simp
            refine hK _ _ ?_
            clear hK K
            refine wpAny_ready (rs := [6]) (by kernel_rfl) (by simp) ?_
            refine AllReady.cons rfl (fun K hK => ?_) AllReady.nil
            go_simp
            refine hK _ _ ?_
            clear hK K
            refine wpAny_ready (rs := [11]) (by kernel_rfl) (by simp) ?_
            refine AllReady.cons rfl (fun K hK => ?_) AllReady.nil
            go_simp
            go_wp2_with (refine HHC.out.mono ?_; rintro e _ ⟨rfl, rfl⟩)
            refine wpAny_take (i := 12) (v := ?_) rfl (by kernel_rfl) (by kernel_rfl) (by kernel_rfl) (fun _ _ _ h => h) (Or.inl ⟨by kernel_rfl, ?_⟩) ?_
            rotate_left 1
            · (intro w; first | (go_simp; done) | (go_simp; with_reducible rfl))
            change wpAny _ _ _ _ _ _ (Act.put _ (some 62) _) _
            refine wpAny_take (i := 13) (v := ?_) rfl (by kernel_rfl) (by kernel_rfl) (by kernel_rfl) (fun _ _ _ h => h) (Or.inl ⟨by kernel_rfl, ?_⟩) ?_
            rotate_left 1
            · (intro w; first | (go_simp; done) | (go_simp; with_reducible rfl))
            change wpAny _ _ _ _ _ _ (Act.put _ (some 63) _) _
            refine wpAny_done (by kernel_rfl) ?_ _
            go_simp
            go_wp2
            rw [HWD.out]
            go_roundg (n + 1 - (i + 1))
            case measure => omega
            case rel => exact ⟨i + 1, by simp, by omega, rfl, HNEW⟩
          | true =>
            rw [hhas] at HHC
            have e2 := ro1.cell (show i + 1 ≤ n by omega)
            have e3 := ro1.cell hle
            rw [if_pos (Nat.le_refl i), hEv] at e3
            have z2 := ro1.frozen (i + 1)
            have y2 : W1.cell? ⟨w.heap.size + 2, i + 1, none⟩ = _ := rh1.cell (show i + 1 ≤ n by omega)
            have y3 : W1.cell? ⟨w.heap.size + 2, i, none⟩ = _ := rh1.cell hle
            rw [HHH.out] at y3
            have x2 : W1.frozen? ⟨w.heap.size + 2, i + 1, none⟩ = false := rh1.frozen (i + 1)
            obtain ⟨W2, hW2⟩ : ∃ W2, W1.setCell ⟨w.heap.size + 2, i + 1, none⟩ (.bool true) = W2 := ⟨_, rfl⟩
            have m2 : Moves (fun k => k = w.heap.size + 2) W1 W2 := by rw [← hW2]; exact Moves.setCell rfl
            obtain ⟨W3, hW3⟩ : ∃ W3, W2.setCell ⟨w.heap.size + 1, i + 1, none⟩ (.bool H) = W3 := ⟨_, rfl⟩
            have m3 : Moves (fun k => k = w.heap.size + 1) W2 W3 := by rw [← hW3]; exact Moves.setCell rfl
            have HNEW : Hid (EndI (s, 2) L F n w.heap.size (w.heap.size + 1) g w (i + 1) W3) := by
              have rh2 : RowB W2 (w.heap.size + 1 + 1) n (halfQ (s, 2) L F (i + 1)) := by
                rw [← hW2]
                refine (rh1.set (i + 1) true (by omega)).ext fun p _ => ?_
                rw [half_next, (some_next (s, 2) L F hcL hhas).2, hEv]
                simp
              have ro2 := ro1.keep m2 (by omega)
              have ra2 := row_keep ra1 m2 (by omega)
              have hb2 := Moves.below hb1 hb1.size m2 (fun k hk => by omega)
              refine Lib.hid ⟨?_, rh2.keep m3 (by omega), row_keep ra2 m3 (by omega), (rf1.keep m2 hgne2).keep m3 hgne, Moves.below hb2 hb2.size m3 (fun k hk => by omega)⟩
              rw [← hW3]
              refine (ro2.set (i + 1) H (by omega)).ext fun p _ => ?_
              rw [out_next, (some_next (s, 2) L F hcL hhas).1, ← half_at, HHH.out]
              simp
            have HW2 := Lib.hid hW2
            have HW3 := Lib.hid hW3
            clear ro1 rh1 ra1 rf1 hb1 hW2 m2 hEv hcL hhas hW3 m3
            refine wp_region_any (by kernel_rfl) ?_
            try (change wpAny _ _ _ _ _ _ _ (World.drew _))
            refine wpAny_take (i := 0) (v := ?_) rfl (by kernel_rfl) (by kernel_rfl) (by kernel_rfl) (fun _ _ _ h => h) (Or.inl ⟨by kernel_rfl, ?_⟩) ?_
            rotate_left 1
            · (intro w; first | (go_simp; done) | (go_simp; with_reducible rfl))
            change wpAny _ _ _ _ _ _ (Act.put _ (some 50) _) _
            refine wpAny_take (i := 1) (v := ?_) rfl (by kernel_rfl) (by kernel_rfl) (by kernel_rfl) (fun _ _ _ h => h) (Or.inl ⟨by kernel_rfl, ?_⟩) ?_
            rotate_left 1
            · (intro w; first | (go_simp; done) | (go_simp; with_reducible rfl))
            change wpAny _ _ _ _ _ _ (Act.put _ (some 51) _) _
            refine wpAny_take (i := 2) (v := ?_) rfl (by kernel_rfl) (by kernel_rfl) (by kernel_rfl) (fun _ _ _ h => h) (Or.inl ⟨by kernel_rfl, ?_⟩) ?_
            rotate_left 1
            · (intro w; first | (go_simp; done) | (go_simp; with_reducible rfl))
            change wpAny _ _ _ _ _ _ (Act.put _ (some 52) _) _
            refine wpAny_take (i := 3) (v := ?_) rfl (by kernel_rfl) (by kernel_rfl) (by kernel_rfl) (fun _ _ _ h => h) (Or.inl ⟨by kernel_rfl, ?_⟩) ?_
            rotate_left 1
            · (intro w; first | (go_simp; done) | (go_simp; with_reducible rfl))
            change wpAny _ _ _ _ _ _ (Act.put _ (some 53) _) _
            refine wpAny_take (i := 4) (v := ?_) rfl (by kernel_rfl) (by kernel_rfl) (by kernel_rfl) (fun _ _ _ h => h) (Or.inl ⟨by kernel_rfl, ?_⟩) ?_
            rotate_left 1
            · (intro w; first | (go_simp; done) | (go_simp; with_reducible rfl))
            change wpAny _ _ _ _ _ _ (Act.put _ (some 54) _) _
            refine wpAny_take (i := 5) (v := ?_) rfl (by kernel_rfl) (by kernel_rfl) (by kernel_rfl) (fun _ _ _ h => h) (Or.inl ⟨by kernel_rfl, ?_⟩) ?_
            rotate_left 1
            · (intro w; first | (go_simp; done) | (go_simp; with_reducible rfl))
            change wpAny _ _ _ _ _ _ (Act.put _ (some 55) _) _
            refine wpAny_take (i := 7) (v := ?_) rfl (by kernel_rfl) (by kernel_rfl) (by kernel_rfl) (fun _ _ _ h => h) (Or.inl ⟨by kernel_rfl, ?_⟩) ?_
            rotate_left 1
            · (intro w; first | (go_simp; done) | (go_simp; with_reducible rfl))
            change wpAny _ _ _ _ _ _ (Act.put _ (some 57) _) _
            refine wpAny_take (i := 8) (v := ?_) rfl (by kernel_rfl) (by kernel_rfl) (by kernel_rfl) (fun _ _ _ h => h) (Or.inl ⟨by kernel_rfl, ?_⟩) ?_
            rotate_left 1
            · (intro w; first | (go_simp; done) | (go_simp; with_reducible rfl))
            change wpAny _ _ _ _ _ _ (Act.put _ (some 58) _) _
            refine wpAny_take (i := 9) (v := ?_) rfl (by kernel_rfl) (by kernel_rfl) (by kernel_rfl) (fun _ _ _ h => h) (Or.inl ⟨by kernel_rfl, ?_⟩) ?_
            rotate_left 1
            · (intro w; first | (go_simp; done) | (go_simp; with_reducible rfl))
            change wpAny _ _ _ _ _ _ (Act.put _ (some 59) _) _
            refine wpAny_ready (rs := [6, 10]) (by kernel_rfl) (by simp) ?_
            refine AllReady.cons rfl (fun K hK => ?_) ?_
            focus
              go_simp
              refine hK _ _ ?_
              clear hK K
              refine wpAny_ready (rs := [10]) (by kernel_rfl) (by simp) ?_
              refine AllReady.cons rfl (fun K hK => ?_) AllReady.nil
              go_simp
              refine hK _ _ ?_
              clear hK K
              refine wpAny_ready (rs := [11]) (by kernel_rfl) (by simp) ?_
              refine AllReady.cons rfl (fun K hK => ?_) AllReady.nil
              go_simp
              go_wp2_with (refine HHC.out.mono ?_; rintro e _ ⟨rfl, rfl⟩)
              refine wpAny_take (i := 12) (v := ?_) rfl (by kernel_rfl) (by kernel_rfl) (by kernel_rfl) (fun _ _ _ h => h) (Or.inl ⟨by kernel_rfl, ?_⟩) ?_
              rotate_left 1
              · (intro w; first | (go_simp; done) | (go_simp; with_reducible rfl))
              change wpAny _ _ _ _ _ _ (Act.put _ (some 62) _) _
              refine wpAny_take (i := 13) (v := ?_) rfl (by kernel_rfl) (by kernel_rfl) (by kernel_rfl) (fun _ _ _ h => h) (Or.inl ⟨by kernel_rfl, ?_⟩) ?_
              rotate_left 1
              · (intro w; first | (go_simp; done) | (go_simp; with_reducible rfl))
              change wpAny _ _ _ _ _ _ (Act.put _ (some 63) _) _
              refine wpAny_done (by kernel_rfl) ?_ _
              go_simp
              rw [HWD.out]
              go_wp2
              rw [HW2.out, HW3.out]
              go_roundg (n + 1 - (i + 1))
              case measure => omega
              case rel => exact ⟨i + 1, by simp, by omega, rfl, HNEW⟩
            refine AllReady.cons rfl (fun K hK => ?_) AllReady.nil
            go_simp
            refine hK _ _ ?_
            clear hK K
            refine wpAny_ready (rs := [6]) (by kernel_rfl) (by simp) ?_
            refine AllReady.cons rfl (fun K hK => ?_) AllReady.nil
            go_simp
            refine hK _ _ ?_
            clear hK K
            refine wpAny_ready (rs := [11]) (by kernel_rfl) (by simp) ?_
            refine AllReady.cons rfl (fun K hK => ?_) AllReady.nil
            go_simp
            go_wp2_with (refine HHC.out.mono ?_; rintro e _ ⟨rfl, rfl⟩)
            refine wpAny_take (i := 12) (v := ?_) rfl (by kernel_rfl) (by kernel_rfl) (by kernel_rfl) (fun _ _ _ h => h) (Or.inl ⟨by kernel_rfl, ?_⟩) ?_
            rotate_left 1
            · (intro w; first | (go_simp; done) | (go_simp; with_reducible rfl))
            change wpAny _ _ _ _ _ _ (Act.put _ (some 62) _) _
            refine wpAny_take (i := 13) (v := ?_) rfl (by kernel_rfl) (by kernel_rfl) (by kernel_rfl) (fun _ _ _ h => h) (Or.inl ⟨by kernel_rfl, ?_⟩) ?_
            rotate_left 1
            · (intro w; first | (go_simp; done) | (go_simp; with_reducible rfl))
            change wpAny _ _ _ _ _ _ (Act.put _ (some 63) _) _
            refine wpAny_done (by kernel_rfl) ?_ _
            go_simp
            rw [HWD.out]
            go_wp2
            rw [HW2.out, HW3.out]
            go_roundg (n + 1 - (i + 1))
            case measure => omega
            case rel => exact ⟨i + 1, by simp, by omega, rfl, HNEW⟩
      | false =>
        cases B with
        | false =>
          have hEv : (endsR (s, 2) L F i).1 = false := by rw [hEi]; rfl
          obtain ⟨W1', hW1⟩ : ∃ W1', wr.setCell ⟨w.heap.size + 1, i, none⟩ (.bool false) = W1' := ⟨_, rfl⟩
          have m1 : Moves (fun k => k = w.heap.size + 1) wr W1' := by rw [← hW1]; exact Moves.setCell rfl
          have HW1 := Lib.hid hW1
          have ro1' : RowB W1' (w.heap.size + 1) n (fun p => if p ≤ i then (endsR (s, 2) L F p).1 else false) := by
            rw [← hW1]
            refine (ro.set i false hle).ext fun p _ => ?_
            rw [← HE.out p, HAA.out, HBB.out, ← hEi, hEv]
          have k1' := Lib.hid (row_keep ra m1 (by omega))
          obtain ⟨j0, j1⟩ := it_cells k1'.out
          obtain ⟨W1, hW1d⟩ : ∃ W1, W1'.drew = W1 := ⟨_, rfl⟩
          have md : Moves (fun k => k = w.heap.size + 1) wr W1 := by rw [← hW1d]; exact m1.drew
          have ro1 : RowB W1 (w.heap.size + 1) n (fun p => if p ≤ i then (endsR (s, 2) L F p).1 else false) := by rw [← hW1d]; exact ro1'
          have rh1 := rh.keep md (by omega)
          have ra1 := row_keep ra md (by omega)
          have rf1 := rf.keep md hgne
          have hb1 := Moves.below hb hb.size md (fun k hk => by omega)
          have HWD := Lib.hid hW1d
          obtain ⟨n0, n1⟩ := it_cells ra1
          have hbL := Moves.below hb hb.size m1 (fun k hk => by omega)
          clear hW1 m1 hEi ro1' md hW1d
          go_wp2_with fail
          rw [HW1.out]
          by_cases hin : i = n
          · have hinb : (((i : Nat) : Int) == ((n : Nat) : Int)) = true := by rw [hin]; simp
            have hnn := none_next (s, 2) L F (i := i) (fun c hc => by have := (List.getElem?_eq_some_iff.1 hc).1; have := HN.out; omega)
            have HNEW : Hid (EndI (s, 2) L F n w.heap.size (w.heap.size + 1) g w (i + 1) W1) := Lib.hid ⟨ro1.ext fun p _ => (out_none hnn.1 p).symm, rh1.ext fun p _ => (half_none hnn.2 p).symm, ra1, rf1, hb1⟩
            clear ro1 rh1 ra1 rf1 hb1 hbL hEv hnn hin
            refine wp_region_any (by kernel_rfl) ?_
            try (change wpAny _ _ _ _ _ _ _ (World.drew _))
            refine wpAny_take (i := 0) (v := ?_) rfl (by kernel_rfl) (by kernel_rfl) (by kernel_rfl) (fun _ _ _ h => h) (Or.inl ⟨by kernel_rfl, ?_⟩) ?_
            rotate_left 1
            · (intro w; first | (go_simp; done) | (go_simp; with_reducible rfl))
            change wpAny _ _ _ _ _ _ (Act.put _ (some 50) _) _
            refine wpAny_take (i := 1) (v := ?_) rfl (by kernel_rfl) (by kernel_rfl) (by kernel_rfl) (fun _ _ _ h => h) (Or.inl ⟨by kernel_rfl, ?_⟩) ?_
            rotate_left 1
            · (intro w; first | (go_simp; done) | (go_simp; with_reducible rfl))
            change wpAny _ _ _ _ _ _ (Act.put _ (some 51) _) _
            refine wpAny_take (i := 2) (v := ?_) rfl (by kernel_rfl) (by kernel_rfl) (by kernel_rfl) (fun _ _ _ h => h) (Or.inl ⟨by kernel_rfl, ?_⟩) ?_
            rotate_left 1
            · (intro w; first | (go_simp; done) | (go_simp; with_reducible rfl))
            change wpAny _ _ _ _ _ _ (Act.put _ (some 52) _) _
            refine wpAny_take (i := 3) (v := ?_) rfl (by kernel_rfl) (by kernel_rfl) (by kernel_rfl) (fun _ _ _ h => h) (Or.inl ⟨by kernel_rfl, ?_⟩) ?_
            rotate_left 1
            · (intro w; first | (go_simp; done) | (go_simp; with_reducible rfl))
            change wpAny _ _ _ _ _ _ (Act.put _ (some 53) _) _
            refine wpAny_take (i := 4) (v := ?_) rfl (by kernel_rfl) (by kernel_rfl) (by kernel_rfl) (fun _ _ _ h => h) (Or.inl ⟨by kernel_rfl, ?_⟩) ?_
            rotate_left 1
            · (intro w; first | (go_simp; done) | (go_simp; with_reducible rfl))
            change wpAny _ _ _ _ _ _ (Act.put _ (some 54) _) _
            refine wpAny_take (i := 5) (v := undef) rfl (by kernel_rfl) (by kernel_rfl) (by kernel_rfl) (fun _ _ _ h => h) (Or.inr ⟨by kernel_rfl, rfl⟩) ?_
            change wpAny _ _ _ _ _ _ (Act.put _ (some 55) _) _
            refine wpAny_take (i := 6) (v := undef) rfl (by kernel_rfl) (by kernel_rfl) (by kernel_rfl) (fun _ _ _ h => h) (Or.inr ⟨by kernel_rfl, rfl⟩) ?_
            change wpAny _ _ _ _ _ _ (Act.put _ (some 56) _) _
            refine wpAny_take (i := 7) (v := undef) rfl (by kernel_rfl) (by kernel_rfl) (by kernel_rfl) (fun _ _ _ h => h) (Or.inr ⟨by kernel_rfl, rfl⟩) ?_
            change wpAny _ _ _ _ _ _ (Act.put _ (some 57) _) _
            refine wpAny_take (i := 8) (v := undef) rfl (by kernel_rfl) (by kernel_rfl) (by kernel_rfl) (fun _ _ _ h => h) (Or.inr ⟨by kernel_rfl, rfl⟩) ?_
            change wpAny _ _ _ _ _ _ (Act.put _ (some 58) _) _
            refine wpAny_take (i := 9) (v := undef) rfl (by kernel_rfl) (by kernel_rfl) (by kernel_rfl) (fun _ _ _ h => h) (Or.inr ⟨by kernel_rfl, rfl⟩) ?_
            change wpAny _ _ _ _ _ _ (Act.put _ (some 59) _) _
            refine wpAny_take (i := 10) (v := undef) rfl (by kernel_rfl) (by kernel_rfl) (by kernel_rfl) (fun _ _ _ h => h) (Or.inr ⟨by kernel_rfl, rfl⟩) ?_
            change wpAny _ _ _ _ _ _ (Act.put _ (some 60) _) _
            refine wpAny_take (i := 11) (v := undef) rfl (by kernel_rfl) (by kernel_rfl) (by kernel_rfl) (fun _ _ _ h => h) (Or.inr ⟨by kernel_rfl, rfl⟩) ?_
            change wpAny _ _ _ _ _ _ (Act.put _ (some 61) _) _
            refine wpAny_take (i := 12) (v := undef) rfl (by kernel_rfl) (by kernel_rfl) (by kernel_rfl) (fun _ _ _ h => h) (Or.inr ⟨by kernel_rfl, rfl⟩) ?_
            change wpAny _ _ _ _ _ _ (Act.put _ (some 62) _) _
            refine wpAny_take (i := 13) (v := ?_) rfl (by kernel_rfl) (by kernel_rfl) (by kernel_rfl) (fun _ _ _ h => h) (Or.inl ⟨by kernel_rfl, ?_⟩) ?_
            rotate_left 1
            · (intro w; first | (go_simp; done) | (go_simp; with_reducible rfl))
            change wpAny _ _ _ _ _ _ (Act.put _ (some 63) _) _
            refine wpAny_done (by kernel_rfl) ?_ _
            go_simp
            go_wp2
            rw [HWD.out]
            go_roundg (n + 1 - (i + 1))
            case measure => omega
            case rel => exact ⟨i + 1, by simp, by omega, rfl, HNEW⟩
          · have hinb : (((i : Nat) : Int) == ((n : Nat) : Int)) = false := by rw [beq_eq_false_iff_ne]; omega
            have hltn : i < n := by omega
            obtain ⟨c, hcL⟩ : ∃ c, L[i]? = some c := ⟨_, List.getElem?_eq_getElem (by have := HN.out; omega)⟩
            obtain ⟨gl, offl, rfl, hcc⟩ := (HL.out.below hbL) (by have := HN.out; omega)
            have kc := hcc i c hcL
            have HHC := Lib.hid (HHA.out c W1'.drew)
            clear hcc hbL
            cases hhas : hasZ s c with
            | false =>
              rw [hhas] at HHC
              have hnn := none_next (s, 2) L F (i := i) (fun c' hc' => by rw [hcL] at hc'; cases hc'; exact hhas)
              have HNEW : Hid (EndI (s, 2) L F n w.heap.size (w.heap.size + 1) g w (i + 1) W1) := Lib.hid ⟨ro1.ext fun p _ => (out_none hnn.1 p).symm, rh1.ext fun p _ => (half_none hnn.2 p).symm, ra1, rf1, hb1⟩
              clear ro1 rh1 ra1 rf1 hb1 hEv hnn hcL hhas
              refine wp_region_any (by kernel_rfl) ?_
              try (change wpAny _ _ _ _ _ _ _ (World.drew _))
              refine wpAny_take (i := 0) (v := ?_) rfl (by kernel_rfl) (by kernel_rfl) (by kernel_rfl) (fun _ _ _ h => h) (Or.inl ⟨by kernel_rfl, ?_⟩) ?_
              rotate_left 1
              · (intro w; first | (go_simp; done) | (go_simp; with_reducible rfl))
              change wpAny _ _ _ _ _ _ (Act.put _ (some 50) _) _
              refine wpAny_take (i := 1) (v := ?_) rfl (by kernel_rfl) (by kernel_rfl) (by kernel_rfl) (fun _ _ _ h => h) (Or.inl ⟨by kernel_rfl, ?_⟩) ?_
              rotate_left 1
              · (intro w; first | (go_simp; done) | (go_simp; with_reducible rfl))
              change wpAny _ _ _ _ _ _ (Act.put _ (some 51) _) _
              refine wpAny_take (i := 2) (v := ?_) rfl (by kernel_rfl) (by kernel_rfl) (by kernel_rfl) (fun _ _ _ h => h) (Or.inl ⟨by kernel_rfl, ?_⟩) ?_
              rotate_left 1
              · (intro w; first | (go_simp; done) | (go_simp; with_reducible rfl))
              change wpAny _ _ _ _ _ _ (Act.put _ (some 52) _) _
              refine wpAny_take (i := 3) (v := ?_) rfl (by kernel_rfl) (by kernel_rfl) (by kernel_rfl) (fun _ _ _ h => h) (Or.inl ⟨by kernel_rfl, ?_⟩) ?_
              rotate_left 1
              · (intro w; first | (go_simp; done) | (go_simp; with_reducible rfl))
              change wpAny _ _ _ _ _ _ (Act.put _ (some 53) _) _
              refine wpAny_take (i := 4) (v := ?_) rfl (by kernel_rfl) (by kernel_rfl) (by kernel_rfl) (fun _ _ _ h => h) (Or.inl ⟨by kernel_rfl, ?_⟩) ?_
              rotate_left 1
              · (intro w; first | (go_simp; done) | (go_simp; with_reducible rfl))
              change wpAny _ _ _ _ _ _ (Act.put _ (some 54) _) _
              refine wpAny_take (i := 5) (v := ?_) rfl (by kernel_rfl) (by kernel_rfl) (by kernel_rfl) (fun _ _ _ h => h) (Or.inl ⟨by kernel_rfl, ?_⟩) ?_
              rotate_left 1
              · (intro w; first | (go_simp; done) | (go_simp; with_reducible rfl))
              change wpAny _ _ _ _ _ _ (Act.put _ (some 55) _) _
              refine wpAny_take (i := 7) (v := ?_) rfl (by kernel_rfl) (by kernel_rfl) (by kernel_rfl) (fun _ _ _ h => h) (Or.inl ⟨by kernel_rfl, ?_⟩) ?_
              rotate_left 1
              · (intro w; first | (go_simp; done) | (go_simp; with_reducible rfl))
              change wpAny _ _ _ _ _ _ (Act.put _ (some 57) _) _
              refine wpAny_take (i := 8) (v := ?_) rfl (by kernel_rfl) (by kernel_rfl) (by kernel_rfl) (fun _ _ _ h => h) (Or.inl ⟨by kernel_rfl, ?_⟩) ?_
              rotate_left 1
              · (intro w; first | (go_simp; done) | (go_simp; with_reducible rfl))
              change wpAny _ _ _ _ _ _ (Act.put _ (some 58) _) _
              refine wpAny_take (i := 9) (v := ?_) rfl (by kernel_rfl) (by kernel_rfl) (by kernel_rfl) (fun _ _ _ h => h) (Or.inl ⟨by kernel_rfl, ?_⟩) ?_
              rotate_left 1
              · (intro w; first | (go_simp; done) | (go_simp; with_reducible rfl))
              change wpAny _ _ _ _ _ _ (Act.put _ (some 59) _) _
              refine wpAny_ready (rs := [6, 10]) (by kernel_rfl) (by simp) ?_
              refine AllReady.cons rfl (fun K hK => ?_) ?_
              focus
                go_simp
                refine hK _ _ ?_
                clear hK K
                refine wpAny_ready (rs := [10]) (by kernel_rfl) (by simp) ?_
                refine AllReady.cons rfl (fun K hK => ?_) AllReady.nil
                go_simp
                refine hK _ _ ?_
                clear hK K
                refine wpAny_ready (rs := [11]) (by kernel_rfl) (by simp) ?_
                refine AllReady.cons rfl (fun K hK => ?_) AllReady.nil
                go_simp
                go_wp2_with (refine HHC.out.mono ?_; rintro e _ ⟨rfl, rfl⟩)
                refine wpAny_take (i := 12) (v := ?_) rfl (by kernel_rfl) (by kernel_rfl) (by kernel_rfl) (fun _ _ _ h => h) (Or.inl ⟨by kernel_rfl, ?_⟩) ?_
                rotate_left 1
                · (intro w; first | (go_simp; done) | (go_simp; with_reducible rfl))
                change wpAny _ _ _ _ _ _ (Act.put _ (some 62) _) _
                refine wpAny_take (i := 13) (v := ?_) rfl (by kernel_rfl) (by kernel_rfl) (by kernel_rfl) (fun _ _ _ h => h) (Or.inl ⟨by kernel_rfl, ?_⟩) ?_
                rotate_left 1
                · (intro w; first | (go_simp; done) | (go_simp; with_reducible rfl))
                change wpAny _ _ _ _ _ _ (Act.put _ (some 63) _) _
                refine wpAny_done (by kernel_rfl) ?_ _
                go_simp
                go_wp2
                rw [HWD.out]
                go_roundg (n + 1 - (i + 1))
                case measure => omega
                case rel => exact ⟨i + 1, by simp, by omega, rfl, HNEW⟩
              refine AllReady.cons rfl (fun K hK => ?_) AllReady.nil
              go_simp
              refine hK _ _ ?_
              clear hK K
              refine wpAny_ready (rs := [6]) (by kernel_rfl) (by simp) ?_
              refine AllReady.cons rfl (fun K hK => ?_) AllReady.nil
              go_simp
              refine hK _ _ ?_
              clear hK K
              refine wpAny_ready (rs := [11]) (by kernel_rfl) (by simp) ?_
              refine AllReady.cons rfl (fun K hK => ?_) AllReady.nil
              go_simp
              go_wp2_with (refine HHC.out.mono ?_; rintro e _ ⟨rfl, rfl⟩)
              refine wpAny_take (i := 12) (v := ?_) rfl (by kernel_rfl) (by kernel_rfl) (by kernel_rfl) (fun _ _ _ h => h) (Or.inl ⟨by kernel_rfl, ?_⟩) ?_
              rotate_left 1
              · (intro w; first | (go_simp; done) | (go_simp; with_reducible rfl))
              change wpAny _ _ _ _ _ _ (Act.put _ (some 62) _) _
              refine wpAny_take (i := 13) (v := ?_) rfl (by kernel_rfl) (by kernel_rfl) (by kernel_rfl) (fun _ _ _ h => h) (Or.inl ⟨by kernel_rfl, ?_⟩) ?_
              rotate_left 1
              · (intro w; first | (go_simp; done) | (go_simp; with_reducible rfl))
              change wpAny _ _ _ _ _ _ (Act.put _ (some 63) _) _
              refine wpAny_done (by kernel_rfl) ?_ _
              go_simp
              go_wp2
              rw [HWD.out]
              go_roundg (n + 1 - (i + 1))
              case measure => omega
              case rel => exact ⟨i + 1, by simp, by omega, rfl, HNEW⟩
            | true =>
              rw [hhas] at HHC
              have e2 := ro1.cell (show i + 1 ≤ n by omega)
              have e3 := ro1.cell hle
              rw [if_pos (Nat.le_refl i), hEv] at e3
              have z2 := ro1.frozen (i + 1)
              have y2 : W1.cell? ⟨w.heap.size + 2, i + 1, none⟩ = _ := rh1.cell (show i + 1 ≤ n by omega)
              have y3 : W1.cell? ⟨w.heap.size + 2, i, none⟩ = _ := rh1.cell hle
              rw [HHH.out] at y3
              have x2 : W1.frozen? ⟨w.heap.size + 2, i + 1, none⟩ = false := rh1.frozen (i + 1)
              obtain ⟨W2, hW2⟩ : ∃ W2, W1.setCell ⟨w.heap.size + 2, i + 1, none⟩ (.bool false) = W2 := ⟨_, rfl⟩
              have m2 : Moves (fun k => k = w.heap.size + 2) W1 W2 := by rw [← hW2]; exact Moves.setCell rfl
              obtain ⟨W3, hW3⟩ : ∃ W3, W2.setCell ⟨w.heap.size + 1, i + 1, none⟩ (.bool H) = W3 := ⟨_, rfl⟩
              have m3 : Moves (fun k => k = w.heap.size + 1) W2 W3 := by rw [← hW3]; exact Moves.setCell rfl
              have HNEW : Hid (EndI (s, 2) L F n w.heap.size (w.heap.size + 1) g w (i + 1) W3) := by
                have rh2 : RowB W2 (w.heap.size + 1 + 1) n (halfQ (s, 2) L F (i + 1)) := by
                  rw [← hW2]
                  refine (rh1.set (i + 1) false (by omega)).ext fun p _ => ?_
                  rw [half_next, (some_next (s, 2) L F hcL hhas).2, hEv]
                  simp
                have ro2 := ro1.keep m2 (by omega)
                have ra2 := row_keep ra1 m2 (by omega)
                have hb2 := Moves.below hb1 hb1.size m2 (fun k hk => by omega)
                refine Lib.hid ⟨?_, rh2.keep m3 (by omega), row_keep ra2 m3 (by omega), (rf1.keep m2 hgne2).keep m3 hgne, Moves.below hb2 hb2.size m3 (fun k hk => by omega)⟩
                rw [← hW3]
                refine (ro2.set (i + 1) H (by omega)).ext fun p _ => ?_
                rw [out_next, (some_next (s, 2) L F hcL hhas).1, ← half_at, HHH.out]
                simp
              have HW2 := Lib.hid hW2
              have HW3 := Lib.hid hW3
              clear ro1 rh1 ra1 rf1 hb1 hW2 m2 hEv hcL hhas hW3 m3
              refine wp_region_any (by kernel_rfl) ?_
              try (change wpAny _ _ _ _ _ _ _ (World.drew _))
              refine wpAny_take (i := 0) (v := ?_) rfl (by kernel_rfl) (by kernel_rfl) (by kernel_rfl) (fun _ _ _ h => h) (Or.inl ⟨by kernel_rfl, ?_⟩) ?_
              rotate_left 1
              · (intro w; first | (go_simp; done) | (go_simp; with_reducible rfl))
              change wpAny _ _ _ _ _ _ (Act.put _ (some 50) _) _
              refine wpAny_take (i := 1) (v := ?_) rfl (by kernel_rfl) (by kernel_rfl) (by kernel_rfl) (fun _ _ _ h => h) (Or.inl ⟨by kernel_rfl, ?_⟩) ?_
              rotate_left 1
              · (intro w; first | (go_simp; done) | (go_simp; with_reducible rfl))
              change wpAny _ _ _ _ _ _ (Act.put _ (some 51) _) _
              refine wpAny_take (i := 2) (v := ?_) rfl (by kernel_rfl) (by kernel_rfl) (by kernel_rfl) (fun _ _ _ h => h) (Or.inl ⟨by kernel_rfl, ?_⟩) ?_
              rotate_left 1
              · (intro w; first | (go_simp; done) | (go_simp; with_reducible rfl))
              change wpAny _ _ _ _ _ _ (Act.put _ (some 52) _) _
              refine wpAny_take (i := 3) (v := ?_) rfl (by kernel_rfl) (by kernel_rfl) (by kernel_rfl) (fun _ _ _ h => h) (Or.inl ⟨by kernel_rfl, ?_⟩) ?_
              rotate_left 1
              · (intro w; first | (go_simp; done) | (go_simp; with_reducible rfl))
              change wpAny _ _ _ _ _ _ (Act.put _ (some 53) _) _
              refine wpAny_take (i := 4) (v := ?_) rfl (by kernel_rfl) (by kernel_rfl) (by kernel_rfl) (fun _ _ _ h => h) (Or.inl ⟨by kernel_rfl, ?_⟩) ?_
              rotate_left 1
              · (intro w; first | (go_simp; done) | (go_simp; with_reducible rfl))
              change wpAny _ _ _ _ _ _ (Act.put _ (some 54) _) _
              refine wpAny_take (i := 5) (v := ?_) rfl (by kernel_rfl) (by kernel_rfl) (by kernel_rfl) (fun _ _ _ h => h) (Or.inl ⟨by kernel_rfl, ?_⟩) ?_
              rotate_left 1
              · (intro w; first | (go_simp; done) | (go_simp; with_reducible rfl))
              change wpAny _ _ _ _ _ _ (Act.put _ (some 55) _) _
              refine wpAny_take (i := 7) (v := ?_) rfl (by kernel_rfl) (by kernel_rfl) (by kernel_rfl) (fun _ _ _ h => h) (Or.inl ⟨by kernel_rfl, ?_⟩) ?_
              rotate_left 1
              · (intro w; first | (go_simp; done) | (go_simp; with_reducible rfl))
              change wpAny _ _ _ _ _ _ (Act.put _ (some 57) _) _
              refine wpAny_take (i := 8) (v := ?_) rfl (by kernel_rfl) (by kernel_rfl) (by kernel_rfl) (fun _ _ _ h => h) (Or.inl ⟨by kernel_rfl, ?_⟩) ?_
              rotate_left 1
              · (intro w; first | (go_simp; done) | (go_simp; with_reducible rfl))
              change wpAny _ _ _ _ _ _ (Act.put _ (some 58) _) _
              refine wpAny_take (i := 9) (v := ?_) rfl (by kernel_rfl) (by kernel_rfl) (by kernel_rfl) (fun _ _ _ h => h) (Or.inl ⟨by kernel_rfl, ?_⟩) ?_
              rotate_left 1
              · (intro w; first | (go_simp; done) | (go_simp; with_reducible rfl))
              change wpAny _ _ _ _ _ _ (Act.put _ (some 59) _) _
              refine wpAny_ready (rs := [6, 10]) (by kernel_rfl) (by simp) ?_
              refine AllReady.cons rfl (fun K hK => ?_) ?_
              focus
                go_simp
                refine hK _ _ ?_
                clear hK K
                refine wpAny_ready (rs := [10]) (by kernel_rfl) (by simp) ?_
                refine AllReady.cons rfl (fun K hK => ?_) AllReady.nil
                go_simp
                refine hK _ _ ?_
                clear hK K
                refine wpAny_ready (rs := [11]) (by kernel_rfl) (by simp) ?_
                refine AllReady.cons rfl (fun K hK => ?_) AllReady.nil
                go_simp
                go_wp2_with (refine HHC.out.mono ?_; rintro e _ ⟨rfl, rfl⟩)
                refine wpAny_take (i := 12) (v := ?_) rfl (by kernel_rfl) (by kernel_rfl) (by kernel_rfl) (fun _ _ _ h => h) (Or.inl ⟨by kernel_rfl, ?_⟩) ?_
                rotate_left 1
                · (intro w; first | (go_simp; done) | (go_simp; with_reducible rfl))
                change wpAny _ _ _ _ _ _ (Act.put _ (some 62) _) _
                refine wpAny_take (i := 13) (v := ?_) rfl (by kernel_rfl) (by kernel_rfl) (by kernel_rfl) (fun _ _ _ h => h) (Or.inl ⟨by kernel_rfl, ?_⟩) ?_
                rotate_left 1
                · (intro w; first | (go_simp; done) | (go_simp; with_reducible rfl))
                change wpAny _ _ _ _ _ _ (Act.put _ (some 63) _) _
                refine wpAny_done (by kernel_rfl) ?_ _
                go_simp
                rw [HWD.out]
                go_wp2
                rw [HW2.out, HW3.out]
                go_roundg (n + 1 - (i + 1))
                case measure => omega
                case rel => exact ⟨i + 1, by simp, by omega, rfl, HNEW⟩
              refine AllReady.cons rfl (fun K hK => ?_) AllReady.nil
              go_simp
              refine hK _ _ ?_
              clear hK K
              refine wpAny_ready (rs := [6]) (by kernel_rfl) (by simp) ?_
              refine AllReady.cons rfl (fun K hK => ?_) AllReady.nil
              go_simp
              refine hK _ _ ?_
              clear hK K
              refine wpAny_ready (rs := [11]) (by kernel_rfl) (by simp) ?_
              refine AllReady.cons rfl (fun K hK => ?_) AllReady.nil
              go_simp
              go_wp2_with (refine HHC.out.mono ?_; rintro e _ ⟨rfl, rfl⟩)
              refine wpAny_take (i := 12) (v := ?_) rfl (by kernel_rfl) (by kernel_rfl) (by kernel_rfl) (fun _ _ _ h => h) (Or.inl ⟨by kernel_rfl, ?_⟩) ?_
              rotate_left 1
              · (intro w; first | (go_simp; done) | (go_simp; with_reducible rfl))
              change wpAny _ _ _ _ _ _ (Act.put _ (some 62) _) _
              refine wpAny_take (i := 13) (v := ?_) rfl (by kernel_rfl) (by kernel_rfl) (by kernel_rfl) (fun _ _ _ h => h) (Or.inl ⟨by kernel_rfl, ?_⟩) ?_
              rotate_left 1
              · (intro w; first | (go_simp; done) | (go_simp; with_reducible rfl))
              change wpAny _ _ _ _ _ _ (Act.put _ (some 63) _) _
              refine wpAny_done (by kernel_rfl) ?_ _
              go_simp
              rw [HWD.out]
              go_wp2
              rw [HW2.out, HW3.out]
              go_roundg (n + 1 - (i + 1))
              case measure => omega
              case rel => exact ⟨i + 1, by simp, by omega, rfl, HNEW⟩
        | true =>
          have hEv : (endsR (s, 2) L F i).1 = true := by rw [hEi]; rfl
          obtain ⟨W1', hW1⟩ : ∃ W1', wr.setCell ⟨w.heap.size + 1, i, none⟩ (.bool true) = W1' := ⟨_, rfl⟩
          have m1 : Moves (fun k => k = w.heap.size + 1) wr W1' := by rw [← hW1]; exact Moves.setCell rfl
          have HW1 := Lib.hid hW1
          have ro1' : RowB W1' (w.heap.size + 1) n (fun p => if p ≤ i then (endsR (s, 2) L F p).1 else false) := by
            rw [← hW1]
            refine (ro.set i true hle).ext fun p _ => ?_
            rw [← HE.out p, HAA.out, HBB.out, ← hEi, hEv]
          have k1' := Lib.hid (row_keep ra m1 (by omega))
          obtain ⟨j0, j1⟩ := it_cells k1'.out
          obtain ⟨W1, hW1d⟩ : ∃ W1, W1'.drew = W1 := ⟨_, rfl⟩
          have md : Moves (fun k => k = w.heap.size + 1) wr W1 := by rw [← hW1d]; exact m1.drew
          have ro1 : RowB W1 (w.heap.size + 1) n (fun p => if p ≤ i then (endsR (s, 2) L F p).1 else false) := by rw [← hW1d]; exact ro1'
          have rh1 := rh.keep md (by omega)
          have ra1 := row_keep ra md (by omega)
          have rf1 := rf.keep md hgne
          have hb1 := Moves.below hb hb.size md (fun k hk => by omega)
          have HWD := Lib.hid hW1d
          obtain ⟨n0, n1⟩ := it_cells ra1
          have hbL := Moves.below hb hb.size m1 (fun k hk => by omega)
          clear hW1 m1 hEi ro1' md hW1d
          go_wp2_with fail
          rw [HW1.out]
          by_cases hin : i = n
          · have hinb : (((i : Nat) : Int) == ((n : Nat) : Int)) = true := by rw [hin]; simp
            have hnn := none_next (s, 2) L F (i := i) (fun c hc => by have := (List.getElem?_eq_some_iff.1 hc).1; have := HN.out; omega)
            have HNEW : Hid (EndI (s, 2) L F n w.heap.size (w.heap.size + 1) g w (i + 1) W1) := Lib.hid ⟨ro1.ext fun p _ => (out_none hnn.1 p).symm, rh1.ext fun p _ => (half_none hnn.2 p).symm, ra1, rf1, hb1⟩
            clear ro1 rh1 ra1 rf1 hb1 hbL hEv hnn hin
            refine wp_region_any (by kernel_rfl) ?_
            try (change wpAny _ _ _ _ _ _ _ (World.drew _))
            refine wpAny_take (i := 0) (v := ?_) rfl (by kernel_rfl) (by kernel_rfl) (by kernel_rfl) (fun _ _ _ h => h) (Or.inl ⟨by kernel_rfl, ?_⟩) ?_
            rotate_left 1
            · (intro w; first | (go_simp; done) | (go_simp; with_reducible rfl))
            change wpAny _ _ _ _ _ _ (Act.put _ (some 50) _) _
            refine wpAny_take (i := 1) (v := ?_) rfl (by kernel_rfl) (by kernel_rfl) (by kernel_rfl) (fun _ _ _ h => h) (Or.inl ⟨by kernel_rfl, ?_⟩) ?_
            rotate_left 1
            · (intro w; first | (go_simp; done) | (go_simp; with_reducible rfl))
            change wpAny _ _ _ _ _ _ (Act.put _ (some 51) _) _
            refine wpAny_take (i := 2) (v := ?_) rfl (by kernel_rfl) (by kernel_rfl) (by kernel_rfl) (fun _ _ _ h => h) (Or.inl ⟨by kernel_rfl, ?_⟩) ?_
            rotate_left 1
            · (intro w; first | (go_simp; done) | (go_simp; with_reducible rfl))
            change wpAny _ _ _ _ _ _ (Act.put _ (some 52) _) _
            refine wpAny_take (i := 3) (v := ?_) rfl (by kernel_rfl) (by kernel_rfl) (by kernel_rfl) (fun _ _ _ h => h) (Or.inl ⟨by kernel_rfl, ?_⟩) ?_
            rotate_left 1
            · (intro w; first | (go_simp; done) | (go_simp; with_reducible rfl))
            change wpAny _ _ _ _ _ _ (Act.put _ (some 53) _) _
            refine wpAny_take (i := 4) (v := ?_) rfl (by kernel_rfl) (by kernel_rfl) (by kernel_rfl) (fun _ _ _ h => h) (Or.inl ⟨by kernel_rfl, ?_⟩) ?_
            rotate_left 1
            · (intro w; first | (go_simp; done) | (go_simp; with_reducible rfl))
            change wpAny _ _ _ _ _ _ (Act.put _ (some 54) _) _
            refine wpAny_take (i := 5) (v := undef) rfl (by kernel_rfl) (by kernel_rfl) (by kernel_rfl) (fun _ _ _ h => h) (Or.inr ⟨by kernel_rfl, rfl⟩) ?_
            change wpAny _ _ _ _ _ _ (Act.put _ (some 55) _) _
            refine wpAny_take (i := 6) (v := undef) rfl (by kernel_rfl) (by kernel_rfl) (by kernel_rfl) (fun _ _ _ h => h) (Or.inr ⟨by kernel_rfl, rfl⟩) ?_
            change wpAny _ _ _ _ _ _ (Act.put _ (some 56) _) _
            refine wpAny_take (i := 7) (v := undef) rfl (by kernel_rfl) (by kernel_rfl) (by kernel_rfl) (fun _ _ _ h => h) (Or.inr ⟨by kernel_rfl, rfl⟩) ?_
            change wpAny _ _ _ _ _ _ (Act.put _ (some 57) _) _
            refine wpAny_take (i := 8) (v := undef) rfl (by kernel_rfl) (by kernel_rfl) (by kernel_rfl) (fun _ _ _ h => h) (Or.inr ⟨by kernel_rfl, rfl⟩) ?_
            change wpAny _ _ _ _ _ _ (Act.put _ (some 58) _) _
            refine wpAny_take (i := 9) (v := undef) rfl (by kernel_rfl) (by kernel_rfl) (by kernel_rfl) (fun _ _ _ h => h) (Or.inr ⟨by kernel_rfl, rfl⟩) ?_
            change wpAny _ _ _ _ _ _ (Act.put _ (some 59) _) _
            refine wpAny_take (i := 10) (v := undef) rfl (by kernel_rfl) (by kernel_rfl) (by kernel_rfl) (fun _ _ _ h => h) (Or.inr ⟨by kernel_rfl, rfl⟩) ?_
            change wpAny _ _ _ _ _ _ (Act.put _ (some 60) _) _
            refine wpAny_take (i := 11) (v := undef) rfl (by kernel_rfl) (by kernel_rfl) (by kernel_rfl) (fun _ _ _ h => h) (Or.inr ⟨by kernel_rfl, rfl⟩) ?_
            change wpAny _ _ _ _ _ _ (Act.put _ (some 61) _) _
            refine wpAny_take (i := 12) (v := undef) rfl (by kernel_rfl) (by kernel_rfl) (by kernel_rfl) (fun _ _ _ h => h) (Or.inr ⟨by kernel_rfl, rfl⟩) ?_
            change wpAny _ _ _ _ _ _ (Act.put _ (some 62) _) _
            refine wpAny_take (i := 13) (v := ?_) rfl (by kernel_rfl) (by kernel_rfl) (by kernel_rfl) (fun _ _ _ h => h) (Or.inl ⟨by kernel_rfl, ?_⟩) ?_
            rotate_left 1
            · (intro w; first | (go_simp; done) | (go_simp; with_reducible rfl))
            change wpAny _ _ _ _ _ _ (Act.put _ (some 63) _) _
            refine wpAny_done (by kernel_rfl) ?_ _
            go_simp
            go_wp2
            rw [HWD.out]
            go_roundg (n + 1 - (i + 1))
            case measure => omega
            case rel => exact ⟨i + 1, by simp, by omega, rfl, HNEW⟩
          · have hinb : (((i : Nat) : Int) == ((n : Nat) : Int)) = false := by rw [beq_eq_false_iff_ne]; omega
            have hltn : i < n := by omega
            obtain ⟨c, hcL⟩ : ∃ c, L[i]? = some c := ⟨_, List.getElem?_eq_getElem (by have := HN.out; omega)⟩
            obtain ⟨gl, offl, rfl, hcc⟩ := (HL.out.below hbL) (by have := HN.out; omega)
            have kc := hcc i c hcL
            have HHC := Lib.hid (HHA.out c W1'.drew)
            clear hcc hbL
            cases hhas : hasZ s c with
            | false =>
              rw [hhas] at HHC
              have hnn := none_next (s, 2) L F (i := i) (fun c' hc' => by rw [hcL] at hc'; cases hc'; exact hhas)
              have HNEW : Hid (EndI (s, 2) L F n w.heap.size (w.heap.size + 1) g w (i + 1) W1) := Lib.hid ⟨ro1.ext fun p _ => (out_none hnn.1 p).symm, rh1.ext fun p _ => (half_none hnn.2 p).symm, ra1, rf1, hb1⟩
              clear ro1 rh1 ra1 rf1 hb1 hEv hnn hcL hhas
              refine wp_region_any (by kernel_rfl) ?_
              try (change wpAny _ _ _ _ _ _ _ (World.drew _))
              refine wpAny_take (i := 0) (v := ?_) rfl (by kernel_rfl) (by kernel_rfl) (by kernel_rfl) (fun _ _ _ h => h) (Or.inl ⟨by kernel_rfl, ?_⟩) ?_
              rotate_left 1
              · (intro w; first | (go_simp; done) | (go_simp; with_reducible rfl))
              change wpAny _ _ _ _ _ _ (Act.put _ (some 50) _) _
              refine wpAny_take (i := 1) (v := ?_) rfl (by kernel_rfl) (by kernel_rfl) (by kernel_rfl) (fun _ _ _ h => h) (Or.inl ⟨by kernel_rfl, ?_⟩) ?_
              rotate_left 1
              · (intro w; first | (go_simp; done) | (go_simp; with_reducible rfl))
              change wpAny _ _ _ _ _ _ (Act.put _ (some 51) _) _
              refine wpAny_take (i := 2) (v := ?_) rfl (by kernel_rfl) (by kernel_rfl) (by kernel_rfl) (fun _ _ _ h => h) (Or.inl ⟨by kernel_rfl, ?_⟩) ?_
              rotate_left 1
              · (intro w; first | (go_simp; done) | (go_simp; with_reducible rfl))
              change wpAny _ _ _ _ _ _ (Act.put _ (some 52) _) _
              refine wpAny_take (i := 3) (v := ?_) rfl (by kernel_rfl) (by kernel_rfl) (by kernel_rfl) (fun _ _ _ h => h) (Or.inl ⟨by kernel_rfl, ?_⟩) ?_
              rotate_left 1
              · (intro w; first | (go_simp; done) | (go_simp; with_reducible rfl))
              change wpAny _ _ _ _ _ _ (Act.put _ (some 53) _) _
              refine wpAny_take (i := 4) (v := ?_) rfl (by kernel_rfl) (by kernel_rfl) (by kernel_rfl) (fun _ _ _ h => h) (Or.inl ⟨by kernel_rfl, ?_⟩) ?_
              rotate_left 1
              · (intro w; first | (go_simp; done) | (go_simp; with_reducible rfl))
              change wpAny _ _ _ _ _ _ (Act.put _ (some 54) _) _
              refine wpAny_take (i := 5) (v := ?_) rfl (by kernel_rfl) (by kernel_rfl) (by kernel_rfl) (fun _ _ _ h => h) (Or.inl ⟨by kernel_rfl, ?_⟩) ?_
              rotate_left 1
              · (intro w; first | (go_simp; done) | (go_simp; with_reducible rfl))
              change wpAny _ _ _ _ _ _ (Act.put _ (some 55) _) _
              refine wpAny_take (i := 7) (v := ?_) rfl (by kernel_rfl) (by kernel_rfl) (by kernel_rfl) (fun _ _ _ h => h) (Or.inl ⟨by kernel_rfl, ?_⟩) ?_
              rotate_left 1
              · (intro w; first | (go_simp; done) | (go_simp; with_reducible rfl))
              change wpAny _ _ _ _ _ _ (Act.put _ (some 57) _) _
              refine wpAny_take (i := 8) (v := ?_) rfl (by kernel_rfl) (by kernel_rfl) (by kernel_rfl) (fun _ _ _ h => h) (Or.inl ⟨by kernel_rfl, ?_⟩) ?_
              rotate_left 1
              · (intro w; first | (go_simp; done) | (go_simp; with_reducible rfl))
              change wpAny _ _ _ _ _ _ (Act.put _ (some 58) _) _
              refine wpAny_take (i := 9) (v := ?_) rfl (by kernel_rfl) (by kernel_rfl) (by kernel_rfl) (fun _ _ _ h => h) (Or.inl ⟨by kernel_rfl, ?_⟩) ?_
              rotate_left 1
              · (intro w; first | (go_simp; done) | (go_simp; with_reducible rfl))
              change wpAny _ _ _ _ _ _ (Act.put _ (some 59) _) _
              refine wpAny_ready (rs := [6, 10]) (by kernel_rfl) (by simp) ?_
              refine AllReady.cons rfl (fun K hK => ?_) ?_
              focus
                go_simp
                refine hK _ _ ?_
                clear hK K
                refine wpAny_ready (rs := [10]) (by kernel_rfl) (by simp) ?_
                refine AllReady.cons rfl (fun K hK => ?_) AllReady.nil
                go_simp
                refine hK _ _ ?_
                clear hK K
                refine wpAny_ready (rs := [11]) (by kernel_rfl) (by simp) ?_
                refine AllReady.cons rfl (fun K hK => ?_) AllReady.nil
                go_simp
                go_wp2_with (refine HHC.out.mono ?_; rintro e _ ⟨rfl, rfl⟩)
                refine wpAny_take (i := 12) (v := ?_) rfl (by kernel_rfl) (by kernel_rfl) (by kernel_rfl) (fun _ _ _ h => h) (Or.inl ⟨by kernel_rfl, ?_⟩) ?_
                rotate_left 1
                · (intro w; first | (go_simp; done) | (go_simp; with_reducible rfl))
                change wpAny _ _ _ _ _ _ (Act.put _ (some 62) _) _
                refine wpAny_take (i := 13) (v := ?_) rfl (by kernel_rfl) (by kernel_rfl) (by kernel_rfl) (fun _ _ _ h => h) (Or.inl ⟨by kernel_rfl, ?_⟩) ?_
                rotate_left 1
                · (intro w; first | (go_simp; done) | (go_simp; with_reducible rfl))
                change wpAny _ _ _ _ _ _ (Act.put _ (some 63) _) _
                refine wpAny_done (by kernel_rfl) ?_ _
                go_simp
                go_wp2
                rw [HWD.out]
                go_roundg (n + 1 - (i + 1))
                case measure => omega
                case rel => exact ⟨i + 1, by simp, by omega, rfl, HNEW⟩
              refine AllReady.cons rfl (fun K hK => ?_) AllReady.nil
              go_simp
              refine hK _ _ ?_
              clear hK K
              refine wpAny_ready (rs := [6]) (by kernel_rfl) (by simp) ?_
              refine AllReady.cons rfl (fun K hK => ?_) AllReady.nil
              go_simp
              refine hK _ _ ?_
              clear hK K
              refine wpAny_ready (rs := [11]) (by kernel_rfl) (by simp) ?_
              refine AllReady.cons rfl (fun K hK => ?_) AllReady.nil
              go_simp
              go_wp2_with (refine HHC.out.mono ?_; rintro e _ ⟨rfl, rfl⟩)
              refine wpAny_take (i := 12) (v := ?_) rfl (by kernel_rfl) (by kernel_rfl) (by kernel_rfl) (fun _ _ _ h => h) (Or.inl ⟨by kernel_rfl, ?_⟩) ?_
              rotate_left 1
              · (intro w; first | (go_simp; done) | (go_simp; with_reducible rfl))
              change wpAny _ _ _ _ _ _ (Act.put _ (some 62) _) _
              refine wpAny_take (i := 13) (v := ?_) rfl (by kernel_rfl) (by kernel_rfl) (by kernel_rfl) (fun _ _ _ h => h) (Or.inl ⟨by kernel_rfl, ?_⟩) ?_
              rotate_left 1
              · (intro w; first | (go_simp; done) | (go_simp; with_reducible rfl))
              change wpAny _ _ _ _ _ _ (Act.put _ (some 63) _) _
              refine wpAny_done (by kernel_rfl) ?_ _
              go_simp
              go_wp2
              rw [HWD.out]
              go_roundg (n + 1 - (i + 1))
              case measure => omega
              case rel => exact ⟨i + 1, by simp, by omega, rfl, HNEW⟩
            | true =>
              rw [hhas] at HHC
              have e2 := ro1.cell (show i + 1 ≤ n by omega)
              have e3 := ro1.cell hle
              rw [if_pos (Nat.le_refl i), hEv] at e3
              have z2 := ro1.frozen (i + 1)
              have y2 : W1.cell? ⟨w.heap.size + 2, i + 1, none⟩ = _ := rh1.cell (show i + 1 ≤ n by omega)
              have y3 : W1.cell? ⟨w.heap.size + 2, i, none⟩ = _ := rh1.cell hle
              rw [HHH.out] at y3
              have x2 : W1.frozen? ⟨w.heap.size + 2, i + 1, none⟩ = false := rh1.frozen (i + 1)
              obtain ⟨W2, hW2⟩ : ∃ W2, W1.setCell ⟨w.heap.size + 2, i + 1, none⟩ (.bool true) = W2 := ⟨_, rfl⟩
              have m2 : Moves (fun k => k = w.heap.size + 2) W1 W2 := by rw [← hW2]; exact Moves.setCell rfl
              obtain ⟨W3, hW3⟩ : ∃ W3, W2.setCell ⟨w.heap.size + 1, i + 1, none⟩ (.bool H) = W3 := ⟨_, rfl⟩
              have m3 : Moves (fun k => k = w.heap.size + 1) W2 W3 := by rw [← hW3]; exact Moves.setCell rfl
              have HNEW : Hid (EndI (s, 2) L F n w.heap.size (w.heap.size + 1) g w (i + 1) W3) := by
                have rh2 : RowB W2 (w.heap.size + 1 + 1) n (halfQ (s, 2) L F (i + 1)) := by
                  rw [← hW2]
                  refine (rh1.set (i + 1) true (by omega)).ext fun p _ => ?_
                  rw [half_next, (some_next (s, 2) L F hcL hhas).2, hEv]
                  simp
                have ro2 := ro1.keep m2 (by omega)
                have ra2 := row_keep ra1 m2 (by omega)
                have hb2 := Moves.below hb1 hb1.size m2 (fun k hk => by omega)
                refine Lib.hid ⟨?_, rh2.keep m3 (by omega), row_keep ra2 m3 (by omega), (rf1.keep m2 hgne2).keep m3 hgne, Moves.below hb2 hb2.size m3 (fun k hk => by omega)⟩
                rw [← hW3]
                refine (ro2.set (i + 1) H (by omega)).ext fun p _ => ?_
                rw [out_next, (some_next (s, 2) L F hcL hhas).1, ← half_at, HHH.out]
                simp
              have HW2 := Lib.hid hW2
              have HW3 := Lib.hid hW3
              clear ro1 rh1 ra1 rf1 hb1 hW2 m2 hEv hcL hhas hW3 m3
              refine wp_region_any (by kernel_rfl) ?_
              try (change wpAny _ _ _ _ _ _ _ (World.drew _))
              refine wpAny_take (i := 0) (v := ?_) rfl (by kernel_rfl) (by kernel_rfl) (by kernel_rfl) (fun _ _ _ h => h) (Or.inl ⟨by kernel_rfl, ?_⟩) ?_
              rotate_left 1
              · (intro w; first | (go_simp; done) | (go_simp; with_reducible rfl))
              change wpAny _ _ _ _ _ _ (Act.put _ (some 50) _) _
              refine wpAny_take (i := 1) (v := ?_) rfl (by kernel_rfl) (by kernel_rfl) (by kernel_rfl) (fun _ _ _ h => h) (Or.inl ⟨by kernel_rfl, ?_⟩) ?_
              rotate_left 1
              · (intro w; first | (go_simp; done) | (go_simp; with_reducible rfl))
              change wpAny _ _ _ _ _ _ (Act.put _ (some 51) _) _
              refine wpAny_take (i := 2) (v := ?_) rfl (by kernel_rfl) (by kernel_rfl) (by kernel_rfl) (fun _ _ _ h => h) (Or.inl ⟨by kernel_rfl, ?_⟩) ?_
              rotate_left 1
              · (intro w; first | (go_simp; done) | (go_simp; with_reducible rfl))
              change wpAny _ _ _ _ _ _ (Act.put _ (some 52) _) _
              refine wpAny_take (i := 3) (v := ?_) rfl (by kernel_rfl) (by kernel_rfl) (by kernel_rfl) (fun _ _ _ h => h) (Or.inl ⟨by kernel_rfl, ?_⟩) ?_
              rotate_left 1
              · (intro w; first | (go_simp; done) | (go_simp; with_reducible rfl))
              change wpAny _ _ _ _ _ _ (Act.put _ (some 53) _) _
              refine wpAny_take (i := 4) (v := ?_) rfl (by kernel_rfl) (by kernel_rfl) (by kernel_rfl) (fun _ _ _ h => h) (Or.inl ⟨by kernel_rfl, ?_⟩) ?_
              rotate_left 1
              · (intro w; first | (go_simp; done) | (go_simp; with_reducible rfl))
              change wpAny _ _ _ _ _ _ (Act.put _ (some 54) _) _
              refine wpAny_take (i := 5) (v := ?_) rfl (by kernel_rfl) (by kernel_rfl) (by kernel_rfl) (fun _ _ _ h => h) (Or.inl ⟨by kernel_rfl, ?_⟩) ?_
              rotate_left 1
              · (intro w; first | (go_simp; done) | (go_simp; with_reducible rfl))
              change wpAny _ _ _ _ _ _ (Act.put _ (some 55) _) _
              refine wpAny_take (i := 7) (v := ?_) rfl (by kernel_rfl) (by kernel_rfl) (by kernel_rfl) (fun _ _ _ h => h) (Or.inl ⟨by kernel_rfl, ?_⟩) ?_
              rotate_left 1
              · (intro w; first | (go_simp; done) | (go_simp; with_reducible rfl))
              change wpAny _ _ _ _ _ _ (Act.put _ (some 57) _) _
              refine wpAny_take (i := 8) (v := ?_) rfl (by kernel_rfl) (by kernel_rfl) (by kernel_rfl) (fun _ _ _ h => h) (Or.inl ⟨by kernel_rfl, ?_⟩) ?_
              rotate_left 1
              · (intro w; first | (go_simp; done) | (go_simp; with_reducible rfl))
              change wpAny _ _ _ _ _ _ (Act.put _ (some 58) _) _
              refine wpAny_take (i := 9) (v := ?_) rfl (by kernel_rfl) (by kernel_rfl) (by kernel_rfl) (fun _ _ _ h => h) (Or.inl ⟨by kernel_rfl, ?_⟩) ?_
              rotate_left 1
              · (intro w; first | (go_simp; done) | (go_simp; with_reducible rfl))
              change wpAny _ _ _ _ _ _ (Act.put _ (some 59) _) _
              refine wpAny_ready (rs := [6, 10]) (by kernel_rfl) (by simp) ?_
              refine AllReady.cons rfl (fun K hK => ?_) ?_
              focus
                go_simp
                refine hK _ _ ?_
                clear hK K
                refine wpAny_ready (rs := [10]) (by kernel_rfl) (by simp) ?_
                refine AllReady.cons rfl (fun K hK => ?_) AllReady.nil
                go_simp
                refine hK _ _ ?_
                clear hK K
                refine wpAny_ready (rs := [11]) (by kernel_rfl) (by simp) ?_
                refine AllReady.cons rfl (fun K hK => ?_) AllReady.nil
                go_simp
                go_wp2_with (refine HHC.out.mono ?_; rintro e _ ⟨rfl, rfl⟩)
                refine wpAny_take (i := 12) (v := ?_) rfl (by kernel_rfl) (by kernel_rfl) (by kernel_rfl) (fun _ _ _ h => h) (Or.inl ⟨by kernel_rfl, ?_⟩) ?_
                rotate_left 1
                · (intro w; first | (go_simp; done) | (go_simp; with_reducible rfl))
                change wpAny _ _ _ _ _ _ (Act.put _ (some 62) _) _
                refine wpAny_take (i := 13) (v := ?_) rfl (by kernel_rfl) (by kernel_rfl) (by kernel_rfl) (fun _ _ _ h => h) (Or.inl ⟨by kernel_rfl, ?_⟩) ?_
                rotate_left 1
                · (intro w; first | (go_simp; done) | (go_simp; with_reducible rfl))
                change wpAny _ _ _ _ _ _ (Act.put _ (some 63) _) _
                refine wpAny_done (by kernel_rfl) ?_ _
                go_simp
                rw [HWD.out]
                go_wp2
                rw [HW2.out, HW3.out]
                go_roundg (n + 1 - (i + 1))
                case measure => omega
                case rel => exact ⟨i + 1, by simp, by omega, rfl, HNEW⟩
              refine AllReady.cons rfl (fun K hK => ?_) AllReady.nil
              go_simp
              refine hK _ _ ?_
              clear hK K
              refine wpAny_ready (rs := [6]) (by kernel_rfl) (by simp) ?_
              refine AllReady.cons rfl (fun K hK => ?_) AllReady.nil
              go_simp
              refine hK _ _ ?_
              clear hK K
              refine wpAny_ready (rs := [11]) (by kernel_rfl) (by simp) ?_
              refine AllReady.cons rfl (fun K hK => ?_) AllReady.nil
              go_simp
              go_wp2_with (refine HHC.out.mono ?_; rintro e _ ⟨rfl, rfl⟩)
              refine wpAny_take (i := 12) (v := ?_) rfl (by kernel_rfl) (by kernel_rfl) (by kernel_rfl) (fun _ _ _ h => h) (Or.inl ⟨by kernel_rfl, ?_⟩) ?_
              rotate_left 1
              · (intro w; first | (go_simp; done) | (go_simp; with_reducible rfl))
              change wpAny _ _ _ _ _ _ (Act.put _ (some 62) _) _
              refine wpAny_take (i := 13) (v := ?_) rfl (by kernel_rfl) (by kernel_rfl) (by kernel_rfl) (fun _ _ _ h => h) (Or.inl ⟨by kernel_rfl, ?_⟩) ?_
              rotate_left 1
              · (intro w; first | (go_simp; done) | (go_simp; with_reducible rfl))
              change wpAny _ _ _ _ _ _ (Act.put _ (some 63) _) _
              refine wpAny_done (by kernel_rfl) ?_ _
              go_simp
              rw [HWD.out]
              go_wp2
              rw [HW2.out, HW3.out]
              go_roundg (n + 1 - (i + 1))
              case measure => omega
              case rel => exact ⟨i + 1, by simp, by omega, rfl, HNEW⟩
end Go.Proofs.YtnmhdcbpbaanoaaGreatDoor
