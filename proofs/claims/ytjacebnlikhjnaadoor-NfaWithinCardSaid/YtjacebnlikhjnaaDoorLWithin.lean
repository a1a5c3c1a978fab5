/- NfaWithin: no set has a state that there is not. Printed by genwithin.py. -/
import Derived.Test.YtjacebnlikhjnaaDoorBunA16
import Derived.Deep.RegionHeld3
namespace Go.Proofs.YtjacebnlikhjnaaDoor
open Go.RowKit Go.Shelf Go.Maps
attribute [local go_sem] Oper.semAt_some

/-- What a list of sets is that Run tells. -/
def WithinS (st : Bool) (m : Nat) (rs : List Nat) : Prop := ∀ (j x : Nat), rs[j]? = some x → x ≤ m ∧ (x % 2 = 1 ∨ (x % 2 = 0 ∧ st = true ∧ 0 < j))
theorem runs_within {xs : List ItemP} (hw : howP xs) (st : Bool) (l : List Int) : WithinS st (mostS xs) (runsS xs st l) := fun j x hx => by
  unfold runsS at hx
  rw [List.getElem?_map] at hx
  obtain ⟨i, hi, rfl⟩ := Option.map_eq_some_iff.1 hx
  obtain ⟨hj, e⟩ := List.getElem?_eq_some_iff.1 hi
  rw [List.getElem_range] at e
  subst e
  have h1 := run_lt hw (start := st) (l.take j)
  refine ⟨by unfold mostS; omega, ?_⟩
  rcases Nat.mod_two_eq_zero_or_one (runS xs st (l.take j)) with g | g
  · refine .inr ⟨g, ?_⟩
    cases st with
    | false =>
      have := run_zero hw (start := false) (l := l.take j) (.inl rfl)
      rw [Nat.testBit_zero, g] at this
      simp at this
    | true =>
      refine ⟨rfl, ?_⟩
      rcases Nat.eq_zero_or_pos j with h0 | h0
      · subst h0
        have := run_zero hw (start := true) (l := l.take 0) (.inr rfl)
        rw [Nat.testBit_zero, g] at this
        simp at this
      · exact h0
  · exact .inl g
set_option maxRecDepth 100000 in
set_option maxHeartbeats 4000000 in
theorem within_walk (st : Bool) (o lo : Option Addr) (n0 n k0 k cap lcap m : Nat) (rs : List Nat) (w : World) (hrl : rs.length = k + 1) (hk40 : k ≤ 40) (hrs : WithinS st m rs)
    (hSH : ∀ W, Below w.heap.size w W → Calls Tryd.prog 8 #[] W fun e w' => e = .returned (.bool true) ∧ Below W.heap.size W w')
    (hCUT : ∀ W, Calls Tryd.prog 9 #[patV st o n0 cap] W fun e w' => e = .returned (patV st o n cap) ∧ Below W.heap.size W w')
    (hFEW : ∀ W, Calls Tryd.prog 18 #[.slice lo k0 lcap] W fun e w' => e = .returned (.slice lo k lcap) ∧ W = w')
    (hRUN : ∀ W, Below w.heap.size w W → Calls Tryd.prog 19 #[patV st o n cap, .slice lo k lcap] W fun e w' => ∃ o' cap', e = .returned (.tuple #[.slice o' (k + 1) cap', .int .i64 0]) ∧ NumsAt w' o' (natsZ rs) ∧ Below W.heap.size W w')
    (hMOST : ∀ W, Below w.heap.size w W → Calls Tryd.prog 16 #[patV st o n cap] W fun e w' => e = .returned (.int .i64 ((m : Nat) : Int)) ∧ Below W.heap.size W w') :
    Calls Tryd.prog 7 #[patV st o n0 cap, .slice lo k0 lcap] w fun e w' => e = .returned (.bool true) ∧ Below w.heap.size w w' := by
  have HCUT := Lib.hid hCUT
  have HFEW := Lib.hid hFEW
  have HRUN := Lib.hid hRUN
  have HMOST := Lib.hid hMOST
  have HRL := Lib.hid hrl
  have HRS := Lib.hid hrs
  obtain ⟨w1, hw1⟩ : ∃ w1, w.alloc (patO st o n0 cap) = w1 := ⟨_, rfl⟩
  have b1 : Below w.heap.size w w1 := by rw [← hw1]; exact (Below.refl _ _).alloc (Nat.le_refl _) _
  have r1 : w1.heap[w.heap.size]? = some (patO st o n0 cap) := by rw [← hw1]; exact heap_alloc_new _ _
  have HSH := Lib.hid (hSH w1 b1)
  have HW1 := Lib.hid hw1
  have HB1 := Lib.hid b1
  have HR1 := Lib.hid r1
  have hlt1 : w.heap.size < w1.heap.size := (Array.getElem?_eq_some_iff.1 r1).1
  clear hw1 b1 r1 hSH hCUT hFEW hRUN hMOST hrl hrs
  go_enter Tryd.func7, Tryd.ntmps7
  go_wp2_with fail
  rw [HW1.out]
  refine HSH.out.mono ?_
  rintro e W2 ⟨rfl, b2⟩
  obtain ⟨p0, p1⟩ := pat_cellsH (row_below HR1.out b2)
  have HR2 := Lib.hid (row_below HR1.out b2)
  have HB2 := Lib.hid (HB1.out.trans (b2.mono HB1.out.size))
  clear b2
  go_wp2_with fail
  refine (HCUT.out _).mono ?_
  rintro e W3 ⟨rfl, b3⟩
  have hr3 := row_below HR2.out b3
  obtain ⟨q0, q1⟩ := pat_cellsH hr3
  have f0 := frozen_of_row W3 w.heap.size 0 _ _ hr3
  have f1 := frozen_of_row W3 w.heap.size 1 _ _ hr3
  obtain ⟨r4, m4⟩ := two_setH (.bool st) (.slice o n cap) hr3
  obtain ⟨w4, hw4⟩ : ∃ w4, (W3.setCell ⟨w.heap.size, 0, none⟩ (.bool st)).setCell ⟨w.heap.size, 1, none⟩ (.slice o n cap) = w4 := ⟨_, rfl⟩
  rw [hw4] at r4 m4
  have HB4 := Lib.hid (Moves.below (HB2.out.trans (b3.mono HB2.out.size)) (by have := HB2.out.size; have := b3.size; omega) m4 (fun k hk => by omega))
  have HR4 := Lib.hid r4
  have HW4 := Lib.hid hw4
  obtain ⟨s0, s1⟩ := pat_cellsH r4
  have KEEP : Hid (∀ A B : World, Below w4.heap.size w4 A → Below A.heap.size A B → B.cell? ⟨w.heap.size, 0, none⟩ = some (.bool st) ∧ B.cell? ⟨w.heap.size, 1, none⟩ = some (.slice o n cap) ∧ Below w4.heap.size w4 B) := Lib.hid fun A B h b => by
    have bb := h.trans (b.mono h.size)
    exact ⟨(pat_cellsH (row_below HR4.out bb)).1, (pat_cellsH (row_below HR4.out bb)).2, bb⟩
  have K1 : Hid (∀ W, (W.cell? ⟨w.heap.size, 0, none⟩ = some (.bool st) ∧ W.cell? ⟨w.heap.size, 1, none⟩ = some (.slice o n cap) ∧ Below w4.heap.size w4 W) → Calls Tryd.prog 18 #[.slice lo k0 lcap] W fun e w' => e = .returned (.slice lo k lcap) ∧ (w'.cell? ⟨w.heap.size, 0, none⟩ = some (.bool st) ∧ w'.cell? ⟨w.heap.size, 1, none⟩ = some (.slice o n cap) ∧ Below w4.heap.size w4 w')) := Lib.hid fun W hs => (HFEW.out W).mono (by
    rintro e w' ⟨rfl, rfl⟩
    exact ⟨rfl, hs⟩)
  have K2 : Hid (∀ W, (W.cell? ⟨w.heap.size, 0, none⟩ = some (.bool st) ∧ W.cell? ⟨w.heap.size, 1, none⟩ = some (.slice o n cap) ∧ Below w4.heap.size w4 W) → Calls Tryd.prog 19 #[patV st o n cap, .slice lo k lcap] W fun e w' => ∃ o' cap', e = .returned (.tuple #[.slice o' (k + 1) cap', .int .i64 0]) ∧ NumsAt w' o' (natsZ rs) ∧ (w'.cell? ⟨w.heap.size, 0, none⟩ = some (.bool st) ∧ w'.cell? ⟨w.heap.size, 1, none⟩ = some (.slice o n cap) ∧ Below w4.heap.size w4 w')) := Lib.hid fun W hs => (HRUN.out W (HB4.out.trans (hs.2.2.mono HB4.out.size))).mono (by
    rintro e w' ⟨o', cap', rfl, hr, b⟩
    exact ⟨o', cap', rfl, hr, KEEP.out W w' hs.2.2 b⟩)
  have HD : Below w4.heap.size w4 w4.drew := (Below.refl _ _).drew
  clear p0 p1 b3 m4 hw4 hr3 r4
  go_wp2_with fail
  rw [HW4.out]
  clear q0 q1 f0 f1
  go_region_held3 (fun W => W.cell? ⟨w.heap.size, 0, none⟩ = some (.bool st) ∧ W.cell? ⟨w.heap.size, 1, none⟩ = some (.slice o n cap) ∧ Below w4.heap.size w4 W) (first | assumption | exact HD | go_keep) (first | (go_at_call 18; refine (K1.out _ (by first | assumption | exact ⟨s0, s1, HD⟩ | exact hg)).mono ?_; rintro e w' ⟨rfl, hg⟩) | (go_at_call 19; refine (K2.out _ (by first | assumption | exact hg)).mono ?_; rintro e w' ⟨o5, c5, rfl, hrow, hg⟩))
  obtain ⟨t0, t1, b5⟩ := hg
  have HB5 := Lib.hid b5
  have HROW := Lib.hid hrow
  obtain ⟨w5, hw5⟩ : ∃ w5, w' = w5 := ⟨_, rfl⟩
  subst hw5
  clear b5 hrow
  go_wp2_with fail
  go_loopg [8] (k + 1) (fun kk v wr => ∃ j : Nat, v = .int .i64 (j : Nat) ∧ j ≤ k + 1 ∧ kk = k + 1 - j ∧ Hid (Below w4.heap.size w4 wr) ∧ Hid (NumsAt wr o5 (natsZ rs)))
  case atStart => exact ⟨0, rfl, Nat.zero_le _, rfl, HB5, HROW⟩
  case round =>
    obtain ⟨j, rfl, hj, rfl, HB, HRO⟩ := hrel
    rcases Nat.lt_or_ge j (k + 1) with hlt | hge
    · have hj1 : j < 1000000 := by omega
      obtain ⟨x, hx⟩ : ∃ x, rs[j]? = some x := ⟨_, List.getElem?_eq_getElem (by rw [HRL.out]; exact hlt)⟩
      obtain ⟨hm, hcase⟩ := HRS.out j x hx
      obtain ⟨g, off, rfl, hc⟩ := HRO.out (by rw [List.length_map, HRL.out]; omega)
      have k0 := hc j ((x : Nat) : Int) (by rw [List.getElem?_map, hx]; rfl)
      have HK0 := Lib.hid k0
      have HRW := Lib.hid (row_below HR4.out HB.out)
      obtain ⟨p0, p1⟩ := pat_cellsH HRW.out
      have HBW := Lib.hid (HB4.out.trans (HB.out.mono HB4.out.size))
      have n1 : ¬ ((x : Nat) : Int) < 0 := by omega
      have n2 : ¬ m < x := by omega
      have d1 : decide (((x : Nat) : Int) < 0) = false := decide_eq_false n1
      have d2 : decide (m < x) = false := decide_eq_false n2
      have d3 : decide (((m : Nat) : Int) < ((x : Nat) : Int)) = false := decide_eq_false (by omega)
      have HD : Below wr.heap.size wr wr.drew := (Below.refl _ _).drew
      clear hc hx hm
      rcases hcase with h | ⟨h, rfl, hj0⟩
      · have e2 : ((x : Nat) : Int) % 2 = 1 := by omega
        have e5 : ((x : Nat) : Int).tmod 2 = 1 := by rw [Int.tmod_eq_emod_of_nonneg (Int.natCast_nonneg _)]; exact e2
        have e6 : (((x : Nat) : Int) % 2 == 0) = false := by rw [e2]; rfl
        have e7 : decide (((x : Nat) : Int) % 2 = 0) = false := decide_eq_false (by omega)
        have K1 : Hid (∀ W, (W.cell? ⟨g, off + j, none⟩ = some (.int .i64 ((x : Nat) : Int)) ∧ W.cell? ⟨w.heap.size, 0, none⟩ = some (.bool st) ∧ W.cell? ⟨w.heap.size, 1, none⟩ = some (.slice o n cap) ∧ Below wr.heap.size wr W) → Calls Tryd.prog 16 #[patV st o n cap] W fun e w' => e = .returned (.int .i64 ((m : Nat) : Int)) ∧ (w'.cell? ⟨g, off + j, none⟩ = some (.int .i64 ((x : Nat) : Int)) ∧ w'.cell? ⟨w.heap.size, 0, none⟩ = some (.bool st) ∧ w'.cell? ⟨w.heap.size, 1, none⟩ = some (.slice o n cap) ∧ Below wr.heap.size wr w')) := Lib.hid fun W hs => (HMOST.out W (HBW.out.trans (hs.2.2.2.mono HBW.out.size))).mono (by
          rintro e w' ⟨rfl, b⟩
          have bb := hs.2.2.2.trans (b.mono hs.2.2.2.size)
          exact ⟨rfl, cell_keepQ bb HK0.out, (pat_cellsH (row_below HRW.out bb)).1, (pat_cellsH (row_below HRW.out bb)).2, bb⟩)
        go_wp2_with fail
        refine wp_region_held_drew (S := (fun W => (W.cell? ⟨g, off + j, none⟩ = some (.int .i64 ((x : Nat) : Int)) ∧ W.cell? ⟨w.heap.size, 0, none⟩ = some (.bool st) ∧ W.cell? ⟨w.heap.size, 1, none⟩ = some (.slice o n cap) ∧ Below wr.heap.size wr W))) (by kernel_rfl) ⟨k0, p0, p1, HD⟩ (fun hHeld => ?_)
        refine wpAnyH_take (i := 0) (v := ?_) rfl (by kernel_rfl) (by kernel_rfl) (by kernel_rfl) (fun _ _ _ h => h) (Or.inl ⟨by rfl, ?_⟩) hHeld ?_
        rotate_left 1
        · (intro w' hSw; (try dsimp only at hSw); first | (go_simp; done) | (go_simp; with_reducible rfl))
        change wpAnyH _ _ _ _ _ _ _ (Act.put _ (some 33) _) _
        simp only [Act.put, List.setIfInBounds_toArray, List.set_cons_zero, List.set_cons_succ]
        refine wpAnyH_take (i := 1) (v := ?_) rfl (by kernel_rfl) (by kernel_rfl) (by kernel_rfl) (fun _ _ _ h => h) (Or.inl ⟨by rfl, ?_⟩) hHeld ?_
        rotate_left 1
        · (intro w' hSw; (try dsimp only at hSw); first | (go_simp; done) | (go_simp; with_reducible rfl))
        change wpAnyH _ _ _ _ _ _ _ (Act.put _ (some 34) _) _
        simp only [Act.put, List.setIfInBounds_toArray, List.set_cons_zero, List.set_cons_succ]
        refine wpAnyH_take (i := 2) (v := ?_) rfl (by kernel_rfl) (by kernel_rfl) (by kernel_rfl) (fun _ _ _ h => h) (Or.inl ⟨by rfl, ?_⟩) hHeld ?_
        rotate_left 1
        · (intro w' hSw; (try dsimp only at hSw); first | (go_simp; done) | (go_simp; with_reducible rfl))
        change wpAnyH _ _ _ _ _ _ _ (Act.put _ (some 35) _) _
        simp only [Act.put, List.setIfInBounds_toArray, List.set_cons_zero, List.set_cons_succ]
        refine wpAnyH_take (i := 3) (v := ?_) rfl (by kernel_rfl) (by kernel_rfl) (by kernel_rfl) (fun _ _ _ h => h) (Or.inl ⟨by rfl, ?_⟩) hHeld ?_
        rotate_left 1
        · (intro w' hSw; (try dsimp only at hSw); first | (go_simp; done) | (go_simp; with_reducible rfl))
        change wpAnyH _ _ _ _ _ _ _ (Act.put _ (some 36) _) _
        simp only [Act.put, List.setIfInBounds_toArray, List.set_cons_zero, List.set_cons_succ]
        refine wpAnyH_take (i := 4) (v := ?_) rfl (by kernel_rfl) (by kernel_rfl) (by kernel_rfl) (fun _ _ _ h => h) (Or.inl ⟨by rfl, ?_⟩) hHeld ?_
        rotate_left 1
        · (intro w' hSw; (try dsimp only at hSw); first | (go_simp; done) | (go_simp; with_reducible rfl))
        change wpAnyH _ _ _ _ _ _ _ (Act.put _ (some 37) _) _
        simp only [Act.put, List.setIfInBounds_toArray, List.set_cons_zero, List.set_cons_succ]
        refine wpAnyH_take (i := 5) (v := ?_) rfl (by kernel_rfl) (by kernel_rfl) (by kernel_rfl) (fun _ _ _ h => h) (Or.inl ⟨by rfl, ?_⟩) hHeld ?_
        rotate_left 1
        · (intro w' hSw; (try dsimp only at hSw); first | (go_simp; done) | (go_simp; with_reducible rfl))
        change wpAnyH _ _ _ _ _ _ _ (Act.put _ (some 38) _) _
        simp only [Act.put, List.setIfInBounds_toArray, List.set_cons_zero, List.set_cons_succ]
        refine wpAnyH_take (i := 6) (v := ?_) rfl (by kernel_rfl) (by kernel_rfl) (by kernel_rfl) (fun _ _ _ h => h) (Or.inl ⟨by rfl, ?_⟩) hHeld ?_
        rotate_left 1
        · (intro w' hSw; (try dsimp only at hSw); first | (go_simp; done) | (go_simp; with_reducible rfl))
        change wpAnyH _ _ _ _ _ _ _ (Act.put _ (some 39) _) _
        simp only [Act.put, List.setIfInBounds_toArray, List.set_cons_zero, List.set_cons_succ]
        refine wpAnyH_take (i := 7) (v := ?_) rfl (by kernel_rfl) (by kernel_rfl) (by kernel_rfl) (fun _ _ _ h => h) (Or.inl ⟨by rfl, ?_⟩) hHeld ?_
        rotate_left 1
        · (intro w' hSw; (try dsimp only at hSw); first | (go_simp; done) | (go_simp; with_reducible rfl))
        change wpAnyH _ _ _ _ _ _ _ (Act.put _ (some 40) _) _
        simp only [Act.put, List.setIfInBounds_toArray, List.set_cons_zero, List.set_cons_succ]
        refine wpAnyH_take (i := 8) (v := ?_) rfl (by kernel_rfl) (by kernel_rfl) (by kernel_rfl) (fun _ _ _ h => h) (Or.inl ⟨by rfl, ?_⟩) hHeld ?_
        rotate_left 1
        · (intro w' hSw; (try dsimp only at hSw); first | (go_simp; done) | (go_simp; with_reducible rfl))
        change wpAnyH _ _ _ _ _ _ _ (Act.put _ (some 41) _) _
        simp only [Act.put, List.setIfInBounds_toArray, List.set_cons_zero, List.set_cons_succ]
        refine wpAnyH_take (i := 9) (v := ?_) rfl (by kernel_rfl) (by kernel_rfl) (by kernel_rfl) (fun _ _ _ h => h) (Or.inl ⟨by rfl, ?_⟩) hHeld ?_
        rotate_left 1
        · (intro w' hSw; (try dsimp only at hSw); first | (go_simp; done) | (go_simp; with_reducible rfl))
        change wpAnyH _ _ _ _ _ _ _ (Act.put _ (some 42) _) _
        simp only [Act.put, List.setIfInBounds_toArray, List.set_cons_zero, List.set_cons_succ]
        refine wpAnyH_take (i := 10) (v := ?_) rfl (by kernel_rfl) (by kernel_rfl) (by kernel_rfl) (fun _ _ _ h => h) (Or.inl ⟨by rfl, ?_⟩) hHeld ?_
        rotate_left 1
        · (intro w' hSw; (try dsimp only at hSw); first | (go_simp; done) | (go_simp; with_reducible rfl))
        change wpAnyH _ _ _ _ _ _ _ (Act.put _ (some 43) _) _
        simp only [Act.put, List.setIfInBounds_toArray, List.set_cons_zero, List.set_cons_succ]
        refine wpAnyH_ready (rs := [11]) (by kernel_rfl) (by simp) ?_
        refine AllReadyH.cons rfl (fun K hK => ?_) AllReadyH.nil
        go_simp
        refine (K1.out _ hHeld).mono ?_
        rintro e w' ⟨rfl, hg⟩
        go_wp2_with fail
        refine hK.out _ _ hg (fun hHeld => ?_)
        clear hK K
        try simp only [Act.put, List.setIfInBounds_toArray, List.set_cons_zero, List.set_cons_succ]
        refine wpAnyH_take (i := 12) (v := ?_) rfl (by kernel_rfl) (by kernel_rfl) (by kernel_rfl) (fun _ _ _ h => h) (Or.inl ⟨by rfl, ?_⟩) hHeld ?_
        rotate_left 1
        · (intro w' hSw; (try dsimp only at hSw); first | (go_simp; done) | (go_simp; with_reducible rfl))
        change wpAnyH _ _ _ _ _ _ _ (Act.put _ (some 45) _) _
        simp only [Act.put, List.setIfInBounds_toArray, List.set_cons_zero, List.set_cons_succ]
        refine wpAnyH_take (i := 13) (v := ?_) rfl (by kernel_rfl) (by kernel_rfl) (by kernel_rfl) (fun _ _ _ h => h) (Or.inl ⟨by rfl, ?_⟩) hHeld ?_
        rotate_left 1
        · (intro w' hSw; (try dsimp only at hSw); first | (go_simp; done) | (go_simp; with_reducible rfl))
        change wpAnyH _ _ _ _ _ _ _ (Act.put _ (some 46) _) _
        simp only [Act.put, List.setIfInBounds_toArray, List.set_cons_zero, List.set_cons_succ]
        refine wpAnyH_take (i := 14) (v := ?_) rfl (by kernel_rfl) (by kernel_rfl) (by kernel_rfl) (fun _ _ _ h => h) (Or.inl ⟨by rfl, ?_⟩) hHeld ?_
        rotate_left 1
        · (intro w' hSw; (try dsimp only at hSw); first | (go_simp; done) | (go_simp; with_reducible rfl))
        change wpAnyH _ _ _ _ _ _ _ (Act.put _ (some 47) _) _
        simp only [Act.put, List.setIfInBounds_toArray, List.set_cons_zero, List.set_cons_succ]
        refine wpAnyH_take (i := 15) (v := ?_) rfl (by kernel_rfl) (by kernel_rfl) (by kernel_rfl) (fun _ _ _ h => h) (Or.inl ⟨by rfl, ?_⟩) hHeld ?_
        rotate_left 1
        · (intro w' hSw; (try dsimp only at hSw); first | (go_simp; done) | (go_simp; with_reducible rfl))
        change wpAnyH _ _ _ _ _ _ _ (Act.put _ (some 48) _) _
        simp only [Act.put, List.setIfInBounds_toArray, List.set_cons_zero, List.set_cons_succ]
        refine wpAnyH_take (i := 16) (v := ?_) rfl (by kernel_rfl) (by kernel_rfl) (by kernel_rfl) (fun _ _ _ h => h) (Or.inl ⟨by rfl, ?_⟩) hHeld ?_
        rotate_left 1
        · (intro w' hSw; (try dsimp only at hSw); first | (go_simp; done) | (go_simp; with_reducible rfl))
        change wpAnyH _ _ _ _ _ _ _ (Act.put _ (some 49) _) _
        simp only [Act.put, List.setIfInBounds_toArray, List.set_cons_zero, List.set_cons_succ]
        refine wpAnyH_take (i := 17) (v := ?_) rfl (by kernel_rfl) (by kernel_rfl) (by kernel_rfl) (fun _ _ _ h => h) (Or.inl ⟨by rfl, ?_⟩) hHeld ?_
        rotate_left 1
        · (intro w' hSw; (try dsimp only at hSw); first | (go_simp; done) | (go_simp; with_reducible rfl))
        change wpAnyH _ _ _ _ _ _ _ (Act.put _ (some 50) _) _
        simp only [Act.put, List.setIfInBounds_toArray, List.set_cons_zero, List.set_cons_succ]
        refine wpAnyH_take (i := 18) (v := ?_) rfl (by kernel_rfl) (by kernel_rfl) (by kernel_rfl) (fun _ _ _ h => h) (Or.inl ⟨by rfl, ?_⟩) hHeld ?_
        rotate_left 1
        · (intro w' hSw; (try dsimp only at hSw); first | (go_simp; done) | (go_simp; with_reducible rfl))
        change wpAnyH _ _ _ _ _ _ _ (Act.put _ (some 51) _) _
        simp only [Act.put, List.setIfInBounds_toArray, List.set_cons_zero, List.set_cons_succ]
        refine wpAnyH_take (i := 19) (v := ?_) rfl (by kernel_rfl) (by kernel_rfl) (by kernel_rfl) (fun _ _ _ h => h) (Or.inl ⟨by rfl, ?_⟩) hHeld ?_
        rotate_left 1
        · (intro w' hSw; (try dsimp only at hSw); first | (go_simp; done) | (go_simp; with_reducible rfl))
        change wpAnyH _ _ _ _ _ _ _ (Act.put _ (some 52) _) _
        simp only [Act.put, List.setIfInBounds_toArray, List.set_cons_zero, List.set_cons_succ]
        refine wpAnyH_take (i := 20) (v := ?_) rfl (by kernel_rfl) (by kernel_rfl) (by kernel_rfl) (fun _ _ _ h => h) (Or.inl ⟨by rfl, ?_⟩) hHeld ?_
        rotate_left 1
        · (intro w' hSw; (try dsimp only at hSw); first | (go_simp; done) | (go_simp; with_reducible rfl))
        change wpAnyH _ _ _ _ _ _ _ (Act.put _ (some 53) _) _
        simp only [Act.put, List.setIfInBounds_toArray, List.set_cons_zero, List.set_cons_succ]
        refine wpAnyH_take (i := 21) (v := ?_) rfl (by kernel_rfl) (by kernel_rfl) (by kernel_rfl) (fun _ _ _ h => h) (Or.inl ⟨by rfl, ?_⟩) hHeld ?_
        rotate_left 1
        · (intro w' hSw; (try dsimp only at hSw); first | (go_simp; done) | (go_simp; with_reducible rfl))
        change wpAnyH _ _ _ _ _ _ _ (Act.put _ (some 54) _) _
        simp only [Act.put, List.setIfInBounds_toArray, List.set_cons_zero, List.set_cons_succ]
        refine wpAnyH_take (i := 22) (v := undef) rfl (by kernel_rfl) (by kernel_rfl) (by kernel_rfl) (fun _ _ _ h => h) (Or.inr ⟨by rfl, rfl⟩) hHeld ?_
        change wpAnyH _ _ _ _ _ _ _ (Act.put _ (some 55) _) _
        simp only [Act.put, List.setIfInBounds_toArray, List.set_cons_zero, List.set_cons_succ]
        refine wpAnyH_take (i := 23) (v := undef) rfl (by kernel_rfl) (by kernel_rfl) (by kernel_rfl) (fun _ _ _ h => h) (Or.inr ⟨by rfl, rfl⟩) hHeld ?_
        change wpAnyH _ _ _ _ _ _ _ (Act.put _ (some 56) _) _
        simp only [Act.put, List.setIfInBounds_toArray, List.set_cons_zero, List.set_cons_succ]
        refine wpAnyH_take (i := 24) (v := undef) rfl (by kernel_rfl) (by kernel_rfl) (by kernel_rfl) (fun _ _ _ h => h) (Or.inr ⟨by rfl, rfl⟩) hHeld ?_
        change wpAnyH _ _ _ _ _ _ _ (Act.put _ (some 57) _) _
        simp only [Act.put, List.setIfInBounds_toArray, List.set_cons_zero, List.set_cons_succ]
        refine wpAnyH_take (i := 25) (v := undef) rfl (by kernel_rfl) (by kernel_rfl) (by kernel_rfl) (fun _ _ _ h => h) (Or.inr ⟨by rfl, rfl⟩) hHeld ?_
        change wpAnyH _ _ _ _ _ _ _ (Act.put _ (some 58) _) _
        simp only [Act.put, List.setIfInBounds_toArray, List.set_cons_zero, List.set_cons_succ]
        refine wpAnyH_take (i := 26) (v := undef) rfl (by kernel_rfl) (by kernel_rfl) (by kernel_rfl) (fun _ _ _ h => h) (Or.inr ⟨by rfl, rfl⟩) hHeld ?_
        change wpAnyH _ _ _ _ _ _ _ (Act.put _ (some 59) _) _
        simp only [Act.put, List.setIfInBounds_toArray, List.set_cons_zero, List.set_cons_succ]
        refine wpAnyH_take (i := 27) (v := undef) rfl (by kernel_rfl) (by kernel_rfl) (by kernel_rfl) (fun _ _ _ h => h) (Or.inr ⟨by rfl, rfl⟩) hHeld ?_
        change wpAnyH _ _ _ _ _ _ _ (Act.put _ (some 60) _) _
        simp only [Act.put, List.setIfInBounds_toArray, List.set_cons_zero, List.set_cons_succ]
        refine wpAnyH_take (i := 28) (v := undef) rfl (by kernel_rfl) (by kernel_rfl) (by kernel_rfl) (fun _ _ _ h => h) (Or.inr ⟨by rfl, rfl⟩) hHeld ?_
        change wpAnyH _ _ _ _ _ _ _ (Act.put _ (some 61) _) _
        simp only [Act.put, List.setIfInBounds_toArray, List.set_cons_zero, List.set_cons_succ]
        refine wpAnyH_take (i := 29) (v := ?_) rfl (by kernel_rfl) (by kernel_rfl) (by kernel_rfl) (fun _ _ _ h => h) (Or.inl ⟨by rfl, ?_⟩) hHeld ?_
        rotate_left 1
        · (intro w' hSw; (try dsimp only at hSw); first | (go_simp; done) | (go_simp; with_reducible rfl))
        change wpAnyH _ _ _ _ _ _ _ (Act.put _ (some 62) _) _
        simp only [Act.put, List.setIfInBounds_toArray, List.set_cons_zero, List.set_cons_succ]
        refine wpAnyH_take (i := 30) (v := ?_) rfl (by kernel_rfl) (by kernel_rfl) (by kernel_rfl) (fun _ _ _ h => h) (Or.inl ⟨by rfl, ?_⟩) hHeld ?_
        rotate_left 1
        · (intro w' hSw; (try dsimp only at hSw); first | (go_simp; done) | (go_simp; with_reducible rfl))
        change wpAnyH _ _ _ _ _ _ _ (Act.put _ (some 63) _) _
        simp only [Act.put, List.setIfInBounds_toArray, List.set_cons_zero, List.set_cons_succ]
        refine wpAnyH_done (by kernel_rfl) ?_ _
        have HB9 := Lib.hid (HB.out.trans (hHeld.2.2.2.mono HB.out.size))
        have HRO9 := Lib.hid (HRO.out.below hHeld.2.2.2)
        clear hHeld
        go_wp2_with fail
        go_roundg (k + 1 - (j + 1))
        case measure => omega
        case rel => exact ⟨j + 1, by simp, by omega, rfl, HB9, HRO9⟩
      · have e2 : ((x : Nat) : Int) % 2 = 0 := by omega
        have e3 : ¬ j = 0 := by omega
        have e5 : ((x : Nat) : Int).tmod 2 = 0 := by rw [Int.tmod_eq_emod_of_nonneg (Int.natCast_nonneg _)]; exact e2
        have e6 : (((x : Nat) : Int) % 2 == 0) = true := by rw [e2]; rfl
        have e7 : decide (((x : Nat) : Int) % 2 = 0) = true := decide_eq_true e2
        have e8 : decide (j = 0) = false := decide_eq_false e3
        have e9 : decide (((j : Nat) : Int) = 0) = false := decide_eq_false (by omega)
        have e10 : (((j : Nat) : Int) == 0) = false := by simpa using e3
        have K1 : Hid (∀ W, (W.cell? ⟨g, off + j, none⟩ = some (.int .i64 ((x : Nat) : Int)) ∧ W.cell? ⟨w.heap.size, 0, none⟩ = some (.bool true) ∧ W.cell? ⟨w.heap.size, 1, none⟩ = some (.slice o n cap) ∧ Below wr.heap.size wr W) → Calls Tryd.prog 16 #[patV true o n cap] W fun e w' => e = .returned (.int .i64 ((m : Nat) : Int)) ∧ (w'.cell? ⟨g, off + j, none⟩ = some (.int .i64 ((x : Nat) : Int)) ∧ w'.cell? ⟨w.heap.size, 0, none⟩ = some (.bool true) ∧ w'.cell? ⟨w.heap.size, 1, none⟩ = some (.slice o n cap) ∧ Below wr.heap.size wr w')) := Lib.hid fun W hs => (HMOST.out W (HBW.out.trans (hs.2.2.2.mono HBW.out.size))).mono (by
          rintro e w' ⟨rfl, b⟩
          have bb := hs.2.2.2.trans (b.mono hs.2.2.2.size)
          exact ⟨rfl, cell_keepQ bb HK0.out, (pat_cellsH (row_below HRW.out bb)).1, (pat_cellsH (row_below HRW.out bb)).2, bb⟩)
        go_wp2_with fail
        refine wp_region_held_drew (S := (fun W => (W.cell? ⟨g, off + j, none⟩ = some (.int .i64 ((x : Nat) : Int)) ∧ W.cell? ⟨w.heap.size, 0, none⟩ = some (.bool true) ∧ W.cell? ⟨w.heap.size, 1, none⟩ = some (.slice o n cap) ∧ Below wr.heap.size wr W))) (by kernel_rfl) ⟨k0, p0, p1, HD⟩ (fun hHeld => ?_)
        refine wpAnyH_take (i := 0) (v := ?_) rfl (by kernel_rfl) (by kernel_rfl) (by kernel_rfl) (fun _ _ _ h => h) (Or.inl ⟨by rfl, ?_⟩) hHeld ?_
        rotate_left 1
        · (intro w' hSw; (try dsimp only at hSw); first | (go_simp; done) | (go_simp; with_reducible rfl))
        change wpAnyH _ _ _ _ _ _ _ (Act.put _ (some 33) _) _
        simp only [Act.put, List.setIfInBounds_toArray, List.set_cons_zero, List.set_cons_succ]
        refine wpAnyH_take (i := 1) (v := ?_) rfl (by kernel_rfl) (by kernel_rfl) (by kernel_rfl) (fun _ _ _ h => h) (Or.inl ⟨by rfl, ?_⟩) hHeld ?_
        rotate_left 1
        · (intro w' hSw; (try dsimp only at hSw); first | (go_simp; done) | (go_simp; with_reducible rfl))
        change wpAnyH _ _ _ _ _ _ _ (Act.put _ (some 34) _) _
        simp only [Act.put, List.setIfInBounds_toArray, List.set_cons_zero, List.set_cons_succ]
        refine wpAnyH_take (i := 2) (v := ?_) rfl (by kernel_rfl) (by kernel_rfl) (by kernel_rfl) (fun _ _ _ h => h) (Or.inl ⟨by rfl, ?_⟩) hHeld ?_
        rotate_left 1
        · (intro w' hSw; (try dsimp only at hSw); first | (go_simp; done) | (go_simp; with_reducible rfl))
        change wpAnyH _ _ _ _ _ _ _ (Act.put _ (some 35) _) _
        simp only [Act.put, List.setIfInBounds_toArray, List.set_cons_zero, List.set_cons_succ]
        refine wpAnyH_take (i := 3) (v := ?_) rfl (by kernel_rfl) (by kernel_rfl) (by kernel_rfl) (fun _ _ _ h => h) (Or.inl ⟨by rfl, ?_⟩) hHeld ?_
        rotate_left 1
        · (intro w' hSw; (try dsimp only at hSw); first | (go_simp; done) | (go_simp; with_reducible rfl))
        change wpAnyH _ _ _ _ _ _ _ (Act.put _ (some 36) _) _
        simp only [Act.put, List.setIfInBounds_toArray, List.set_cons_zero, List.set_cons_succ]
        refine wpAnyH_take (i := 4) (v := ?_) rfl (by kernel_rfl) (by kernel_rfl) (by kernel_rfl) (fun _ _ _ h => h) (Or.inl ⟨by rfl, ?_⟩) hHeld ?_
        rotate_left 1
        · (intro w' hSw; (try dsimp only at hSw); first | (go_simp; done) | (go_simp; with_reducible rfl))
        change wpAnyH _ _ _ _ _ _ _ (Act.put _ (some 37) _) _
        simp only [Act.put, List.setIfInBounds_toArray, List.set_cons_zero, List.set_cons_succ]
        refine wpAnyH_take (i := 5) (v := ?_) rfl (by kernel_rfl) (by kernel_rfl) (by kernel_rfl) (fun _ _ _ h => h) (Or.inl ⟨by rfl, ?_⟩) hHeld ?_
        rotate_left 1
        · (intro w' hSw; (try dsimp only at hSw); first | (go_simp; done) | (go_simp; with_reducible rfl))
        change wpAnyH _ _ _ _ _ _ _ (Act.put _ (some 38) _) _
        simp only [Act.put, List.setIfInBounds_toArray, List.set_cons_zero, List.set_cons_succ]
        refine wpAnyH_take (i := 6) (v := ?_) rfl (by kernel_rfl) (by kernel_rfl) (by kernel_rfl) (fun _ _ _ h => h) (Or.inl ⟨by rfl, ?_⟩) hHeld ?_
        rotate_left 1
        · (intro w' hSw; (try dsimp only at hSw); first | (go_simp; done) | (go_simp; with_reducible rfl))
        change wpAnyH _ _ _ _ _ _ _ (Act.put _ (some 39) _) _
        simp only [Act.put, List.setIfInBounds_toArray, List.set_cons_zero, List.set_cons_succ]
        refine wpAnyH_take (i := 7) (v := ?_) rfl (by kernel_rfl) (by kernel_rfl) (by kernel_rfl) (fun _ _ _ h => h) (Or.inl ⟨by rfl, ?_⟩) hHeld ?_
        rotate_left 1
        · (intro w' hSw; (try dsimp only at hSw); first | (go_simp; done) | (go_simp; with_reducible rfl))
        change wpAnyH _ _ _ _ _ _ _ (Act.put _ (some 40) _) _
        simp only [Act.put, List.setIfInBounds_toArray, List.set_cons_zero, List.set_cons_succ]
        refine wpAnyH_take (i := 8) (v := ?_) rfl (by kernel_rfl) (by kernel_rfl) (by kernel_rfl) (fun _ _ _ h => h) (Or.inl ⟨by rfl, ?_⟩) hHeld ?_
        rotate_left 1
        · (intro w' hSw; (try dsimp only at hSw); first | (go_simp; done) | (go_simp; with_reducible rfl))
        change wpAnyH _ _ _ _ _ _ _ (Act.put _ (some 41) _) _
        simp only [Act.put, List.setIfInBounds_toArray, List.set_cons_zero, List.set_cons_succ]
        refine wpAnyH_take (i := 9) (v := ?_) rfl (by kernel_rfl) (by kernel_rfl) (by kernel_rfl) (fun _ _ _ h => h) (Or.inl ⟨by rfl, ?_⟩) hHeld ?_
        rotate_left 1
        · (intro w' hSw; (try dsimp only at hSw); first | (go_simp; done) | (go_simp; with_reducible rfl))
        change wpAnyH _ _ _ _ _ _ _ (Act.put _ (some 42) _) _
        simp only [Act.put, List.setIfInBounds_toArray, List.set_cons_zero, List.set_cons_succ]
        refine wpAnyH_take (i := 10) (v := ?_) rfl (by kernel_rfl) (by kernel_rfl) (by kernel_rfl) (fun _ _ _ h => h) (Or.inl ⟨by rfl, ?_⟩) hHeld ?_
        rotate_left 1
        · (intro w' hSw; (try dsimp only at hSw); first | (go_simp; done) | (go_simp; with_reducible rfl))
        change wpAnyH _ _ _ _ _ _ _ (Act.put _ (some 43) _) _
        simp only [Act.put, List.setIfInBounds_toArray, List.set_cons_zero, List.set_cons_succ]
        refine wpAnyH_ready (rs := [11]) (by kernel_rfl) (by simp) ?_
        refine AllReadyH.cons rfl (fun K hK => ?_) AllReadyH.nil
        go_simp
        refine (K1.out _ hHeld).mono ?_
        rintro e w' ⟨rfl, hg⟩
        go_wp2_with fail
        refine hK.out _ _ hg (fun hHeld => ?_)
        clear hK K
        try simp only [Act.put, List.setIfInBounds_toArray, List.set_cons_zero, List.set_cons_succ]
        refine wpAnyH_take (i := 12) (v := ?_) rfl (by kernel_rfl) (by kernel_rfl) (by kernel_rfl) (fun _ _ _ h => h) (Or.inl ⟨by rfl, ?_⟩) hHeld ?_
        rotate_left 1
        · (intro w' hSw; (try dsimp only at hSw); first | (go_simp; done) | (go_simp; with_reducible rfl))
        change wpAnyH _ _ _ _ _ _ _ (Act.put _ (some 45) _) _
        simp only [Act.put, List.setIfInBounds_toArray, List.set_cons_zero, List.set_cons_succ]
        refine wpAnyH_take (i := 13) (v := ?_) rfl (by kernel_rfl) (by kernel_rfl) (by kernel_rfl) (fun _ _ _ h => h) (Or.inl ⟨by rfl, ?_⟩) hHeld ?_
        rotate_left 1
        · (intro w' hSw; (try dsimp only at hSw); first | (go_simp; done) | (go_simp; with_reducible rfl))
        change wpAnyH _ _ _ _ _ _ _ (Act.put _ (some 46) _) _
        simp only [Act.put, List.setIfInBounds_toArray, List.set_cons_zero, List.set_cons_succ]
        refine wpAnyH_take (i := 14) (v := ?_) rfl (by kernel_rfl) (by kernel_rfl) (by kernel_rfl) (fun _ _ _ h => h) (Or.inl ⟨by rfl, ?_⟩) hHeld ?_
        rotate_left 1
        · (intro w' hSw; (try dsimp only at hSw); first | (go_simp; done) | (go_simp; with_reducible rfl))
        change wpAnyH _ _ _ _ _ _ _ (Act.put _ (some 47) _) _
        simp only [Act.put, List.setIfInBounds_toArray, List.set_cons_zero, List.set_cons_succ]
        refine wpAnyH_take (i := 15) (v := ?_) rfl (by kernel_rfl) (by kernel_rfl) (by kernel_rfl) (fun _ _ _ h => h) (Or.inl ⟨by rfl, ?_⟩) hHeld ?_
        rotate_left 1
        · (intro w' hSw; (try dsimp only at hSw); first | (go_simp; done) | (go_simp; with_reducible rfl))
        change wpAnyH _ _ _ _ _ _ _ (Act.put _ (some 48) _) _
        simp only [Act.put, List.setIfInBounds_toArray, List.set_cons_zero, List.set_cons_succ]
        refine wpAnyH_take (i := 16) (v := ?_) rfl (by kernel_rfl) (by kernel_rfl) (by kernel_rfl) (fun _ _ _ h => h) (Or.inl ⟨by rfl, ?_⟩) hHeld ?_
        rotate_left 1
        · (intro w' hSw; (try dsimp only at hSw); first | (go_simp; done) | (go_simp; with_reducible rfl))
        change wpAnyH _ _ _ _ _ _ _ (Act.put _ (some 49) _) _
        simp only [Act.put, List.setIfInBounds_toArray, List.set_cons_zero, List.set_cons_succ]
        refine wpAnyH_take (i := 17) (v := ?_) rfl (by kernel_rfl) (by kernel_rfl) (by kernel_rfl) (fun _ _ _ h => h) (Or.inl ⟨by rfl, ?_⟩) hHeld ?_
        rotate_left 1
        · (intro w' hSw; (try dsimp only at hSw); first | (go_simp; done) | (go_simp; with_reducible rfl))
        change wpAnyH _ _ _ _ _ _ _ (Act.put _ (some 50) _) _
        simp only [Act.put, List.setIfInBounds_toArray, List.set_cons_zero, List.set_cons_succ]
        refine wpAnyH_take (i := 18) (v := ?_) rfl (by kernel_rfl) (by kernel_rfl) (by kernel_rfl) (fun _ _ _ h => h) (Or.inl ⟨by rfl, ?_⟩) hHeld ?_
        rotate_left 1
        · (intro w' hSw; (try dsimp only at hSw); first | (go_simp; done) | (go_simp; with_reducible rfl))
        change wpAnyH _ _ _ _ _ _ _ (Act.put _ (some 51) _) _
        simp only [Act.put, List.setIfInBounds_toArray, List.set_cons_zero, List.set_cons_succ]
        refine wpAnyH_take (i := 19) (v := ?_) rfl (by kernel_rfl) (by kernel_rfl) (by kernel_rfl) (fun _ _ _ h => h) (Or.inl ⟨by rfl, ?_⟩) hHeld ?_
        rotate_left 1
        · (intro w' hSw; (try dsimp only at hSw); first | (go_simp; done) | (go_simp; with_reducible rfl))
        change wpAnyH _ _ _ _ _ _ _ (Act.put _ (some 52) _) _
        simp only [Act.put, List.setIfInBounds_toArray, List.set_cons_zero, List.set_cons_succ]
        refine wpAnyH_take (i := 20) (v := ?_) rfl (by kernel_rfl) (by kernel_rfl) (by kernel_rfl) (fun _ _ _ h => h) (Or.inl ⟨by rfl, ?_⟩) hHeld ?_
        rotate_left 1
        · (intro w' hSw; (try dsimp only at hSw); first | (go_simp; done) | (go_simp; with_reducible rfl))
        change wpAnyH _ _ _ _ _ _ _ (Act.put _ (some 53) _) _
        simp only [Act.put, List.setIfInBounds_toArray, List.set_cons_zero, List.set_cons_succ]
        refine wpAnyH_take (i := 21) (v := ?_) rfl (by kernel_rfl) (by kernel_rfl) (by kernel_rfl) (fun _ _ _ h => h) (Or.inl ⟨by rfl, ?_⟩) hHeld ?_
        rotate_left 1
        · (intro w' hSw; (try dsimp only at hSw); first | (go_simp; done) | (go_simp; with_reducible rfl))
        change wpAnyH _ _ _ _ _ _ _ (Act.put _ (some 54) _) _
        simp only [Act.put, List.setIfInBounds_toArray, List.set_cons_zero, List.set_cons_succ]
        refine wpAnyH_take (i := 22) (v := ?_) rfl (by kernel_rfl) (by kernel_rfl) (by kernel_rfl) (fun _ _ _ h => h) (Or.inl ⟨by rfl, ?_⟩) hHeld ?_
        rotate_left 1
        · (intro w' hSw; (try dsimp only at hSw); first | (go_simp; done) | (go_simp; with_reducible rfl))
        change wpAnyH _ _ _ _ _ _ _ (Act.put _ (some 55) _) _
        simp only [Act.put, List.setIfInBounds_toArray, List.set_cons_zero, List.set_cons_succ]
        refine wpAnyH_take (i := 23) (v := ?_) rfl (by kernel_rfl) (by kernel_rfl) (by kernel_rfl) (fun _ _ _ h => h) (Or.inl ⟨by rfl, ?_⟩) hHeld ?_
        rotate_left 1
        · (intro w' hSw; (try dsimp only at hSw); first | (go_simp; done) | (go_simp; with_reducible rfl))
        change wpAnyH _ _ _ _ _ _ _ (Act.put _ (some 56) _) _
        simp only [Act.put, List.setIfInBounds_toArray, List.set_cons_zero, List.set_cons_succ]
        refine wpAnyH_take (i := 24) (v := ?_) rfl (by kernel_rfl) (by kernel_rfl) (by kernel_rfl) (fun _ _ _ h => h) (Or.inl ⟨by rfl, ?_⟩) hHeld ?_
        rotate_left 1
        · (intro w' hSw; (try dsimp only at hSw); first | (go_simp; done) | (go_simp; with_reducible rfl))
        change wpAnyH _ _ _ _ _ _ _ (Act.put _ (some 57) _) _
        simp only [Act.put, List.setIfInBounds_toArray, List.set_cons_zero, List.set_cons_succ]
        refine wpAnyH_take (i := 25) (v := ?_) rfl (by kernel_rfl) (by kernel_rfl) (by kernel_rfl) (fun _ _ _ h => h) (Or.inl ⟨by rfl, ?_⟩) hHeld ?_
        rotate_left 1
        · (intro w' hSw; (try dsimp only at hSw); first | (go_simp; done) | (go_simp; with_reducible rfl))
        change wpAnyH _ _ _ _ _ _ _ (Act.put _ (some 58) _) _
        simp only [Act.put, List.setIfInBounds_toArray, List.set_cons_zero, List.set_cons_succ]
        refine wpAnyH_take (i := 26) (v := ?_) rfl (by kernel_rfl) (by kernel_rfl) (by kernel_rfl) (fun _ _ _ h => h) (Or.inl ⟨by rfl, ?_⟩) hHeld ?_
        rotate_left 1
        · (intro w' hSw; (try dsimp only at hSw); first | (go_simp; done) | (go_simp; with_reducible rfl))
        change wpAnyH _ _ _ _ _ _ _ (Act.put _ (some 59) _) _
        simp only [Act.put, List.setIfInBounds_toArray, List.set_cons_zero, List.set_cons_succ]
        refine wpAnyH_take (i := 27) (v := ?_) rfl (by kernel_rfl) (by kernel_rfl) (by kernel_rfl) (fun _ _ _ h => h) (Or.inl ⟨by rfl, ?_⟩) hHeld ?_
        rotate_left 1
        · (intro w' hSw; (try dsimp only at hSw); first | (go_simp; done) | (go_simp; with_reducible rfl))
        change wpAnyH _ _ _ _ _ _ _ (Act.put _ (some 60) _) _
        simp only [Act.put, List.setIfInBounds_toArray, List.set_cons_zero, List.set_cons_succ]
        refine wpAnyH_take (i := 28) (v := ?_) rfl (by kernel_rfl) (by kernel_rfl) (by kernel_rfl) (fun _ _ _ h => h) (Or.inl ⟨by rfl, ?_⟩) hHeld ?_
        rotate_left 1
        · (intro w' hSw; (try dsimp only at hSw); first | (go_simp; done) | (go_simp; with_reducible rfl))
        change wpAnyH _ _ _ _ _ _ _ (Act.put _ (some 61) _) _
        simp only [Act.put, List.setIfInBounds_toArray, List.set_cons_zero, List.set_cons_succ]
        refine wpAnyH_take (i := 29) (v := ?_) rfl (by kernel_rfl) (by kernel_rfl) (by kernel_rfl) (fun _ _ _ h => h) (Or.inl ⟨by rfl, ?_⟩) hHeld ?_
        rotate_left 1
        · (intro w' hSw; (try dsimp only at hSw); first | (go_simp; done) | (go_simp; with_reducible rfl))
        change wpAnyH _ _ _ _ _ _ _ (Act.put _ (some 62) _) _
        simp only [Act.put, List.setIfInBounds_toArray, List.set_cons_zero, List.set_cons_succ]
        refine wpAnyH_take (i := 30) (v := ?_) rfl (by kernel_rfl) (by kernel_rfl) (by kernel_rfl) (fun _ _ _ h => h) (Or.inl ⟨by rfl, ?_⟩) hHeld ?_
        rotate_left 1
        · (intro w' hSw; (try dsimp only at hSw); first | (go_simp; done) | (go_simp; with_reducible rfl))
        change wpAnyH _ _ _ _ _ _ _ (Act.put _ (some 63) _) _
        simp only [Act.put, List.setIfInBounds_toArray, List.set_cons_zero, List.set_cons_succ]
        refine wpAnyH_done (by kernel_rfl) ?_ _
        have HB9 := Lib.hid (HB.out.trans (hHeld.2.2.2.mono HB.out.size))
        have HRO9 := Lib.hid (HRO.out.below hHeld.2.2.2)
        clear hHeld
        go_wp2_with fail
        go_roundg (k + 1 - (j + 1))
        case measure => omega
        case rel => exact ⟨j + 1, by simp, by omega, rfl, HB9, HRO9⟩
    · obtain rfl : j = k + 1 := by omega
      go_wp2_with fail
      go_ret
      exact ⟨rfl, HB4.out.trans (HB.out.mono HB4.out.size)⟩
set_option maxRecDepth 100000 in
set_option maxHeartbeats 4000000 in
theorem within_wrong (st : Bool) (o lo : Option Addr) (n0 n k0 k cap lcap : Nat) (w : World)
    (hSH : ∀ W, Below w.heap.size w W → Calls Tryd.prog 8 #[] W fun e w' => e = .returned (.bool true) ∧ Below W.heap.size W w')
    (hCUT : ∀ W, Calls Tryd.prog 9 #[patV st o n0 cap] W fun e w' => e = .returned (patV st o n cap) ∧ Below W.heap.size W w')
    (hFEW : ∀ W, Calls Tryd.prog 18 #[.slice lo k0 lcap] W fun e w' => e = .returned (.slice lo k lcap) ∧ W = w')
    (hRUN : ∀ W, Below w.heap.size w W → Calls Tryd.prog 19 #[patV st o n cap, .slice lo k lcap] W fun e w' => e = .returned (.tuple #[.slice none 0 0, .int .i64 80]) ∧ Below W.heap.size W w')
    (hMOST : ∀ W, Below w.heap.size w W → Calls Tryd.prog 16 #[patV st o n cap] W fun e w' => e = .returned (.int .i64 0) ∧ Below W.heap.size W w') :
    Calls Tryd.prog 7 #[patV st o n0 cap, .slice lo k0 lcap] w fun e w' => e = .returned (.bool true) ∧ Below w.heap.size w w' := by
  have HCUT := Lib.hid hCUT
  have HFEW := Lib.hid hFEW
  have HRUN := Lib.hid hRUN
  have HMOST := Lib.hid hMOST
  obtain ⟨w1, hw1⟩ : ∃ w1, w.alloc (patO st o n0 cap) = w1 := ⟨_, rfl⟩
  have b1 : Below w.heap.size w w1 := by rw [← hw1]; exact (Below.refl _ _).alloc (Nat.le_refl _) _
  have r1 : w1.heap[w.heap.size]? = some (patO st o n0 cap) := by rw [← hw1]; exact heap_alloc_new _ _
  have HSH := Lib.hid (hSH w1 b1)
  have HW1 := Lib.hid hw1
  have HB1 := Lib.hid b1
  have HR1 := Lib.hid r1
  have hlt1 : w.heap.size < w1.heap.size := (Array.getElem?_eq_some_iff.1 r1).1
  clear hw1 b1 r1 hSH hCUT hFEW hRUN hMOST
  go_enter Tryd.func7, Tryd.ntmps7
  go_wp2_with fail
  rw [HW1.out]
  refine HSH.out.mono ?_
  rintro e W2 ⟨rfl, b2⟩
  obtain ⟨p0, p1⟩ := pat_cellsH (row_below HR1.out b2)
  have HR2 := Lib.hid (row_below HR1.out b2)
  have HB2 := Lib.hid (HB1.out.trans (b2.mono HB1.out.size))
  clear b2
  go_wp2_with fail
  refine (HCUT.out _).mono ?_
  rintro e W3 ⟨rfl, b3⟩
  have hr3 := row_below HR2.out b3
  obtain ⟨q0, q1⟩ := pat_cellsH hr3
  have f0 := frozen_of_row W3 w.heap.size 0 _ _ hr3
  have f1 := frozen_of_row W3 w.heap.size 1 _ _ hr3
  obtain ⟨r4, m4⟩ := two_setH (.bool st) (.slice o n cap) hr3
  obtain ⟨w4, hw4⟩ : ∃ w4, (W3.setCell ⟨w.heap.size, 0, none⟩ (.bool st)).setCell ⟨w.heap.size, 1, none⟩ (.slice o n cap) = w4 := ⟨_, rfl⟩
  rw [hw4] at r4 m4
  have HB4 := Lib.hid (Moves.below (HB2.out.trans (b3.mono HB2.out.size)) (by have := HB2.out.size; have := b3.size; omega) m4 (fun k hk => by omega))
  have HR4 := Lib.hid r4
  have HW4 := Lib.hid hw4
  obtain ⟨s0, s1⟩ := pat_cellsH r4
  have KEEP : Hid (∀ A B : World, Below w4.heap.size w4 A → Below A.heap.size A B → B.cell? ⟨w.heap.size, 0, none⟩ = some (.bool st) ∧ B.cell? ⟨w.heap.size, 1, none⟩ = some (.slice o n cap) ∧ Below w4.heap.size w4 B) := Lib.hid fun A B h b => by
    have bb := h.trans (b.mono h.size)
    exact ⟨(pat_cellsH (row_below HR4.out bb)).1, (pat_cellsH (row_below HR4.out bb)).2, bb⟩
  have K1 : Hid (∀ W, (W.cell? ⟨w.heap.size, 0, none⟩ = some (.bool st) ∧ W.cell? ⟨w.heap.size, 1, none⟩ = some (.slice o n cap) ∧ Below w4.heap.size w4 W) → Calls Tryd.prog 18 #[.slice lo k0 lcap] W fun e w' => e = .returned (.slice lo k lcap) ∧ (w'.cell? ⟨w.heap.size, 0, none⟩ = some (.bool st) ∧ w'.cell? ⟨w.heap.size, 1, none⟩ = some (.slice o n cap) ∧ Below w4.heap.size w4 w')) := Lib.hid fun W hs => (HFEW.out W).mono (by
    rintro e w' ⟨rfl, rfl⟩
    exact ⟨rfl, hs⟩)
  have K2 : Hid (∀ W, (W.cell? ⟨w.heap.size, 0, none⟩ = some (.bool st) ∧ W.cell? ⟨w.heap.size, 1, none⟩ = some (.slice o n cap) ∧ Below w4.heap.size w4 W) → Calls Tryd.prog 19 #[patV st o n cap, .slice lo k lcap] W fun e w' => e = .returned (.tuple #[.slice none 0 0, .int .i64 80]) ∧ (w'.cell? ⟨w.heap.size, 0, none⟩ = some (.bool st) ∧ w'.cell? ⟨w.heap.size, 1, none⟩ = some (.slice o n cap) ∧ Below w4.heap.size w4 w')) := Lib.hid fun W hs => (HRUN.out W (HB4.out.trans (hs.2.2.mono HB4.out.size))).mono (by
    rintro e w' ⟨rfl, b⟩
    exact ⟨rfl, KEEP.out W w' hs.2.2 b⟩)
  have HD : Below w4.heap.size w4 w4.drew := (Below.refl _ _).drew
  clear p0 p1 b3 m4 hw4 hr3 r4
  go_wp2_with fail
  rw [HW4.out]
  clear q0 q1 f0 f1
  go_region_held3 (fun W => W.cell? ⟨w.heap.size, 0, none⟩ = some (.bool st) ∧ W.cell? ⟨w.heap.size, 1, none⟩ = some (.slice o n cap) ∧ Below w4.heap.size w4 W) (first | assumption | exact HD | go_keep) (first | (go_at_call 18; refine (K1.out _ (by first | assumption | exact ⟨s0, s1, HD⟩ | exact hg)).mono ?_; rintro e w' ⟨rfl, hg⟩) | (go_at_call 19; refine (K2.out _ (by first | assumption | exact hg)).mono ?_; rintro e w' ⟨rfl, hg⟩))
  obtain ⟨t0, t1, b5⟩ := hg
  have HB5 := Lib.hid (HB4.out.trans (b5.mono HB4.out.size))
  have HC5 := Lib.hid (HMOST.out w' HB5.out)
  clear b5
  go_wp2_with fail
  refine HC5.out.mono ?_
  rintro e w6 ⟨rfl, b6⟩
  have HB6 := Lib.hid (HB5.out.trans (b6.mono HB5.out.size))
  clear b6
  go_wp2_with fail
  go_ret
  exact ⟨rfl, HB6.out⟩
theorem nfaWithin_anyL (st : Bool) (xs : List ItemP) (o : Option Addr) (cap : Nat) (l : List Int) (lo : Option Addr) (lcap : Nat) (L : xs.length ≤ cap) (hlc : l.length ≤ lcap) (w : World) (aP aS : Addr) (hQ : GlobH w aP aS) (A : ItsInQ w o xs) (hL : NumsInQ w lo l ∧ (lo = none → lcap = 0) ∧ ∀ p, lo = some p → 0 < lcap → p.spot = none) :
    Calls Tryd.prog 7 #[patV st o xs.length cap, .slice lo l.length lcap] w fun e w' => e = .returned (.bool true) ∧ Below w.heap.size w w' := by
  have hA := A.1.take 12
  have h12 : (xs.take 12).length ≤ 12 := by rw [List.length_take]; omega
  have h40 : (l.take 40).length ≤ 40 := by rw [List.length_take]; omega
  have hN : NumsAt w lo (l.take 40) := fun hn => by
    obtain ⟨g, off, ho, hc⟩ := hL.1.1 (by rw [List.length_take] at hn; omega)
    refine ⟨g, off, ho, fun j x hx => hc j x ?_⟩
    rw [List.getElem?_take] at hx
    split at hx
    · exact hx
    · cases hx
  have hSH := fun W (hb : Below w.heap.size w W) => shown_any W aP aS (hQ.below hb)
  have hCUT := fun W => cutH_any st o xs cap L W
  have hFEW := fun W => fewH_any lo l lcap hlc W
  cases hr : rightB (xs.take 12) 32 with
  | true =>
    have hrl : (runsS (xs.take 12) st (l.take 40)).length = (l.take 40).length + 1 := by unfold runsS; simp
    refine within_walk st o lo xs.length _ l.length _ cap lcap (mostS (xs.take 12)) (runsS (xs.take 12) st (l.take 40)) w hrl h40 (runs_within (rightB_how hr) st _) hSH hCUT hFEW ?_ ?_
    · intro W hb
      refine (Run_right st o lo (xs.take 12) (l.take 40) cap lcap hr (by omega) W aP aS (hQ.below hb) (hA.below hb) (hN.below hb)).mono ?_
      rintro e w' ⟨o', c', rfl, hown, b⟩
      exact ⟨o', c', rfl, nums_ownH (by rw [hrl]; exact hown), b⟩
    · intro W hb
      exact Most_right st o (xs.take 12) cap hr W (hA.below hb)
  | false =>
    refine within_wrong st o lo xs.length _ l.length _ cap lcap w hSH hCUT hFEW ?_ ?_
    · intro W hb
      exact Run_wrong st o lo (xs.take 12) (l.take 40) cap lcap (by omega) hr W aP aS (hQ.below hb) (hA.below hb)
    · intro W hb
      exact Most_wrong st o (xs.take 12) cap (by omega) hr W aP aS (hQ.below hb) (hA.below hb)
end Go.Proofs.YtjacebnlikhjnaaDoor
