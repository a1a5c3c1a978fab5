/- NfaUnions: the law's walk, by what is known of the two sets. Printed by genunions.py. NfaUnions: the law, whatever comes in. -/
import Derived.Test.YtgjjmbiihbepeaaDoorBunA16
import Derived.Deep.RegionHeld3
namespace Go.Proofs.YtgjjmbiihbepeaaDoor
open Go.RowKit Go.Shelf Go.Maps
attribute [local go_sem] Oper.semAt_some

set_option maxRecDepth 100000 in
set_option maxHeartbeats 4000000 in
theorem unions_both (st : Bool) (o : Option Addr) (xs0 : List ItemP) (cap : Nat) (a b c : Int) (hcap : xs0.length ≤ cap) (w : World) (aP aS : Addr) (hQ : GlobH w aP aS) (sa sb sz : Int) (hsz : orZ sa sb = sz) (da db : Bool)
    (hS1 : ∀ W, Below w.heap.size w W → Calls Tryd.prog 14 #[patV st o (xs0.take 12).length cap, .int .i64 a, .int .i64 c] W fun e w' => e = .returned (.tuple #[.int .i64 sa, .int .i64 0]) ∧ Below W.heap.size W w')
    (hS2 : ∀ W, Below w.heap.size w W → Calls Tryd.prog 14 #[patV st o (xs0.take 12).length cap, .int .i64 b, .int .i64 c] W fun e w' => e = .returned (.tuple #[.int .i64 sb, .int .i64 0]) ∧ Below W.heap.size W w')
    (hS3 : ∀ W, Below w.heap.size w W → Calls Tryd.prog 14 #[patV st o (xs0.take 12).length cap, .int .i64 (orZ a b), .int .i64 c] W fun e w' => e = .returned (.tuple #[.int .i64 sz, .int .i64 0]) ∧ Below W.heap.size W w')
    (hD1 : ∀ W, Below w.heap.size w W → Calls Tryd.prog 16 #[patV st o (xs0.take 12).length cap, .int .i64 a] W fun e w' => e = .returned (.bool da) ∧ Below W.heap.size W w')
    (hD2 : ∀ W, Below w.heap.size w W → Calls Tryd.prog 16 #[patV st o (xs0.take 12).length cap, .int .i64 b] W fun e w' => e = .returned (.bool db) ∧ Below W.heap.size W w')
    (hD3 : ∀ W, Below w.heap.size w W → Calls Tryd.prog 16 #[patV st o (xs0.take 12).length cap, .int .i64 (orZ a b)] W fun e w' => e = .returned (.bool (da || db)) ∧ Below W.heap.size W w') :
    Calls Tryd.prog 6 #[patV st o xs0.length cap, .int .i64 a, .int .i64 b, .int .i64 c] w fun e w' => e = .returned (.bool true) ∧ Below w.heap.size w w' := by
  obtain ⟨z, hz⟩ : ∃ z, orZ a b = z := ⟨_, rfl⟩
  rw [hz] at hS3 hD3
  have hz2 : bits BinOp.or IntKind.i64 a b = z := hz
  have hsz2 : bits BinOp.or IntKind.i64 sa sb = sz := hsz
  obtain ⟨n0, hn0⟩ : ∃ n, xs0.length = n := ⟨_, rfl⟩
  have HCUT := Lib.hid (fun W => cutH_any st o xs0 cap hcap W)
  obtain ⟨n, hn⟩ : ∃ n, (xs0.take 12).length = n := ⟨_, rfl⟩
  rw [hn] at hS1 hS2 hS3 HCUT hD1 hD2 hD3
  rw [hn0] at HCUT ⊢
  obtain ⟨w1, hw1⟩ : ∃ w1, w.alloc (patO st o n0 cap) = w1 := ⟨_, rfl⟩
  have b1 : Below w.heap.size w w1 := by rw [← hw1]; exact (Below.refl _ _).alloc (Nat.le_refl _) _
  have r1 : w1.heap[w.heap.size]? = some (patO st o n0 cap) := by rw [← hw1]; exact heap_alloc_new _ _
  have HSH := Lib.hid (shown_any w1 aP aS (hQ.below b1))
  have HS1 := Lib.hid hS1
  have HS2 := Lib.hid hS2
  have HS3 := Lib.hid hS3
  have HD1 := Lib.hid hD1
  have HD2 := Lib.hid hD2
  have HD3 := Lib.hid hD3
  have HW1 := Lib.hid hw1
  have HB1 := Lib.hid b1
  have HR1 := Lib.hid r1
  have hlt1 : w.heap.size < w1.heap.size := (Array.getElem?_eq_some_iff.1 r1).1
  clear hw1 b1 r1 hcap hQ hS1 hS2 hS3 hn hn0 hz hD1 hD2 hD3 hsz
  go_enter Tryd.func6, Tryd.ntmps6
  go_wp2_with fail
  rw [HW1.out]
  refine HSH.out.mono ?_
  rintro e W2 ⟨rfl, b2⟩
  obtain ⟨p0, p1⟩ := pat_cellsH (row_below HR1.out b2)
  have HR2 := Lib.hid (row_below HR1.out b2)
  have HB2 := Lib.hid (HB1.out.trans (b2.mono HB1.out.size))
  clear b2
  go_wp2_with fail
  refine (HCUT.out _).mono ?_
  rintro e W3 ⟨rfl, b3⟩
  have hr3 := row_below HR2.out b3
  obtain ⟨q0, q1⟩ := pat_cellsH hr3
  have f0 := frozen_of_row W3 w.heap.size 0 _ _ hr3
  have f1 := frozen_of_row W3 w.heap.size 1 _ _ hr3
  obtain ⟨r4, m4⟩ := two_setH (.bool st) (.slice o n cap) hr3
  obtain ⟨w4, hw4⟩ : ∃ w4, (W3.setCell ⟨w.heap.size, 0, none⟩ (.bool st)).setCell ⟨w.heap.size, 1, none⟩ (.slice o n cap) = w4 := ⟨_, rfl⟩
  rw [hw4] at r4 m4
  have HB4 := Lib.hid (Moves.below (HB2.out.trans (b3.mono HB2.out.size)) (by have := HB2.out.size; have := b3.size; omega) m4 (fun k hk => by omega))
  have HR4 := Lib.hid r4
  have HW4 := Lib.hid hw4
  have HC4 := Lib.hid (HS1.out w4 HB4.out)
  clear p0 p1 b3 r4 m4 hw4 hr3
  go_wp2_with fail
  rw [HW4.out]
  refine HC4.out.mono ?_
  rintro e W5 ⟨rfl, b5⟩
  obtain ⟨p0, p1⟩ := pat_cellsH (row_below HR4.out b5)
  have HR5 := Lib.hid (row_below HR4.out b5)
  have HB5 := Lib.hid (HB4.out.trans (b5.mono HB4.out.size))
  have HC5 := Lib.hid (HS2.out W5 HB5.out)
  clear b5 q0 q1 f0 f1
  go_wp2_with fail
  refine HC5.out.mono ?_
  rintro e W6 ⟨rfl, b6⟩
  obtain ⟨q0, q1⟩ := pat_cellsH (row_below HR5.out b6)
  have HR6 := Lib.hid (row_below HR5.out b6)
  have HB6 := Lib.hid (HB5.out.trans (b6.mono HB5.out.size))
  have HC6 := Lib.hid (HS3.out W6 HB6.out)
  clear b6 p0 p1
  go_wp2_with fail
  refine HC6.out.mono ?_
  rintro e W7 ⟨rfl, b7⟩
  obtain ⟨p0, p1⟩ := pat_cellsH (row_below HR6.out b7)
  have HR7 := Lib.hid (row_below HR6.out b7)
  have HB7 := Lib.hid (HB6.out.trans (b7.mono HB6.out.size))
  clear b7 q0 q1
  go_wp2_with fail
  have KEEP : ∀ (A B : World), A.heap[w.heap.size]? = some (patO st o n cap) → Below A.heap.size A B → B.cell? ⟨w.heap.size, 0, none⟩ = some (.bool st) ∧ B.cell? ⟨w.heap.size, 1, none⟩ = some (.slice o n cap) := fun A B h b => pat_cellsH (row_below h b)
  have K1 : Hid (∀ W, (W.cell? ⟨w.heap.size, 0, none⟩ = some (.bool st) ∧ W.cell? ⟨w.heap.size, 1, none⟩ = some (.slice o n cap) ∧ Below W7.heap.size W7 W) → Calls Tryd.prog 16 #[patV st o n cap, .int .i64 a] W fun e w' => e = .returned (.bool da) ∧ (w'.cell? ⟨w.heap.size, 0, none⟩ = some (.bool st) ∧ w'.cell? ⟨w.heap.size, 1, none⟩ = some (.slice o n cap) ∧ Below W7.heap.size W7 w')) := Lib.hid fun W hs => (HD1.out W (HB7.out.trans (hs.2.2.mono HB7.out.size))).mono (by
    rintro e w' ⟨rfl, b⟩
    have bb := hs.2.2.trans (b.mono hs.2.2.size)
    exact ⟨rfl, (KEEP W7 w' HR7.out bb).1, (KEEP W7 w' HR7.out bb).2, bb⟩)
  have K2 : Hid (∀ W, (W.cell? ⟨w.heap.size, 0, none⟩ = some (.bool st) ∧ W.cell? ⟨w.heap.size, 1, none⟩ = some (.slice o n cap) ∧ Below W7.heap.size W7 W) → Calls Tryd.prog 16 #[patV st o n cap, .int .i64 b] W fun e w' => e = .returned (.bool db) ∧ (w'.cell? ⟨w.heap.size, 0, none⟩ = some (.bool st) ∧ w'.cell? ⟨w.heap.size, 1, none⟩ = some (.slice o n cap) ∧ Below W7.heap.size W7 w')) := Lib.hid fun W hs => (HD2.out W (HB7.out.trans (hs.2.2.mono HB7.out.size))).mono (by
    rintro e w' ⟨rfl, b⟩
    have bb := hs.2.2.trans (b.mono hs.2.2.size)
    exact ⟨rfl, (KEEP W7 w' HR7.out bb).1, (KEEP W7 w' HR7.out bb).2, bb⟩)
  have K3 : Hid (∀ W, (W.cell? ⟨w.heap.size, 0, none⟩ = some (.bool st) ∧ W.cell? ⟨w.heap.size, 1, none⟩ = some (.slice o n cap) ∧ Below W7.heap.size W7 W) → Calls Tryd.prog 16 #[patV st o n cap, .int .i64 z] W fun e w' => e = .returned (.bool (da || db)) ∧ (w'.cell? ⟨w.heap.size, 0, none⟩ = some (.bool st) ∧ w'.cell? ⟨w.heap.size, 1, none⟩ = some (.slice o n cap) ∧ Below W7.heap.size W7 w')) := Lib.hid fun W hs => (HD3.out W (HB7.out.trans (hs.2.2.mono HB7.out.size))).mono (by
    rintro e w' ⟨rfl, b⟩
    have bb := hs.2.2.trans (b.mono hs.2.2.size)
    exact ⟨rfl, (KEEP W7 w' HR7.out bb).1, (KEEP W7 w' HR7.out bb).2, bb⟩)
  have HFIN : Hid (∀ W, (W.cell? ⟨w.heap.size, 0, none⟩ = some (.bool st) ∧ W.cell? ⟨w.heap.size, 1, none⟩ = some (.slice o n cap) ∧ Below W7.heap.size W7 W) → Below w.heap.size w W) := Lib.hid fun W hs => HB7.out.trans (hs.2.2.mono HB7.out.size)
  have HD : Below W7.heap.size W7 W7.drew := (Below.refl _ _).drew
  clear KEEP
  cases da with
  | true =>
    rw [Bool.true_or] at K3
    clear K2
    refine wp_region_held_drew (S := (fun W => (W.cell? ⟨w.heap.size, 0, none⟩ = some (.bool st) ∧ W.cell? ⟨w.heap.size, 1, none⟩ = some (.slice o n cap) ∧ Below W7.heap.size W7 W))) (by kernel_rfl) ⟨p0, p1, HD⟩ (fun hHeld => ?_)
    refine wpAnyH_take (i := 0) (v := ?_) rfl (by kernel_rfl) (by kernel_rfl) (by kernel_rfl) (fun _ _ _ h => h) (Or.inl ⟨by rfl, ?_⟩) hHeld ?_
    rotate_left 1
    · (intro w' hSw; (try dsimp only at hSw); first | (go_simp; done) | (go_simp; with_reducible rfl))
    change wpAnyH _ _ _ _ _ _ _ (Act.put _ (some 61) _) _
    simp only [Act.put, List.setIfInBounds_toArray, List.set_cons_zero, List.set_cons_succ]
    refine wpAnyH_take (i := 1) (v := ?_) rfl (by kernel_rfl) (by kernel_rfl) (by kernel_rfl) (fun _ _ _ h => h) (Or.inl ⟨by rfl, ?_⟩) hHeld ?_
    rotate_left 1
    · (intro w' hSw; (try dsimp only at hSw); first | (go_simp; done) | (go_simp; with_reducible rfl))
    change wpAnyH _ _ _ _ _ _ _ (Act.put _ (some 62) _) _
    simp only [Act.put, List.setIfInBounds_toArray, List.set_cons_zero, List.set_cons_succ]
    refine wpAnyH_take (i := 2) (v := ?_) rfl (by kernel_rfl) (by kernel_rfl) (by kernel_rfl) (fun _ _ _ h => h) (Or.inl ⟨by rfl, ?_⟩) hHeld ?_
    rotate_left 1
    · (intro w' hSw; (try dsimp only at hSw); first | (go_simp; done) | (go_simp; with_reducible rfl))
    change wpAnyH _ _ _ _ _ _ _ (Act.put _ (some 63) _) _
    simp only [Act.put, List.setIfInBounds_toArray, List.set_cons_zero, List.set_cons_succ]
    refine wpAnyH_take (i := 3) (v := ?_) rfl (by kernel_rfl) (by kernel_rfl) (by kernel_rfl) (fun _ _ _ h => h) (Or.inl ⟨by rfl, ?_⟩) hHeld ?_
    rotate_left 1
    · (intro w' hSw; (try dsimp only at hSw); first | (go_simp; done) | (go_simp; with_reducible rfl))
    change wpAnyH _ _ _ _ _ _ _ (Act.put _ (some 64) _) _
    simp only [Act.put, List.setIfInBounds_toArray, List.set_cons_zero, List.set_cons_succ]
    refine wpAnyH_take (i := 4) (v := ?_) rfl (by kernel_rfl) (by kernel_rfl) (by kernel_rfl) (fun _ _ _ h => h) (Or.inl ⟨by rfl, ?_⟩) hHeld ?_
    rotate_left 1
    · (intro w' hSw; (try dsimp only at hSw); first | (go_simp; done) | (go_simp; with_reducible rfl))
    change wpAnyH _ _ _ _ _ _ _ (Act.put _ (some 65) _) _
    simp only [Act.put, List.setIfInBounds_toArray, List.set_cons_zero, List.set_cons_succ]
    refine wpAnyH_take (i := 5) (v := ?_) rfl (by kernel_rfl) (by kernel_rfl) (by kernel_rfl) (fun _ _ _ h => h) (Or.inl ⟨by rfl, ?_⟩) hHeld ?_
    rotate_left 1
    · (intro w' hSw; (try dsimp only at hSw); first | (go_simp; done) | (go_simp; with_reducible rfl))
    change wpAnyH _ _ _ _ _ _ _ (Act.put _ (some 66) _) _
    simp only [Act.put, List.setIfInBounds_toArray, List.set_cons_zero, List.set_cons_succ]
    refine wpAnyH_take (i := 6) (v := ?_) rfl (by kernel_rfl) (by kernel_rfl) (by kernel_rfl) (fun _ _ _ h => h) (Or.inl ⟨by rfl, ?_⟩) hHeld ?_
    rotate_left 1
    · (intro w' hSw; (try dsimp only at hSw); first | (go_simp; done) | (go_simp; with_reducible rfl))
    change wpAnyH _ _ _ _ _ _ _ (Act.put _ (some 67) _) _
    simp only [Act.put, List.setIfInBounds_toArray, List.set_cons_zero, List.set_cons_succ]
    refine wpAnyH_take (i := 7) (v := ?_) rfl (by kernel_rfl) (by kernel_rfl) (by kernel_rfl) (fun _ _ _ h => h) (Or.inl ⟨by rfl, ?_⟩) hHeld ?_
    rotate_left 1
    · (intro w' hSw; (try dsimp only at hSw); first | (go_simp; done) | (go_simp; with_reducible rfl))
    change wpAnyH _ _ _ _ _ _ _ (Act.put _ (some 68) _) _
    simp only [Act.put, List.setIfInBounds_toArray, List.set_cons_zero, List.set_cons_succ]
    refine wpAnyH_take (i := 8) (v := ?_) rfl (by kernel_rfl) (by kernel_rfl) (by kernel_rfl) (fun _ _ _ h => h) (Or.inl ⟨by rfl, ?_⟩) hHeld ?_
    rotate_left 1
    · (intro w' hSw; (try dsimp only at hSw); first | (go_simp; done) | (go_simp; with_reducible rfl))
    change wpAnyH _ _ _ _ _ _ _ (Act.put _ (some 69) _) _
    simp only [Act.put, List.setIfInBounds_toArray, List.set_cons_zero, List.set_cons_succ]
    refine wpAnyH_take (i := 9) (v := ?_) rfl (by kernel_rfl) (by kernel_rfl) (by kernel_rfl) (fun _ _ _ h => h) (Or.inl ⟨by rfl, ?_⟩) hHeld ?_
    rotate_left 1
    · (intro w' hSw; (try dsimp only at hSw); first | (go_simp; done) | (go_simp; with_reducible rfl))
    change wpAnyH _ _ _ _ _ _ _ (Act.put _ (some 70) _) _
    simp only [Act.put, List.setIfInBounds_toArray, List.set_cons_zero, List.set_cons_succ]
    refine wpAnyH_take (i := 10) (v := ?_) rfl (by kernel_rfl) (by kernel_rfl) (by kernel_rfl) (fun _ _ _ h => h) (Or.inl ⟨by rfl, ?_⟩) hHeld ?_
    rotate_left 1
    · (intro w' hSw; (try dsimp only at hSw); first | (go_simp; done) | (go_simp; with_reducible rfl))
    change wpAnyH _ _ _ _ _ _ _ (Act.put _ (some 71) _) _
    simp only [Act.put, List.setIfInBounds_toArray, List.set_cons_zero, List.set_cons_succ]
    refine wpAnyH_take (i := 11) (v := ?_) rfl (by kernel_rfl) (by kernel_rfl) (by kernel_rfl) (fun _ _ _ h => h) (Or.inl ⟨by rfl, ?_⟩) hHeld ?_
    rotate_left 1
    · (intro w' hSw; (try dsimp only at hSw); first | (go_simp; done) | (go_simp; with_reducible rfl))
    change wpAnyH _ _ _ _ _ _ _ (Act.put _ (some 72) _) _
    simp only [Act.put, List.setIfInBounds_toArray, List.set_cons_zero, List.set_cons_succ]
    refine wpAnyH_take (i := 12) (v := ?_) rfl (by kernel_rfl) (by kernel_rfl) (by kernel_rfl) (fun _ _ _ h => h) (Or.inl ⟨by rfl, ?_⟩) hHeld ?_
    rotate_left 1
    · (intro w' hSw; (try dsimp only at hSw); first | (go_simp; done) | (go_simp; with_reducible rfl))
    change wpAnyH _ _ _ _ _ _ _ (Act.put _ (some 73) _) _
    simp only [Act.put, List.setIfInBounds_toArray, List.set_cons_zero, List.set_cons_succ]
    refine wpAnyH_take (i := 13) (v := ?_) rfl (by kernel_rfl) (by kernel_rfl) (by kernel_rfl) (fun _ _ _ h => h) (Or.inl ⟨by rfl, ?_⟩) hHeld ?_
    rotate_left 1
    · (intro w' hSw; (try dsimp only at hSw); first | (go_simp; done) | (go_simp; with_reducible rfl))
    change wpAnyH _ _ _ _ _ _ _ (Act.put _ (some 74) _) _
    simp only [Act.put, List.setIfInBounds_toArray, List.set_cons_zero, List.set_cons_succ]
    refine wpAnyH_take (i := 14) (v := ?_) rfl (by kernel_rfl) (by kernel_rfl) (by kernel_rfl) (fun _ _ _ h => h) (Or.inl ⟨by rfl, ?_⟩) hHeld ?_
    rotate_left 1
    · (intro w' hSw; (try dsimp only at hSw); first | (go_simp; done) | (go_simp; with_reducible rfl))
    change wpAnyH _ _ _ _ _ _ _ (Act.put _ (some 75) _) _
    simp only [Act.put, List.setIfInBounds_toArray, List.set_cons_zero, List.set_cons_succ]
    refine wpAnyH_take (i := 15) (v := ?_) rfl (by kernel_rfl) (by kernel_rfl) (by kernel_rfl) (fun _ _ _ h => h) (Or.inl ⟨by rfl, ?_⟩) hHeld ?_
    rotate_left 1
    · (intro w' hSw; (try dsimp only at hSw); first | (go_simp; done) | (go_simp; with_reducible rfl))
    change wpAnyH _ _ _ _ _ _ _ (Act.put _ (some 76) _) _
    simp only [Act.put, List.setIfInBounds_toArray, List.set_cons_zero, List.set_cons_succ]
    refine wpAnyH_take (i := 16) (v := ?_) rfl (by kernel_rfl) (by kernel_rfl) (by kernel_rfl) (fun _ _ _ h => h) (Or.inl ⟨by rfl, ?_⟩) hHeld ?_
    rotate_left 1
    · (intro w' hSw; (try dsimp only at hSw); first | (go_simp; done) | (go_simp; with_reducible rfl))
    change wpAnyH _ _ _ _ _ _ _ (Act.put _ (some 77) _) _
    simp only [Act.put, List.setIfInBounds_toArray, List.set_cons_zero, List.set_cons_succ]
    refine wpAnyH_take (i := 18) (v := ?_) rfl (by kernel_rfl) (by kernel_rfl) (by kernel_rfl) (fun _ _ _ h => h) (Or.inl ⟨by rfl, ?_⟩) hHeld ?_
    rotate_left 1
    · (intro w' hSw; (try dsimp only at hSw); first | (go_simp; done) | (go_simp; with_reducible rfl))
    change wpAnyH _ _ _ _ _ _ _ (Act.put _ (some 79) _) _
    simp only [Act.put, List.setIfInBounds_toArray, List.set_cons_zero, List.set_cons_succ]
    refine wpAnyH_take (i := 19) (v := ?_) rfl (by kernel_rfl) (by kernel_rfl) (by kernel_rfl) (fun _ _ _ h => h) (Or.inl ⟨by rfl, ?_⟩) hHeld ?_
    rotate_left 1
    · (intro w' hSw; (try dsimp only at hSw); first | (go_simp; done) | (go_simp; with_reducible rfl))
    change wpAnyH _ _ _ _ _ _ _ (Act.put _ (some 80) _) _
    simp only [Act.put, List.setIfInBounds_toArray, List.set_cons_zero, List.set_cons_succ]
    refine wpAnyH_ready (rs := [17]) (by kernel_rfl) (by simp) ?_
    refine AllReadyH.cons rfl (fun K hK => ?_) AllReadyH.nil
    go_simp
    refine (K3.out _ hHeld).mono ?_
    rintro e w' ⟨rfl, hg⟩
    go_wp2_with fail
    refine hK.out _ _ hg (fun hHeld => ?_)
    clear hK K
    try simp only [Act.put, List.setIfInBounds_toArray, List.set_cons_zero, List.set_cons_succ]
    refine wpAnyH_ready (rs := [20]) (by kernel_rfl) (by simp) ?_
    refine AllReadyH.cons rfl (fun K hK => ?_) AllReadyH.nil
    go_simp
    refine (K1.out _ hHeld).mono ?_
    rintro e w' ⟨rfl, hg⟩
    go_wp2_with fail
    refine hK.out _ _ hg (fun hHeld => ?_)
    clear hK K
    try simp only [Act.put, List.setIfInBounds_toArray, List.set_cons_zero, List.set_cons_succ]
    refine wpAnyH_take (i := 21) (v := ?_) rfl (by kernel_rfl) (by kernel_rfl) (by kernel_rfl) (fun _ _ _ h => h) (Or.inl ⟨by rfl, ?_⟩) hHeld ?_
    rotate_left 1
    · (intro w' hSw; (try dsimp only at hSw); first | (go_simp; done) | (go_simp; with_reducible rfl))
    change wpAnyH _ _ _ _ _ _ _ (Act.put _ (some 82) _) _
    simp only [Act.put, List.setIfInBounds_toArray, List.set_cons_zero, List.set_cons_succ]
    refine wpAnyH_take (i := 22) (v := undef) rfl (by kernel_rfl) (by kernel_rfl) (by kernel_rfl) (fun _ _ _ h => h) (Or.inr ⟨by rfl, rfl⟩) hHeld ?_
    change wpAnyH _ _ _ _ _ _ _ (Act.put _ (some 83) _) _
    simp only [Act.put, List.setIfInBounds_toArray, List.set_cons_zero, List.set_cons_succ]
    refine wpAnyH_take (i := 23) (v := undef) rfl (by kernel_rfl) (by kernel_rfl) (by kernel_rfl) (fun _ _ _ h => h) (Or.inr ⟨by rfl, rfl⟩) hHeld ?_
    change wpAnyH _ _ _ _ _ _ _ (Act.put _ (some 84) _) _
    simp only [Act.put, List.setIfInBounds_toArray, List.set_cons_zero, List.set_cons_succ]
    refine wpAnyH_take (i := 24) (v := undef) rfl (by kernel_rfl) (by kernel_rfl) (by kernel_rfl) (fun _ _ _ h => h) (Or.inr ⟨by rfl, rfl⟩) hHeld ?_
    change wpAnyH _ _ _ _ _ _ _ (Act.put _ (some 85) _) _
    simp only [Act.put, List.setIfInBounds_toArray, List.set_cons_zero, List.set_cons_succ]
    refine wpAnyH_take (i := 25) (v := ?_) rfl (by kernel_rfl) (by kernel_rfl) (by kernel_rfl) (fun _ _ _ h => h) (Or.inl ⟨by rfl, ?_⟩) hHeld ?_
    rotate_left 1
    · (intro w' hSw; (try dsimp only at hSw); first | (go_simp; done) | (go_simp; with_reducible rfl))
    change wpAnyH _ _ _ _ _ _ _ (Act.put _ (some 86) _) _
    simp only [Act.put, List.setIfInBounds_toArray, List.set_cons_zero, List.set_cons_succ]
    refine wpAnyH_take (i := 26) (v := ?_) rfl (by kernel_rfl) (by kernel_rfl) (by kernel_rfl) (fun _ _ _ h => h) (Or.inl ⟨by rfl, ?_⟩) hHeld ?_
    rotate_left 1
    · (intro w' hSw; (try dsimp only at hSw); first | (go_simp; done) | (go_simp; with_reducible rfl))
    change wpAnyH _ _ _ _ _ _ _ (Act.put _ (some 87) _) _
    simp only [Act.put, List.setIfInBounds_toArray, List.set_cons_zero, List.set_cons_succ]
    refine wpAnyH_take (i := 27) (v := ?_) rfl (by kernel_rfl) (by kernel_rfl) (by kernel_rfl) (fun _ _ _ h => h) (Or.inl ⟨by rfl, ?_⟩) hHeld ?_
    rotate_left 1
    · (intro w' hSw; (try dsimp only at hSw); first | (go_simp; done) | (go_simp; with_reducible rfl))
    change wpAnyH _ _ _ _ _ _ _ (Act.put _ (some 88) _) _
    simp only [Act.put, List.setIfInBounds_toArray, List.set_cons_zero, List.set_cons_succ]
    refine wpAnyH_take (i := 28) (v := ?_) rfl (by kernel_rfl) (by kernel_rfl) (by kernel_rfl) (fun _ _ _ h => h) (Or.inl ⟨by rfl, ?_⟩) hHeld ?_
    rotate_left 1
    · (intro w' hSw; (try dsimp only at hSw); first | (go_simp; done) | (go_simp; with_reducible rfl))
    change wpAnyH _ _ _ _ _ _ _ (Act.put _ (some 8) _) _
    simp only [Act.put, List.setIfInBounds_toArray, List.set_cons_zero, List.set_cons_succ]
    refine wpAnyH_done (by kernel_rfl) ?_ _
    go_wp2_with fail
    go_ret
    exact ⟨by simp, HFIN.out _ hHeld⟩
  | false =>
    rw [Bool.false_or] at K3
    refine wp_region_held_drew (S := (fun W => (W.cell? ⟨w.heap.size, 0, none⟩ = some (.bool st) ∧ W.cell? ⟨w.heap.size, 1, none⟩ = some (.slice o n cap) ∧ Below W7.heap.size W7 W))) (by kernel_rfl) ⟨p0, p1, HD⟩ (fun hHeld => ?_)
    refine wpAnyH_take (i := 0) (v := ?_) rfl (by kernel_rfl) (by kernel_rfl) (by kernel_rfl) (fun _ _ _ h => h) (Or.inl ⟨by rfl, ?_⟩) hHeld ?_
    rotate_left 1
    · (intro w' hSw; (try dsimp only at hSw); first | (go_simp; done) | (go_simp; with_reducible rfl))
    change wpAnyH _ _ _ _ _ _ _ (Act.put _ (some 61) _) _
    simp only [Act.put, List.setIfInBounds_toArray, List.set_cons_zero, List.set_cons_succ]
    refine wpAnyH_take (i := 1) (v := ?_) rfl (by kernel_rfl) (by kernel_rfl) (by kernel_rfl) (fun _ _ _ h => h) (Or.inl ⟨by rfl, ?_⟩) hHeld ?_
    rotate_left 1
    · (intro w' hSw; (try dsimp only at hSw); first | (go_simp; done) | (go_simp; with_reducible rfl))
    change wpAnyH _ _ _ _ _ _ _ (Act.put _ (some 62) _) _
    simp only [Act.put, List.setIfInBounds_toArray, List.set_cons_zero, List.set_cons_succ]
    refine wpAnyH_take (i := 2) (v := ?_) rfl (by kernel_rfl) (by kernel_rfl) (by kernel_rfl) (fun _ _ _ h => h) (Or.inl ⟨by rfl, ?_⟩) hHeld ?_
    rotate_left 1
    · (intro w' hSw; (try dsimp only at hSw); first | (go_simp; done) | (go_simp; with_reducible rfl))
    change wpAnyH _ _ _ _ _ _ _ (Act.put _ (some 63) _) _
    simp only [Act.put, List.setIfInBounds_toArray, List.set_cons_zero, List.set_cons_succ]
    refine wpAnyH_take (i := 3) (v := ?_) rfl (by kernel_rfl) (by kernel_rfl) (by kernel_rfl) (fun _ _ _ h => h) (Or.inl ⟨by rfl, ?_⟩) hHeld ?_
    rotate_left 1
    · (intro w' hSw; (try dsimp only at hSw); first | (go_simp; done) | (go_simp; with_reducible rfl))
    change wpAnyH _ _ _ _ _ _ _ (Act.put _ (some 64) _) _
    simp only [Act.put, List.setIfInBounds_toArray, List.set_cons_zero, List.set_cons_succ]
    refine wpAnyH_take (i := 4) (v := ?_) rfl (by kernel_rfl) (by kernel_rfl) (by kernel_rfl) (fun _ _ _ h => h) (Or.inl ⟨by rfl, ?_⟩) hHeld ?_
    rotate_left 1
    · (intro w' hSw; (try dsimp only at hSw); first | (go_simp; done) | (go_simp; with_reducible rfl))
    change wpAnyH _ _ _ _ _ _ _ (Act.put _ (some 65) _) _
    simp only [Act.put, List.setIfInBounds_toArray, List.set_cons_zero, List.set_cons_succ]
    refine wpAnyH_take (i := 5) (v := ?_) rfl (by kernel_rfl) (by kernel_rfl) (by kernel_rfl) (fun _ _ _ h => h) (Or.inl ⟨by rfl, ?_⟩) hHeld ?_
    rotate_left 1
    · (intro w' hSw; (try dsimp only at hSw); first | (go_simp; done) | (go_simp; with_reducible rfl))
    change wpAnyH _ _ _ _ _ _ _ (Act.put _ (some 66) _) _
    simp only [Act.put, List.setIfInBounds_toArray, List.set_cons_zero, List.set_cons_succ]
    refine wpAnyH_take (i := 6) (v := ?_) rfl (by kernel_rfl) (by kernel_rfl) (by kernel_rfl) (fun _ _ _ h => h) (Or.inl ⟨by rfl, ?_⟩) hHeld ?_
    rotate_left 1
    · (intro w' hSw; (try dsimp only at hSw); first | (go_simp; done) | (go_simp; with_reducible rfl))
    change wpAnyH _ _ _ _ _ _ _ (Act.put _ (some 67) _) _
    simp only [Act.put, List.setIfInBounds_toArray, List.set_cons_zero, List.set_cons_succ]
    refine wpAnyH_take (i := 7) (v := ?_) rfl (by kernel_rfl) (by kernel_rfl) (by kernel_rfl) (fun _ _ _ h => h) (Or.inl ⟨by rfl, ?_⟩) hHeld ?_
    rotate_left 1
    · (intro w' hSw; (try dsimp only at hSw); first | (go_simp; done) | (go_simp; with_reducible rfl))
    change wpAnyH _ _ _ _ _ _ _ (Act.put _ (some 68) _) _
    simp only [Act.put, List.setIfInBounds_toArray, List.set_cons_zero, List.set_cons_succ]
    refine wpAnyH_take (i := 8) (v := ?_) rfl (by kernel_rfl) (by kernel_rfl) (by kernel_rfl) (fun _ _ _ h => h) (Or.inl ⟨by rfl, ?_⟩) hHeld ?_
    rotate_left 1
    · (intro w' hSw; (try dsimp only at hSw); first | (go_simp; done) | (go_simp; with_reducible rfl))
    change wpAnyH _ _ _ _ _ _ _ (Act.put _ (some 69) _) _
    simp only [Act.put, List.setIfInBounds_toArray, List.set_cons_zero, List.set_cons_succ]
    refine wpAnyH_take (i := 9) (v := ?_) rfl (by kernel_rfl) (by kernel_rfl) (by kernel_rfl) (fun _ _ _ h => h) (Or.inl ⟨by rfl, ?_⟩) hHeld ?_
    rotate_left 1
    · (intro w' hSw; (try dsimp only at hSw); first | (go_simp; done) | (go_simp; with_reducible rfl))
    change wpAnyH _ _ _ _ _ _ _ (Act.put _ (some 70) _) _
    simp only [Act.put, List.setIfInBounds_toArray, List.set_cons_zero, List.set_cons_succ]
    refine wpAnyH_take (i := 10) (v := ?_) rfl (by kernel_rfl) (by kernel_rfl) (by kernel_rfl) (fun _ _ _ h => h) (Or.inl ⟨by rfl, ?_⟩) hHeld ?_
    rotate_left 1
    · (intro w' hSw; (try dsimp only at hSw); first | (go_simp; done) | (go_simp; with_reducible rfl))
    change wpAnyH _ _ _ _ _ _ _ (Act.put _ (some 71) _) _
    simp only [Act.put, List.setIfInBounds_toArray, List.set_cons_zero, List.set_cons_succ]
    refine wpAnyH_take (i := 11) (v := ?_) rfl (by kernel_rfl) (by kernel_rfl) (by kernel_rfl) (fun _ _ _ h => h) (Or.inl ⟨by rfl, ?_⟩) hHeld ?_
    rotate_left 1
    · (intro w' hSw; (try dsimp only at hSw); first | (go_simp; done) | (go_simp; with_reducible rfl))
    change wpAnyH _ _ _ _ _ _ _ (Act.put _ (some 72) _) _
    simp only [Act.put, List.setIfInBounds_toArray, List.set_cons_zero, List.set_cons_succ]
    refine wpAnyH_take (i := 12) (v := ?_) rfl (by kernel_rfl) (by kernel_rfl) (by kernel_rfl) (fun _ _ _ h => h) (Or.inl ⟨by rfl, ?_⟩) hHeld ?_
    rotate_left 1
    · (intro w' hSw; (try dsimp only at hSw); first | (go_simp; done) | (go_simp; with_reducible rfl))
    change wpAnyH _ _ _ _ _ _ _ (Act.put _ (some 73) _) _
    simp only [Act.put, List.setIfInBounds_toArray, List.set_cons_zero, List.set_cons_succ]
    refine wpAnyH_take (i := 13) (v := ?_) rfl (by kernel_rfl) (by kernel_rfl) (by kernel_rfl) (fun _ _ _ h => h) (Or.inl ⟨by rfl, ?_⟩) hHeld ?_
    rotate_left 1
    · (intro w' hSw; (try dsimp only at hSw); first | (go_simp; done) | (go_simp; with_reducible rfl))
    change wpAnyH _ _ _ _ _ _ _ (Act.put _ (some 74) _) _
    simp only [Act.put, List.setIfInBounds_toArray, List.set_cons_zero, List.set_cons_succ]
    refine wpAnyH_take (i := 14) (v := ?_) rfl (by kernel_rfl) (by kernel_rfl) (by kernel_rfl) (fun _ _ _ h => h) (Or.inl ⟨by rfl, ?_⟩) hHeld ?_
    rotate_left 1
    · (intro w' hSw; (try dsimp only at hSw); first | (go_simp; done) | (go_simp; with_reducible rfl))
    change wpAnyH _ _ _ _ _ _ _ (Act.put _ (some 75) _) _
    simp only [Act.put, List.setIfInBounds_toArray, List.set_cons_zero, List.set_cons_succ]
    refine wpAnyH_take (i := 15) (v := ?_) rfl (by kernel_rfl) (by kernel_rfl) (by kernel_rfl) (fun _ _ _ h => h) (Or.inl ⟨by rfl, ?_⟩) hHeld ?_
    rotate_left 1
    · (intro w' hSw; (try dsimp only at hSw); first | (go_simp; done) | (go_simp; with_reducible rfl))
    change wpAnyH _ _ _ _ _ _ _ (Act.put _ (some 76) _) _
    simp only [Act.put, List.setIfInBounds_toArray, List.set_cons_zero, List.set_cons_succ]
    refine wpAnyH_take (i := 16) (v := ?_) rfl (by kernel_rfl) (by kernel_rfl) (by kernel_rfl) (fun _ _ _ h => h) (Or.inl ⟨by rfl, ?_⟩) hHeld ?_
    rotate_left 1
    · (intro w' hSw; (try dsimp only at hSw); first | (go_simp; done) | (go_simp; with_reducible rfl))
    change wpAnyH _ _ _ _ _ _ _ (Act.put _ (some 77) _) _
    simp only [Act.put, List.setIfInBounds_toArray, List.set_cons_zero, List.set_cons_succ]
    refine wpAnyH_take (i := 18) (v := ?_) rfl (by kernel_rfl) (by kernel_rfl) (by kernel_rfl) (fun _ _ _ h => h) (Or.inl ⟨by rfl, ?_⟩) hHeld ?_
    rotate_left 1
    · (intro w' hSw; (try dsimp only at hSw); first | (go_simp; done) | (go_simp; with_reducible rfl))
    change wpAnyH _ _ _ _ _ _ _ (Act.put _ (some 79) _) _
    simp only [Act.put, List.setIfInBounds_toArray, List.set_cons_zero, List.set_cons_succ]
    refine wpAnyH_take (i := 19) (v := ?_) rfl (by kernel_rfl) (by kernel_rfl) (by kernel_rfl) (fun _ _ _ h => h) (Or.inl ⟨by rfl, ?_⟩) hHeld ?_
    rotate_left 1
    · (intro w' hSw; (try dsimp only at hSw); first | (go_simp; done) | (go_simp; with_reducible rfl))
    change wpAnyH _ _ _ _ _ _ _ (Act.put _ (some 80) _) _
    simp only [Act.put, List.setIfInBounds_toArray, List.set_cons_zero, List.set_cons_succ]
    refine wpAnyH_ready (rs := [17]) (by kernel_rfl) (by simp) ?_
    refine AllReadyH.cons rfl (fun K hK => ?_) AllReadyH.nil
    go_simp
    refine (K3.out _ hHeld).mono ?_
    rintro e w' ⟨rfl, hg⟩
    go_wp2_with fail
    refine hK.out _ _ hg (fun hHeld => ?_)
    clear hK K
    try simp only [Act.put, List.setIfInBounds_toArray, List.set_cons_zero, List.set_cons_succ]
    refine wpAnyH_ready (rs := [20]) (by kernel_rfl) (by simp) ?_
    refine AllReadyH.cons rfl (fun K hK => ?_) AllReadyH.nil
    go_simp
    refine (K1.out _ hHeld).mono ?_
    rintro e w' ⟨rfl, hg⟩
    go_wp2_with fail
    refine hK.out _ _ hg (fun hHeld => ?_)
    clear hK K
    try simp only [Act.put, List.setIfInBounds_toArray, List.set_cons_zero, List.set_cons_succ]
    refine wpAnyH_take (i := 21) (v := ?_) rfl (by kernel_rfl) (by kernel_rfl) (by kernel_rfl) (fun _ _ _ h => h) (Or.inl ⟨by rfl, ?_⟩) hHeld ?_
    rotate_left 1
    · (intro w' hSw; (try dsimp only at hSw); first | (go_simp; done) | (go_simp; with_reducible rfl))
    change wpAnyH _ _ _ _ _ _ _ (Act.put _ (some 82) _) _
    simp only [Act.put, List.setIfInBounds_toArray, List.set_cons_zero, List.set_cons_succ]
    refine wpAnyH_take (i := 22) (v := ?_) rfl (by kernel_rfl) (by kernel_rfl) (by kernel_rfl) (fun _ _ _ h => h) (Or.inl ⟨by rfl, ?_⟩) hHeld ?_
    rotate_left 1
    · (intro w' hSw; (try dsimp only at hSw); first | (go_simp; done) | (go_simp; with_reducible rfl))
    change wpAnyH _ _ _ _ _ _ _ (Act.put _ (some 83) _) _
    simp only [Act.put, List.setIfInBounds_toArray, List.set_cons_zero, List.set_cons_succ]
    refine wpAnyH_take (i := 23) (v := ?_) rfl (by kernel_rfl) (by kernel_rfl) (by kernel_rfl) (fun _ _ _ h => h) (Or.inl ⟨by rfl, ?_⟩) hHeld ?_
    rotate_left 1
    · (intro w' hSw; (try dsimp only at hSw); first | (go_simp; done) | (go_simp; with_reducible rfl))
    change wpAnyH _ _ _ _ _ _ _ (Act.put _ (some 84) _) _
    simp only [Act.put, List.setIfInBounds_toArray, List.set_cons_zero, List.set_cons_succ]
    refine wpAnyH_ready (rs := [24]) (by kernel_rfl) (by simp) ?_
    refine AllReadyH.cons rfl (fun K hK => ?_) AllReadyH.nil
    go_simp
    refine (K2.out _ hHeld).mono ?_
    rintro e w' ⟨rfl, hg⟩
    go_wp2_with fail
    refine hK.out _ _ hg (fun hHeld => ?_)
    clear hK K
    try simp only [Act.put, List.setIfInBounds_toArray, List.set_cons_zero, List.set_cons_succ]
    refine wpAnyH_take (i := 25) (v := ?_) rfl (by kernel_rfl) (by kernel_rfl) (by kernel_rfl) (fun _ _ _ h => h) (Or.inl ⟨by rfl, ?_⟩) hHeld ?_
    rotate_left 1
    · (intro w' hSw; (try dsimp only at hSw); first | (go_simp; done) | (go_simp; with_reducible rfl))
    change wpAnyH _ _ _ _ _ _ _ (Act.put _ (some 86) _) _
    simp only [Act.put, List.setIfInBounds_toArray, List.set_cons_zero, List.set_cons_succ]
    refine wpAnyH_take (i := 26) (v := ?_) rfl (by kernel_rfl) (by kernel_rfl) (by kernel_rfl) (fun _ _ _ h => h) (Or.inl ⟨by rfl, ?_⟩) hHeld ?_
    rotate_left 1
    · (intro w' hSw; (try dsimp only at hSw); first | (go_simp; done) | (go_simp; with_reducible rfl))
    change wpAnyH _ _ _ _ _ _ _ (Act.put _ (some 87) _) _
    simp only [Act.put, List.setIfInBounds_toArray, List.set_cons_zero, List.set_cons_succ]
    refine wpAnyH_take (i := 27) (v := ?_) rfl (by kernel_rfl) (by kernel_rfl) (by kernel_rfl) (fun _ _ _ h => h) (Or.inl ⟨by rfl, ?_⟩) hHeld ?_
    rotate_left 1
    · (intro w' hSw; (try dsimp only at hSw); first | (go_simp; done) | (go_simp; with_reducible rfl))
    change wpAnyH _ _ _ _ _ _ _ (Act.put _ (some 88) _) _
    simp only [Act.put, List.setIfInBounds_toArray, List.set_cons_zero, List.set_cons_succ]
    refine wpAnyH_take (i := 28) (v := ?_) rfl (by kernel_rfl) (by kernel_rfl) (by kernel_rfl) (fun _ _ _ h => h) (Or.inl ⟨by rfl, ?_⟩) hHeld ?_
    rotate_left 1
    · (intro w' hSw; (try dsimp only at hSw); first | (go_simp; done) | (go_simp; with_reducible rfl))
    change wpAnyH _ _ _ _ _ _ _ (Act.put _ (some 8) _) _
    simp only [Act.put, List.setIfInBounds_toArray, List.set_cons_zero, List.set_cons_succ]
    refine wpAnyH_done (by kernel_rfl) ?_ _
    go_wp2_with fail
    go_ret
    exact ⟨by simp, HFIN.out _ hHeld⟩
set_option maxRecDepth 100000 in
set_option maxHeartbeats 4000000 in
theorem unions_80_0_80 (st : Bool) (o : Option Addr) (xs0 : List ItemP) (cap : Nat) (a b c : Int) (hcap : xs0.length ≤ cap) (w : World) (aP aS : Addr) (hQ : GlobH w aP aS) (sa sb sz : Int) 
    (hS1 : ∀ W, Below w.heap.size w W → Calls Tryd.prog 14 #[patV st o (xs0.take 12).length cap, .int .i64 a, .int .i64 c] W fun e w' => e = .returned (.tuple #[.int .i64 sa, .int .i64 80]) ∧ Below W.heap.size W w')
    (hS2 : ∀ W, Below w.heap.size w W → Calls Tryd.prog 14 #[patV st o (xs0.take 12).length cap, .int .i64 b, .int .i64 c] W fun e w' => e = .returned (.tuple #[.int .i64 sb, .int .i64 0]) ∧ Below W.heap.size W w')
    (hS3 : ∀ W, Below w.heap.size w W → Calls Tryd.prog 14 #[patV st o (xs0.take 12).length cap, .int .i64 (orZ a b), .int .i64 c] W fun e w' => e = .returned (.tuple #[.int .i64 sz, .int .i64 80]) ∧ Below W.heap.size W w') :
    Calls Tryd.prog 6 #[patV st o xs0.length cap, .int .i64 a, .int .i64 b, .int .i64 c] w fun e w' => e = .returned (.bool true) ∧ Below w.heap.size w w' := by
  obtain ⟨z, hz⟩ : ∃ z, orZ a b = z := ⟨_, rfl⟩
  rw [hz] at hS3
  have hz2 : bits BinOp.or IntKind.i64 a b = z := hz
  obtain ⟨n0, hn0⟩ : ∃ n, xs0.length = n := ⟨_, rfl⟩
  have HCUT := Lib.hid (fun W => cutH_any st o xs0 cap hcap W)
  obtain ⟨n, hn⟩ : ∃ n, (xs0.take 12).length = n := ⟨_, rfl⟩
  rw [hn] at hS1 hS2 hS3 HCUT
  rw [hn0] at HCUT ⊢
  obtain ⟨w1, hw1⟩ : ∃ w1, w.alloc (patO st o n0 cap) = w1 := ⟨_, rfl⟩
  have b1 : Below w.heap.size w w1 := by rw [← hw1]; exact (Below.refl _ _).alloc (Nat.le_refl _) _
  have r1 : w1.heap[w.heap.size]? = some (patO st o n0 cap) := by rw [← hw1]; exact heap_alloc_new _ _
  have HSH := Lib.hid (shown_any w1 aP aS (hQ.below b1))
  have HS1 := Lib.hid hS1
  have HS2 := Lib.hid hS2
  have HS3 := Lib.hid hS3
  have HW1 := Lib.hid hw1
  have HB1 := Lib.hid b1
  have HR1 := Lib.hid r1
  have hlt1 : w.heap.size < w1.heap.size := (Array.getElem?_eq_some_iff.1 r1).1
  clear hw1 b1 r1 hcap hQ hS1 hS2 hS3 hn hn0 hz
  go_enter Tryd.func6, Tryd.ntmps6
  go_wp2_with fail
  rw [HW1.out]
  refine HSH.out.mono ?_
  rintro e W2 ⟨rfl, b2⟩
  obtain ⟨p0, p1⟩ := pat_cellsH (row_below HR1.out b2)
  have HR2 := Lib.hid (row_below HR1.out b2)
  have HB2 := Lib.hid (HB1.out.trans (b2.mono HB1.out.size))
  clear b2
  go_wp2_with fail
  refine (HCUT.out _).mono ?_
  rintro e W3 ⟨rfl, b3⟩
  have hr3 := row_below HR2.out b3
  obtain ⟨q0, q1⟩ := pat_cellsH hr3
  have f0 := frozen_of_row W3 w.heap.size 0 _ _ hr3
  have f1 := frozen_of_row W3 w.heap.size 1 _ _ hr3
  obtain ⟨r4, m4⟩ := two_setH (.bool st) (.slice o n cap) hr3
  obtain ⟨w4, hw4⟩ : ∃ w4, (W3.setCell ⟨w.heap.size, 0, none⟩ (.bool st)).setCell ⟨w.heap.size, 1, none⟩ (.slice o n cap) = w4 := ⟨_, rfl⟩
  rw [hw4] at r4 m4
  have HB4 := Lib.hid (Moves.below (HB2.out.trans (b3.mono HB2.out.size)) (by have := HB2.out.size; have := b3.size; omega) m4 (fun k hk => by omega))
  have HR4 := Lib.hid r4
  have HW4 := Lib.hid hw4
  have HC4 := Lib.hid (HS1.out w4 HB4.out)
  clear p0 p1 b3 r4 m4 hw4 hr3
  go_wp2_with fail
  rw [HW4.out]
  refine HC4.out.mono ?_
  rintro e W5 ⟨rfl, b5⟩
  obtain ⟨p0, p1⟩ := pat_cellsH (row_below HR4.out b5)
  have HR5 := Lib.hid (row_below HR4.out b5)
  have HB5 := Lib.hid (HB4.out.trans (b5.mono HB4.out.size))
  have HC5 := Lib.hid (HS2.out W5 HB5.out)
  clear b5 q0 q1 f0 f1
  go_wp2_with fail
  refine HC5.out.mono ?_
  rintro e W6 ⟨rfl, b6⟩
  obtain ⟨q0, q1⟩ := pat_cellsH (row_below HR5.out b6)
  have HR6 := Lib.hid (row_below HR5.out b6)
  have HB6 := Lib.hid (HB5.out.trans (b6.mono HB5.out.size))
  have HC6 := Lib.hid (HS3.out W6 HB6.out)
  clear b6 p0 p1
  go_wp2_with fail
  refine HC6.out.mono ?_
  rintro e W7 ⟨rfl, b7⟩
  obtain ⟨p0, p1⟩ := pat_cellsH (row_below HR6.out b7)
  have HR7 := Lib.hid (row_below HR6.out b7)
  have HB7 := Lib.hid (HB6.out.trans (b7.mono HB6.out.size))
  clear b7 q0 q1
  go_wp2_with fail
  go_ret
  exact ⟨by simp, HB7.out⟩
set_option maxRecDepth 100000 in
set_option maxHeartbeats 4000000 in
theorem unions_80_0_0 (st : Bool) (o : Option Addr) (xs0 : List ItemP) (cap : Nat) (a b c : Int) (hcap : xs0.length ≤ cap) (ha0 : 0 ≤ a) (hb0 : 0 ≤ b) (w : World) (aP aS : Addr) (hQ : GlobH w aP aS) (sa sb sz : Int) 
    (hS1 : ∀ W, Below w.heap.size w W → Calls Tryd.prog 14 #[patV st o (xs0.take 12).length cap, .int .i64 a, .int .i64 c] W fun e w' => e = .returned (.tuple #[.int .i64 sa, .int .i64 80]) ∧ Below W.heap.size W w')
    (hS2 : ∀ W, Below w.heap.size w W → Calls Tryd.prog 14 #[patV st o (xs0.take 12).length cap, .int .i64 b, .int .i64 c] W fun e w' => e = .returned (.tuple #[.int .i64 sb, .int .i64 0]) ∧ Below W.heap.size W w')
    (hS3 : ∀ W, Below w.heap.size w W → Calls Tryd.prog 14 #[patV st o (xs0.take 12).length cap, .int .i64 (orZ a b), .int .i64 c] W fun e w' => e = .returned (.tuple #[.int .i64 sz, .int .i64 0]) ∧ Below W.heap.size W w') :
    Calls Tryd.prog 6 #[patV st o xs0.length cap, .int .i64 a, .int .i64 b, .int .i64 c] w fun e w' => e = .returned (.bool true) ∧ Below w.heap.size w w' := by
  obtain ⟨z, hz⟩ : ∃ z, orZ a b = z := ⟨_, rfl⟩
  rw [hz] at hS3
  have hz2 : bits BinOp.or IntKind.i64 a b = z := hz
  obtain ⟨n0, hn0⟩ : ∃ n, xs0.length = n := ⟨_, rfl⟩
  have HCUT := Lib.hid (fun W => cutH_any st o xs0 cap hcap W)
  obtain ⟨n, hn⟩ : ∃ n, (xs0.take 12).length = n := ⟨_, rfl⟩
  rw [hn] at hS1 hS2 hS3 HCUT
  rw [hn0] at HCUT ⊢
  obtain ⟨w1, hw1⟩ : ∃ w1, w.alloc (patO st o n0 cap) = w1 := ⟨_, rfl⟩
  have b1 : Below w.heap.size w w1 := by rw [← hw1]; exact (Below.refl _ _).alloc (Nat.le_refl _) _
  have r1 : w1.heap[w.heap.size]? = some (patO st o n0 cap) := by rw [← hw1]; exact heap_alloc_new _ _
  have HSH := Lib.hid (shown_any w1 aP aS (hQ.below b1))
  have HS1 := Lib.hid hS1
  have HS2 := Lib.hid hS2
  have HS3 := Lib.hid hS3
  have HW1 := Lib.hid hw1
  have HB1 := Lib.hid b1
  have HR1 := Lib.hid r1
  have hlt1 : w.heap.size < w1.heap.size := (Array.getElem?_eq_some_iff.1 r1).1
  clear hw1 b1 r1 hcap hQ hS1 hS2 hS3 hn hn0 hz
  go_enter Tryd.func6, Tryd.ntmps6
  go_wp2_with fail
  rw [HW1.out]
  refine HSH.out.mono ?_
  rintro e W2 ⟨rfl, b2⟩
  obtain ⟨p0, p1⟩ := pat_cellsH (row_below HR1.out b2)
  have HR2 := Lib.hid (row_below HR1.out b2)
  have HB2 := Lib.hid (HB1.out.trans (b2.mono HB1.out.size))
  clear b2
  go_wp2_with fail
  refine (HCUT.out _).mono ?_
  rintro e W3 ⟨rfl, b3⟩
  have hr3 := row_below HR2.out b3
  obtain ⟨q0, q1⟩ := pat_cellsH hr3
  have f0 := frozen_of_row W3 w.heap.size 0 _ _ hr3
  have f1 := frozen_of_row W3 w.heap.size 1 _ _ hr3
  obtain ⟨r4, m4⟩ := two_setH (.bool st) (.slice o n cap) hr3
  obtain ⟨w4, hw4⟩ : ∃ w4, (W3.setCell ⟨w.heap.size, 0, none⟩ (.bool st)).setCell ⟨w.heap.size, 1, none⟩ (.slice o n cap) = w4 := ⟨_, rfl⟩
  rw [hw4] at r4 m4
  have HB4 := Lib.hid (Moves.below (HB2.out.trans (b3.mono HB2.out.size)) (by have := HB2.out.size; have := b3.size; omega) m4 (fun k hk => by omega))
  have HR4 := Lib.hid r4
  have HW4 := Lib.hid hw4
  have HC4 := Lib.hid (HS1.out w4 HB4.out)
  clear p0 p1 b3 r4 m4 hw4 hr3
  go_wp2_with fail
  rw [HW4.out]
  refine HC4.out.mono ?_
  rintro e W5 ⟨rfl, b5⟩
  obtain ⟨p0, p1⟩ := pat_cellsH (row_below HR4.out b5)
  have HR5 := Lib.hid (row_below HR4.out b5)
  have HB5 := Lib.hid (HB4.out.trans (b5.mono HB4.out.size))
  have HC5 := Lib.hid (HS2.out W5 HB5.out)
  clear b5 q0 q1 f0 f1
  go_wp2_with fail
  refine HC5.out.mono ?_
  rintro e W6 ⟨rfl, b6⟩
  obtain ⟨q0, q1⟩ := pat_cellsH (row_below HR5.out b6)
  have HR6 := Lib.hid (row_below HR5.out b6)
  have HB6 := Lib.hid (HB5.out.trans (b6.mono HB5.out.size))
  have HC6 := Lib.hid (HS3.out W6 HB6.out)
  clear b6 p0 p1
  go_wp2_with fail
  refine HC6.out.mono ?_
  rintro e W7 ⟨rfl, b7⟩
  obtain ⟨p0, p1⟩ := pat_cellsH (row_below HR6.out b7)
  have HR7 := Lib.hid (row_below HR6.out b7)
  have HB7 := Lib.hid (HB6.out.trans (b7.mono HB6.out.size))
  clear b7 q0 q1
  go_wp2_with fail
  go_ret
  exact ⟨by simp, HB7.out⟩
set_option maxRecDepth 100000 in
set_option maxHeartbeats 4000000 in
theorem unions_80_80_80 (st : Bool) (o : Option Addr) (xs0 : List ItemP) (cap : Nat) (a b c : Int) (hcap : xs0.length ≤ cap) (w : World) (aP aS : Addr) (hQ : GlobH w aP aS) (sa sb sz : Int) 
    (hS1 : ∀ W, Below w.heap.size w W → Calls Tryd.prog 14 #[patV st o (xs0.take 12).length cap, .int .i64 a, .int .i64 c] W fun e w' => e = .returned (.tuple #[.int .i64 sa, .int .i64 80]) ∧ Below W.heap.size W w')
    (hS2 : ∀ W, Below w.heap.size w W → Calls Tryd.prog 14 #[patV st o (xs0.take 12).length cap, .int .i64 b, .int .i64 c] W fun e w' => e = .returned (.tuple #[.int .i64 sb, .int .i64 80]) ∧ Below W.heap.size W w')
    (hS3 : ∀ W, Below w.heap.size w W → Calls Tryd.prog 14 #[patV st o (xs0.take 12).length cap, .int .i64 (orZ a b), .int .i64 c] W fun e w' => e = .returned (.tuple #[.int .i64 sz, .int .i64 80]) ∧ Below W.heap.size W w') :
    Calls Tryd.prog 6 #[patV st o xs0.length cap, .int .i64 a, .int .i64 b, .int .i64 c] w fun e w' => e = .returned (.bool true) ∧ Below w.heap.size w w' := by
  obtain ⟨z, hz⟩ : ∃ z, orZ a b = z := ⟨_, rfl⟩
  rw [hz] at hS3
  have hz2 : bits BinOp.or IntKind.i64 a b = z := hz
  obtain ⟨n0, hn0⟩ : ∃ n, xs0.length = n := ⟨_, rfl⟩
  have HCUT := Lib.hid (fun W => cutH_any st o xs0 cap hcap W)
  obtain ⟨n, hn⟩ : ∃ n, (xs0.take 12).length = n := ⟨_, rfl⟩
  rw [hn] at hS1 hS2 hS3 HCUT
  rw [hn0] at HCUT ⊢
  obtain ⟨w1, hw1⟩ : ∃ w1, w.alloc (patO st o n0 cap) = w1 := ⟨_, rfl⟩
  have b1 : Below w.heap.size w w1 := by rw [← hw1]; exact (Below.refl _ _).alloc (Nat.le_refl _) _
  have r1 : w1.heap[w.heap.size]? = some (patO st o n0 cap) := by rw [← hw1]; exact heap_alloc_new _ _
  have HSH := Lib.hid (shown_any w1 aP aS (hQ.below b1))
  have HS1 := Lib.hid hS1
  have HS2 := Lib.hid hS2
  have HS3 := Lib.hid hS3
  have HW1 := Lib.hid hw1
  have HB1 := Lib.hid b1
  have HR1 := Lib.hid r1
  have hlt1 : w.heap.size < w1.heap.size := (Array.getElem?_eq_some_iff.1 r1).1
  clear hw1 b1 r1 hcap hQ hS1 hS2 hS3 hn hn0 hz
  go_enter Tryd.func6, Tryd.ntmps6
  go_wp2_with fail
  rw [HW1.out]
  refine HSH.out.mono ?_
  rintro e W2 ⟨rfl, b2⟩
  obtain ⟨p0, p1⟩ := pat_cellsH (row_below HR1.out b2)
  have HR2 := Lib.hid (row_below HR1.out b2)
  have HB2 := Lib.hid (HB1.out.trans (b2.mono HB1.out.size))
  clear b2
  go_wp2_with fail
  refine (HCUT.out _).mono ?_
  rintro e W3 ⟨rfl, b3⟩
  have hr3 := row_below HR2.out b3
  obtain ⟨q0, q1⟩ := pat_cellsH hr3
  have f0 := frozen_of_row W3 w.heap.size 0 _ _ hr3
  have f1 := frozen_of_row W3 w.heap.size 1 _ _ hr3
  obtain ⟨r4, m4⟩ := two_setH (.bool st) (.slice o n cap) hr3
  obtain ⟨w4, hw4⟩ : ∃ w4, (W3.setCell ⟨w.heap.size, 0, none⟩ (.bool st)).setCell ⟨w.heap.size, 1, none⟩ (.slice o n cap) = w4 := ⟨_, rfl⟩
  rw [hw4] at r4 m4
  have HB4 := Lib.hid (Moves.below (HB2.out.trans (b3.mono HB2.out.size)) (by have := HB2.out.size; have := b3.size; omega) m4 (fun k hk => by omega))
  have HR4 := Lib.hid r4
  have HW4 := Lib.hid hw4
  have HC4 := Lib.hid (HS1.out w4 HB4.out)
  clear p0 p1 b3 r4 m4 hw4 hr3
  go_wp2_with fail
  rw [HW4.out]
  refine HC4.out.mono ?_
  rintro e W5 ⟨rfl, b5⟩
  obtain ⟨p0, p1⟩ := pat_cellsH (row_below HR4.out b5)
  have HR5 := Lib.hid (row_below HR4.out b5)
  have HB5 := Lib.hid (HB4.out.trans (b5.mono HB4.out.size))
  have HC5 := Lib.hid (HS2.out W5 HB5.out)
  clear b5 q0 q1 f0 f1
  go_wp2_with fail
  refine HC5.out.mono ?_
  rintro e W6 ⟨rfl, b6⟩
  obtain ⟨q0, q1⟩ := pat_cellsH (row_below HR5.out b6)
  have HR6 := Lib.hid (row_below HR5.out b6)
  have HB6 := Lib.hid (HB5.out.trans (b6.mono HB5.out.size))
  have HC6 := Lib.hid (HS3.out W6 HB6.out)
  clear b6 p0 p1
  go_wp2_with fail
  refine HC6.out.mono ?_
  rintro e W7 ⟨rfl, b7⟩
  obtain ⟨p0, p1⟩ := pat_cellsH (row_below HR6.out b7)
  have HR7 := Lib.hid (row_below HR6.out b7)
  have HB7 := Lib.hid (HB6.out.trans (b7.mono HB6.out.size))
  clear b7 q0 q1
  go_wp2_with fail
  go_ret
  exact ⟨by simp, HB7.out⟩
set_option maxRecDepth 100000 in
set_option maxHeartbeats 4000000 in
theorem unions_80_80_0 (st : Bool) (o : Option Addr) (xs0 : List ItemP) (cap : Nat) (a b c : Int) (hcap : xs0.length ≤ cap) (ha0 : 0 ≤ a) (hb0 : 0 ≤ b) (w : World) (aP aS : Addr) (hQ : GlobH w aP aS) (sa sb sz : Int) 
    (hS1 : ∀ W, Below w.heap.size w W → Calls Tryd.prog 14 #[patV st o (xs0.take 12).length cap, .int .i64 a, .int .i64 c] W fun e w' => e = .returned (.tuple #[.int .i64 sa, .int .i64 80]) ∧ Below W.heap.size W w')
    (hS2 : ∀ W, Below w.heap.size w W → Calls Tryd.prog 14 #[patV st o (xs0.take 12).length cap, .int .i64 b, .int .i64 c] W fun e w' => e = .returned (.tuple #[.int .i64 sb, .int .i64 80]) ∧ Below W.heap.size W w')
    (hS3 : ∀ W, Below w.heap.size w W → Calls Tryd.prog 14 #[patV st o (xs0.take 12).length cap, .int .i64 (orZ a b), .int .i64 c] W fun e w' => e = .returned (.tuple #[.int .i64 sz, .int .i64 0]) ∧ Below W.heap.size W w') :
    Calls Tryd.prog 6 #[patV st o xs0.length cap, .int .i64 a, .int .i64 b, .int .i64 c] w fun e w' => e = .returned (.bool true) ∧ Below w.heap.size w w' := by
  obtain ⟨z, hz⟩ : ∃ z, orZ a b = z := ⟨_, rfl⟩
  rw [hz] at hS3
  have hz2 : bits BinOp.or IntKind.i64 a b = z := hz
  obtain ⟨n0, hn0⟩ : ∃ n, xs0.length = n := ⟨_, rfl⟩
  have HCUT := Lib.hid (fun W => cutH_any st o xs0 cap hcap W)
  obtain ⟨n, hn⟩ : ∃ n, (xs0.take 12).length = n := ⟨_, rfl⟩
  rw [hn] at hS1 hS2 hS3 HCUT
  rw [hn0] at HCUT ⊢
  obtain ⟨w1, hw1⟩ : ∃ w1, w.alloc (patO st o n0 cap) = w1 := ⟨_, rfl⟩
  have b1 : Below w.heap.size w w1 := by rw [← hw1]; exact (Below.refl _ _).alloc (Nat.le_refl _) _
  have r1 : w1.heap[w.heap.size]? = some (patO st o n0 cap) := by rw [← hw1]; exact heap_alloc_new _ _
  have HSH := Lib.hid (shown_any w1 aP aS (hQ.below b1))
  have HS1 := Lib.hid hS1
  have HS2 := Lib.hid hS2
  have HS3 := Lib.hid hS3
  have HW1 := Lib.hid hw1
  have HB1 := Lib.hid b1
  have HR1 := Lib.hid r1
  have hlt1 : w.heap.size < w1.heap.size := (Array.getElem?_eq_some_iff.1 r1).1
  clear hw1 b1 r1 hcap hQ hS1 hS2 hS3 hn hn0 hz
  go_enter Tryd.func6, Tryd.ntmps6
  go_wp2_with fail
  rw [HW1.out]
  refine HSH.out.mono ?_
  rintro e W2 ⟨rfl, b2⟩
  obtain ⟨p0, p1⟩ := pat_cellsH (row_below HR1.out b2)
  have HR2 := Lib.hid (row_below HR1.out b2)
  have HB2 := Lib.hid (HB1.out.trans (b2.mono HB1.out.size))
  clear b2
  go_wp2_with fail
  refine (HCUT.out _).mono ?_
  rintro e W3 ⟨rfl, b3⟩
  have hr3 := row_below HR2.out b3
  obtain ⟨q0, q1⟩ := pat_cellsH hr3
  have f0 := frozen_of_row W3 w.heap.size 0 _ _ hr3
  have f1 := frozen_of_row W3 w.heap.size 1 _ _ hr3
  obtain ⟨r4, m4⟩ := two_setH (.bool st) (.slice o n cap) hr3
  obtain ⟨w4, hw4⟩ : ∃ w4, (W3.setCell ⟨w.heap.size, 0, none⟩ (.bool st)).setCell ⟨w.heap.size, 1, none⟩ (.slice o n cap) = w4 := ⟨_, rfl⟩
  rw [hw4] at r4 m4
  have HB4 := Lib.hid (Moves.below (HB2.out.trans (b3.mono HB2.out.size)) (by have := HB2.out.size; have := b3.size; omega) m4 (fun k hk => by omega))
  have HR4 := Lib.hid r4
  have HW4 := Lib.hid hw4
  have HC4 := Lib.hid (HS1.out w4 HB4.out)
  clear p0 p1 b3 r4 m4 hw4 hr3
  go_wp2_with fail
  rw [HW4.out]
  refine HC4.out.mono ?_
  rintro e W5 ⟨rfl, b5⟩
  obtain ⟨p0, p1⟩ := pat_cellsH (row_below HR4.out b5)
  have HR5 := Lib.hid (row_below HR4.out b5)
  have HB5 := Lib.hid (HB4.out.trans (b5.mono HB4.out.size))
  have HC5 := Lib.hid (HS2.out W5 HB5.out)
  clear b5 q0 q1 f0 f1
  go_wp2_with fail
  refine HC5.out.mono ?_
  rintro e W6 ⟨rfl, b6⟩
  obtain ⟨q0, q1⟩ := pat_cellsH (row_below HR5.out b6)
  have HR6 := Lib.hid (row_below HR5.out b6)
  have HB6 := Lib.hid (HB5.out.trans (b6.mono HB5.out.size))
  have HC6 := Lib.hid (HS3.out W6 HB6.out)
  clear b6 p0 p1
  go_wp2_with fail
  refine HC6.out.mono ?_
  rintro e W7 ⟨rfl, b7⟩
  obtain ⟨p0, p1⟩ := pat_cellsH (row_below HR6.out b7)
  have HR7 := Lib.hid (row_below HR6.out b7)
  have HB7 := Lib.hid (HB6.out.trans (b7.mono HB6.out.size))
  clear b7 q0 q1
  go_wp2_with fail
  go_ret
  exact ⟨by simp, HB7.out⟩
set_option maxRecDepth 100000 in
set_option maxHeartbeats 4000000 in
theorem unions_0_80_80 (st : Bool) (o : Option Addr) (xs0 : List ItemP) (cap : Nat) (a b c : Int) (hcap : xs0.length ≤ cap) (w : World) (aP aS : Addr) (hQ : GlobH w aP aS) (sa sb sz : Int) 
    (hS1 : ∀ W, Below w.heap.size w W → Calls Tryd.prog 14 #[patV st o (xs0.take 12).length cap, .int .i64 a, .int .i64 c] W fun e w' => e = .returned (.tuple #[.int .i64 sa, .int .i64 0]) ∧ Below W.heap.size W w')
    (hS2 : ∀ W, Below w.heap.size w W → Calls Tryd.prog 14 #[patV st o (xs0.take 12).length cap, .int .i64 b, .int .i64 c] W fun e w' => e = .returned (.tuple #[.int .i64 sb, .int .i64 80]) ∧ Below W.heap.size W w')
    (hS3 : ∀ W, Below w.heap.size w W → Calls Tryd.prog 14 #[patV st o (xs0.take 12).length cap, .int .i64 (orZ a b), .int .i64 c] W fun e w' => e = .returned (.tuple #[.int .i64 sz, .int .i64 80]) ∧ Below W.heap.size W w') :
    Calls Tryd.prog 6 #[patV st o xs0.length cap, .int .i64 a, .int .i64 b, .int .i64 c] w fun e w' => e = .returned (.bool true) ∧ Below w.heap.size w w' := by
  obtain ⟨z, hz⟩ : ∃ z, orZ a b = z := ⟨_, rfl⟩
  rw [hz] at hS3
  have hz2 : bits BinOp.or IntKind.i64 a b = z := hz
  obtain ⟨n0, hn0⟩ : ∃ n, xs0.length = n := ⟨_, rfl⟩
  have HCUT := Lib.hid (fun W => cutH_any st o xs0 cap hcap W)
  obtain ⟨n, hn⟩ : ∃ n, (xs0.take 12).length = n := ⟨_, rfl⟩
  rw [hn] at hS1 hS2 hS3 HCUT
  rw [hn0] at HCUT ⊢
  obtain ⟨w1, hw1⟩ : ∃ w1, w.alloc (patO st o n0 cap) = w1 := ⟨_, rfl⟩
  have b1 : Below w.heap.size w w1 := by rw [← hw1]; exact (Below.refl _ _).alloc (Nat.le_refl _) _
  have r1 : w1.heap[w.heap.size]? = some (patO st o n0 cap) := by rw [← hw1]; exact heap_alloc_new _ _
  have HSH := Lib.hid (shown_any w1 aP aS (hQ.below b1))
  have HS1 := Lib.hid hS1
  have HS2 := Lib.hid hS2
  have HS3 := Lib.hid hS3
  have HW1 := Lib.hid hw1
  have HB1 := Lib.hid b1
  have HR1 := Lib.hid r1
  have hlt1 : w.heap.size < w1.heap.size := (Array.getElem?_eq_some_iff.1 r1).1
  clear hw1 b1 r1 hcap hQ hS1 hS2 hS3 hn hn0 hz
  go_enter Tryd.func6, Tryd.ntmps6
  go_wp2_with fail
  rw [HW1.out]
  refine HSH.out.mono ?_
  rintro e W2 ⟨rfl, b2⟩
  obtain ⟨p0, p1⟩ := pat_cellsH (row_below HR1.out b2)
  have HR2 := Lib.hid (row_below HR1.out b2)
  have HB2 := Lib.hid (HB1.out.trans (b2.mono HB1.out.size))
  clear b2
  go_wp2_with fail
  refine (HCUT.out _).mono ?_
  rintro e W3 ⟨rfl, b3⟩
  have hr3 := row_below HR2.out b3
  obtain ⟨q0, q1⟩ := pat_cellsH hr3
  have f0 := frozen_of_row W3 w.heap.size 0 _ _ hr3
  have f1 := frozen_of_row W3 w.heap.size 1 _ _ hr3
  obtain ⟨r4, m4⟩ := two_setH (.bool st) (.slice o n cap) hr3
  obtain ⟨w4, hw4⟩ : ∃ w4, (W3.setCell ⟨w.heap.size, 0, none⟩ (.bool st)).setCell ⟨w.heap.size, 1, none⟩ (.slice o n cap) = w4 := ⟨_, rfl⟩
  rw [hw4] at r4 m4
  have HB4 := Lib.hid (Moves.below (HB2.out.trans (b3.mono HB2.out.size)) (by have := HB2.out.size; have := b3.size; omega) m4 (fun k hk => by omega))
  have HR4 := Lib.hid r4
  have HW4 := Lib.hid hw4
  have HC4 := Lib.hid (HS1.out w4 HB4.out)
  clear p0 p1 b3 r4 m4 hw4 hr3
  go_wp2_with fail
  rw [HW4.out]
  refine HC4.out.mono ?_
  rintro e W5 ⟨rfl, b5⟩
  obtain ⟨p0, p1⟩ := pat_cellsH (row_below HR4.out b5)
  have HR5 := Lib.hid (row_below HR4.out b5)
  have HB5 := Lib.hid (HB4.out.trans (b5.mono HB4.out.size))
  have HC5 := Lib.hid (HS2.out W5 HB5.out)
  clear b5 q0 q1 f0 f1
  go_wp2_with fail
  refine HC5.out.mono ?_
  rintro e W6 ⟨rfl, b6⟩
  obtain ⟨q0, q1⟩ := pat_cellsH (row_below HR5.out b6)
  have HR6 := Lib.hid (row_below HR5.out b6)
  have HB6 := Lib.hid (HB5.out.trans (b6.mono HB5.out.size))
  have HC6 := Lib.hid (HS3.out W6 HB6.out)
  clear b6 p0 p1
  go_wp2_with fail
  refine HC6.out.mono ?_
  rintro e W7 ⟨rfl, b7⟩
  obtain ⟨p0, p1⟩ := pat_cellsH (row_below HR6.out b7)
  have HR7 := Lib.hid (row_below HR6.out b7)
  have HB7 := Lib.hid (HB6.out.trans (b7.mono HB6.out.size))
  clear b7 q0 q1
  go_wp2_with fail
  go_ret
  exact ⟨by simp, HB7.out⟩
set_option maxRecDepth 100000 in
set_option maxHeartbeats 4000000 in
theorem unions_0_80_0 (st : Bool) (o : Option Addr) (xs0 : List ItemP) (cap : Nat) (a b c : Int) (hcap : xs0.length ≤ cap) (ha0 : 0 ≤ a) (hb0 : 0 ≤ b) (w : World) (aP aS : Addr) (hQ : GlobH w aP aS) (sa sb sz : Int) 
    (hS1 : ∀ W, Below w.heap.size w W → Calls Tryd.prog 14 #[patV st o (xs0.take 12).length cap, .int .i64 a, .int .i64 c] W fun e w' => e = .returned (.tuple #[.int .i64 sa, .int .i64 0]) ∧ Below W.heap.size W w')
    (hS2 : ∀ W, Below w.heap.size w W → Calls Tryd.prog 14 #[patV st o (xs0.take 12).length cap, .int .i64 b, .int .i64 c] W fun e w' => e = .returned (.tuple #[.int .i64 sb, .int .i64 80]) ∧ Below W.heap.size W w')
    (hS3 : ∀ W, Below w.heap.size w W → Calls Tryd.prog 14 #[patV st o (xs0.take 12).length cap, .int .i64 (orZ a b), .int .i64 c] W fun e w' => e = .returned (.tuple #[.int .i64 sz, .int .i64 0]) ∧ Below W.heap.size W w') :
    Calls Tryd.prog 6 #[patV st o xs0.length cap, .int .i64 a, .int .i64 b, .int .i64 c] w fun e w' => e = .returned (.bool true) ∧ Below w.heap.size w w' := by
  obtain ⟨z, hz⟩ : ∃ z, orZ a b = z := ⟨_, rfl⟩
  rw [hz] at hS3
  have hz2 : bits BinOp.or IntKind.i64 a b = z := hz
  obtain ⟨n0, hn0⟩ : ∃ n, xs0.length = n := ⟨_, rfl⟩
  have HCUT := Lib.hid (fun W => cutH_any st o xs0 cap hcap W)
  obtain ⟨n, hn⟩ : ∃ n, (xs0.take 12).length = n := ⟨_, rfl⟩
  rw [hn] at hS1 hS2 hS3 HCUT
  rw [hn0] at HCUT ⊢
  obtain ⟨w1, hw1⟩ : ∃ w1, w.alloc (patO st o n0 cap) = w1 := ⟨_, rfl⟩
  have b1 : Below w.heap.size w w1 := by rw [← hw1]; exact (Below.refl _ _).alloc (Nat.le_refl _) _
  have r1 : w1.heap[w.heap.size]? = some (patO st o n0 cap) := by rw [← hw1]; exact heap_alloc_new _ _
  have HSH := Lib.hid (shown_any w1 aP aS (hQ.below b1))
  have HS1 := Lib.hid hS1
  have HS2 := Lib.hid hS2
  have HS3 := Lib.hid hS3
  have HW1 := Lib.hid hw1
  have HB1 := Lib.hid b1
  have HR1 := Lib.hid r1
  have hlt1 : w.heap.size < w1.heap.size := (Array.getElem?_eq_some_iff.1 r1).1
  clear hw1 b1 r1 hcap hQ hS1 hS2 hS3 hn hn0 hz
  go_enter Tryd.func6, Tryd.ntmps6
  go_wp2_with fail
  rw [HW1.out]
  refine HSH.out.mono ?_
  rintro e W2 ⟨rfl, b2⟩
  obtain ⟨p0, p1⟩ := pat_cellsH (row_below HR1.out b2)
  have HR2 := Lib.hid (row_below HR1.out b2)
  have HB2 := Lib.hid (HB1.out.trans (b2.mono HB1.out.size))
  clear b2
  go_wp2_with fail
  refine (HCUT.out _).mono ?_
  rintro e W3 ⟨rfl, b3⟩
  have hr3 := row_below HR2.out b3
  obtain ⟨q0, q1⟩ := pat_cellsH hr3
  have f0 := frozen_of_row W3 w.heap.size 0 _ _ hr3
  have f1 := frozen_of_row W3 w.heap.size 1 _ _ hr3
  obtain ⟨r4, m4⟩ := two_setH (.bool st) (.slice o n cap) hr3
  obtain ⟨w4, hw4⟩ : ∃ w4, (W3.setCell ⟨w.heap.size, 0, none⟩ (.bool st)).setCell ⟨w.heap.size, 1, none⟩ (.slice o n cap) = w4 := ⟨_, rfl⟩
  rw [hw4] at r4 m4
  have HB4 := Lib.hid (Moves.below (HB2.out.trans (b3.mono HB2.out.size)) (by have := HB2.out.size; have := b3.size; omega) m4 (fun k hk => by omega))
  have HR4 := Lib.hid r4
  have HW4 := Lib.hid hw4
  have HC4 := Lib.hid (HS1.out w4 HB4.out)
  clear p0 p1 b3 r4 m4 hw4 hr3
  go_wp2_with fail
  rw [HW4.out]
  refine HC4.out.mono ?_
  rintro e W5 ⟨rfl, b5⟩
  obtain ⟨p0, p1⟩ := pat_cellsH (row_below HR4.out b5)
  have HR5 := Lib.hid (row_below HR4.out b5)
  have HB5 := Lib.hid (HB4.out.trans (b5.mono HB4.out.size))
  have HC5 := Lib.hid (HS2.out W5 HB5.out)
  clear b5 q0 q1 f0 f1
  go_wp2_with fail
  refine HC5.out.mono ?_
  rintro e W6 ⟨rfl, b6⟩
  obtain ⟨q0, q1⟩ := pat_cellsH (row_below HR5.out b6)
  have HR6 := Lib.hid (row_below HR5.out b6)
  have HB6 := Lib.hid (HB5.out.trans (b6.mono HB5.out.size))
  have HC6 := Lib.hid (HS3.out W6 HB6.out)
  clear b6 p0 p1
  go_wp2_with fail
  refine HC6.out.mono ?_
  rintro e W7 ⟨rfl, b7⟩
  obtain ⟨p0, p1⟩ := pat_cellsH (row_below HR6.out b7)
  have HR7 := Lib.hid (row_below HR6.out b7)
  have HB7 := Lib.hid (HB6.out.trans (b7.mono HB6.out.size))
  clear b7 q0 q1
  go_wp2_with fail
  go_ret
  exact ⟨by simp, HB7.out⟩
end Go.Proofs.YtgjjmbiihbepeaaDoor

namespace Go.Proofs.YtgjjmbiihbepeaaDoor
open Go.RowKit Go.Shelf

theorem nfaUnions_anyL (st : Bool) (xs : List ItemP) (o : Option Addr) (cap : Nat) (a b c : Int) (ha : In64K a) (hb : In64K b) (L : xs.length ≤ cap) (w : World) (aP aS : Addr) (hQ : GlobH w aP aS) (A : ItsInQ w o xs) :
    Calls Tryd.prog 6 #[patV st o xs.length cap, .int .i64 a, .int .i64 b, .int .i64 c] w fun e w' => e = .returned (.bool true) ∧ Below w.heap.size w w' := by
  have hA := A.1.take 12
  have h12 : (xs.take 12).length ≤ 1000000 := by rw [List.length_take]; omega
  have S : ∀ s W, Below w.heap.size w W → Calls Tryd.prog 14 #[patV st o (xs.take 12).length cap, .int .i64 s, .int .i64 c] W fun e w' => e = .returned (.tuple #[.int .i64 (stepA st (xs.take 12) s c), .int .i64 (numA (knowA (xs.take 12) s))]) ∧ Below W.heap.size W w' := fun s W hB => Step_anyH st o (xs.take 12) cap s c h12 W aP aS (hQ.below hB) (hA.below hB)
  have D : ∀ s W, Below w.heap.size w W → Calls Tryd.prog 16 #[patV st o (xs.take 12).length cap, .int .i64 s] W fun e w' => e = .returned (.bool (knowA (xs.take 12) s && doneS (xs.take 12) s.toNat)) ∧ Below W.heap.size W w' := fun s W hB => Done_anyH st o (xs.take 12) cap s h12 W aP aS (hQ.below hB) (hA.below hB)
  have pos : knowA (xs.take 12) (orZ a b) = true → 0 ≤ a ∧ 0 ≤ b := fun h => orZ_pos ha hb (knowA_nat h).2.1
  have S1 := S a
  have S2 := S b
  have S3 := S (orZ a b)
  cases ka : knowA (xs.take 12) a with
  | true =>
    cases kb : knowA (xs.take 12) b with
    | true =>
      obtain ⟨hr, a0, a1, a2⟩ := knowA_nat ka
      obtain ⟨_, b0, b1, b2⟩ := knowA_nat kb
      have hw := rightB_how hr
      have ez : orZ a b = ((a.toNat ||| b.toNat : Nat) : Int) := by
        have := orZ_nat a.toNat b.toNat a2 b2
        rwa [Int.toNat_of_nonneg a0, Int.toNat_of_nonneg b0] at this
      have kz : knowA (xs.take 12) (orZ a b) = true := by rw [ez]; exact knowA_of hr (Nat.or_lt_two_pow a1 b1)
      have D1 := D a
      have D2 := D b
      have D3 := D (orZ a b)
      have dz : doneS (xs.take 12) (orZ a b).toNat = (doneS (xs.take 12) a.toNat || doneS (xs.take 12) b.toNat) := by rw [ez, Int.toNat_natCast, done_union]
      rw [kz, Bool.true_and, dz] at D3
      rw [ka, Bool.true_and] at D1
      rw [kb, Bool.true_and] at D2
      rw [ka] at S1
      rw [kb] at S2
      rw [kz] at S3
      have s32 : ∀ x, stepS (xs.take 12) st c x < 2 ^ 32 := fun x => Nat.lt_of_lt_of_le (step_lt hw) (Nat.pow_le_pow_right (by decide) (by have := (rightB_parts hr).2.1; omega))
      have hsz : orZ (stepA st (xs.take 12) a c) (stepA st (xs.take 12) b c) = stepA st (xs.take 12) (orZ a b) c := by
        unfold stepA
        rw [if_pos ka, if_pos kb, if_pos kz, orZ_nat _ _ (s32 _) (s32 _), ez, Int.toNat_natCast, step_union hw]
      exact unions_both st o xs cap a b c L w aP aS hQ _ _ _ hsz _ _ S1 S2 S3 D1 D2 D3
    | false =>
      rw [ka] at S1
      rw [kb] at S2
      cases kz : knowA (xs.take 12) (orZ a b) with
      | true => rw [kz] at S3; exact unions_0_80_0 st o xs cap a b c L (pos kz).1 (pos kz).2 w aP aS hQ _ _ _ S1 S2 S3
      | false => rw [kz] at S3; exact unions_0_80_80 st o xs cap a b c L w aP aS hQ _ _ _ S1 S2 S3
  | false =>
    rw [ka] at S1
    cases kb : knowA (xs.take 12) b with
    | true =>
      rw [kb] at S2
      cases kz : knowA (xs.take 12) (orZ a b) with
      | true => rw [kz] at S3; exact unions_80_0_0 st o xs cap a b c L (pos kz).1 (pos kz).2 w aP aS hQ _ _ _ S1 S2 S3
      | false => rw [kz] at S3; exact unions_80_0_80 st o xs cap a b c L w aP aS hQ _ _ _ S1 S2 S3
    | false =>
      rw [kb] at S2
      cases kz : knowA (xs.take 12) (orZ a b) with
      | true => rw [kz] at S3; exact unions_80_80_0 st o xs cap a b c L (pos kz).1 (pos kz).2 w aP aS hQ _ _ _ S1 S2 S3
      | false => rw [kz] at S3; exact unions_80_80_80 st o xs cap a b c L w aP aS hQ _ _ _ S1 S2 S3
end Go.Proofs.YtgjjmbiihbepeaaDoor
