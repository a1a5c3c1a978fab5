/- with, not; Right, Has, Not; how many classes. -/
import Derived.Test.YtnpbbmoknlbfaaaGreatDoorKCore
import Derived.Test.YtnpbbmoknlbfaaaGreatDoorKBits
namespace Go.Proofs.YtnpbbmoknlbfaaaGreatDoor
open Go.RowKit Go.Shelf
attribute [local go_sem] Oper.semAt_some

theorem shlI {n : Nat} (h : n ≤ 32) : IntKind.i64.wrap (2 ^ min n 64) = ((2 ^ n : Nat) : Int) := by
  have h2 := two_32 h
  rw [show min n 64 = n by omega, show ((2 : Int) ^ n) = ((2 ^ n : Nat) : Int) by simp]
  obtain ⟨p, hp⟩ : ∃ p, 2 ^ n = p := ⟨_, rfl⟩
  rw [hp] at h2 ⊢
  rw [IntKind.wrap_i64]
  omega
theorem orK {x c : Nat} (hx : x < 2 ^ 32) (hc : c < 32) : bits .or .i64 ((x : Nat) : Int) ((2 ^ c : Nat) : Int) = ((x ||| 2 ^ c : Nat) : Int) :=
  (bits_nat .i64 32 (by decide) (fun n h0 h1 => by rw [IntKind.wrap_i64]; omega) x (2 ^ c) hx (Nat.pow_lt_pow_right (by decide) hc)).2
theorem andNotK {x n : Nat} (hn : n ≤ 32) (hx : x < 2 ^ n) : bits .andNot .i64 ((2 ^ n - 1 : Nat) : Int) ((x : Nat) : Int) = ((notN n x : Nat) : Int) := by
  have hp : 2 ^ n ≤ 2 ^ 32 := Nat.pow_le_pow_right (by decide) hn
  have hp1 := two_pos n
  have h64 : (2 : Nat) ^ 32 < 2 ^ 64 := by decide
  have e : (BitVec.ofNat 64 (2 ^ n - 1) &&& ~~~ BitVec.ofNat 64 x).toNat = notN n x := by
    apply Nat.eq_of_testBit_eq
    intro i
    rw [notN_bit hx, BitVec.testBit_toNat, BitVec.getLsbD_and, BitVec.getLsbD_not, ← BitVec.testBit_toNat, ← BitVec.testBit_toNat, BitVec.toNat_ofNat, BitVec.toNat_ofNat, Nat.mod_eq_of_lt (show 2 ^ n - 1 < 2 ^ 64 by omega), Nat.mod_eq_of_lt (show x < 2 ^ 64 by omega), Nat.testBit_two_pow_sub_one]
    by_cases h : i < n
    · rw [decide_eq_true h, decide_eq_true (show i < 64 by omega), Bool.true_and]
    · rw [decide_eq_false h, Bool.false_and, Bool.false_and]
  show IntKind.i64.wrap ((BitVec.ofInt 64 ((2 ^ n - 1 : Nat) : Int) &&& ~~~ BitVec.ofInt 64 ((x : Nat) : Int)).toNat : Int) = _
  rw [BitVec.ofInt_natCast, BitVec.ofInt_natCast, e]
  have : notN n x < 2 ^ n := notN_lt
  rw [IntKind.wrap_i64]
  omega
set_option maxRecDepth 100000 in
set_option maxHeartbeats 2000000 in
theorem with_any (x n c : Nat) (hx : x < 2 ^ 32) (hc : c < 32) (w : World) : Calls Tryz.prog 81 #[.agg #[.int .i64 (x : Nat), .int .i64 (n : Nat)], .int .i64 (c : Nat)] w fun e w' => e = .returned (.agg #[.int .i64 ((x ||| 2 ^ c : Nat) : Int), .int .i64 (n : Nat)]) ∧ Below w.heap.size w w' := by
  have e1 := shlK (show c ≤ 32 by omega)
  have e1' := shlI (show c ≤ 32 by omega)
  have e2 := orK hx hc
  obtain ⟨p, hp⟩ : ∃ p, 2 ^ c = p := ⟨_, rfl⟩
  rw [hp] at e1 e1' e2 ⊢
  obtain ⟨r, hr⟩ : ∃ r, x ||| p = r := ⟨_, rfl⟩
  rw [hr] at e2 ⊢
  have r1 : ((w.alloc (.cells #[.int .i64 ((x : Nat) : Int), .int .i64 ((n : Nat) : Int)] 63)).alloc (.cells #[.int .i64 0, .int .i64 0] 63)).heap[w.heap.size]? = some (.cells #[.int .i64 ((x : Nat) : Int), .int .i64 ((n : Nat) : Int)] 63 (0, 0)) := by
    rw [Below.heap_alloc _ _ _ (by simp)]; exact heap_alloc_new _ _
  have r2 : ((w.alloc (.cells #[.int .i64 ((x : Nat) : Int), .int .i64 ((n : Nat) : Int)] 63)).alloc (.cells #[.int .i64 0, .int .i64 0] 63)).heap[w.heap.size + 1]? = some (.cells #[.int .i64 0, .int .i64 0] 63 (0, 0)) := by
    have := heap_alloc_new (w.alloc (.cells #[.int .i64 ((x : Nat) : Int), .int .i64 ((n : Nat) : Int)] 63)) (.cells #[.int .i64 0, .int .i64 0] 63)
    rwa [World.size_alloc] at this
  have A0 : Below w.heap.size w ((w.alloc (.cells #[.int .i64 ((x : Nat) : Int), .int .i64 ((n : Nat) : Int)] 63)).alloc (.cells #[.int .i64 0, .int .i64 0] 63)) := ((Below.refl _ _).alloc (Nat.le_refl _) _).alloc (by simp) _
  obtain ⟨W0, hW0⟩ : ∃ W0, (w.alloc (.cells #[.int .i64 ((x : Nat) : Int), .int .i64 ((n : Nat) : Int)] 63)).alloc (.cells #[.int .i64 0, .int .i64 0] 63) = W0 := ⟨_, rfl⟩
  rw [hW0] at r1 r2 A0
  have HW := Lib.hid hW0
  have B0 := Lib.hid A0
  have R2 := Lib.hid r2
  have c0 := cell_of_row _ _ 0 _ _ _ r1
  have c1 := cell_of_row _ _ 1 _ _ _ r1
  have d0 := cell_of_row _ _ 0 _ _ _ r2
  have d1 := cell_of_row _ _ 1 _ _ _ r2
  have f0 : W0.frozen? ⟨w.heap.size + 1, 0, none⟩ = false := frozen_of_row _ _ _ _ _ r2
  have f1 : W0.frozen? ⟨w.heap.size + 1, 1, none⟩ = false := frozen_of_row _ _ _ _ _ r2
  simp only [List.getElem?_toArray, List.getElem?_cons_zero, List.getElem?_cons_succ] at c0 c1 d0 d1
  clear r1 r2 A0 hW0 hp hr hx hc
  go_enter Tryz.func81, Tryz.ntmps81
  go_wp2_with fail
  rw [HW.out]
  go_still_tail 8, (by kernel_rfl)
  change wpList _ _ _ _ _ W0.drew
  go_wp2_with fail
  refine bodyPost_ret (v := .agg #[.int .i64 ((r : Nat) : Int), .int .i64 ((n : Nat) : Int)]) ?_ rfl ⟨rfl, ?_⟩
  · refine results_set rfl _ _ (w.heap.size + 1) (setC ((r : Nat) : Int) ((n : Nat) : Int)) rfl rfl ?_
    exact heap_setCell_same _ _ 1 _ _ (.int .i64 ((n : Nat) : Int)) (heap_setCell_same W0 _ 0 _ _ (.int .i64 ((r : Nat) : Int)) R2.out)
  · exact (Moves.below (S := fun k => k = w.heap.size + 1) B0.out B0.out.size ((Moves.setCell (S := fun k => k = w.heap.size + 1) (a := ⟨w.heap.size + 1, 0, none⟩) rfl).trans (Moves.setCell (S := fun k => k = w.heap.size + 1) (a := ⟨w.heap.size + 1, 1, none⟩) rfl)) (fun k h => by omega)).drew
set_option maxRecDepth 100000 in
set_option maxHeartbeats 2000000 in
theorem not_anyK (x n : Nat) (hn : n ≤ 32) (hx : x < 2 ^ n) (w : World) : Calls Tryz.prog 60 #[.agg #[.int .i64 (x : Nat), .int .i64 (n : Nat)]] w fun e w' => e = .returned (.agg #[.int .i64 ((notN n x : Nat) : Int), .int .i64 (n : Nat)]) ∧ Below w.heap.size w w' := by
  have e2 := andNotK hn hx
  have C0 := fun W => Lib.hid (whole_any n hn W)
  obtain ⟨p, hp⟩ : ∃ p, 2 ^ n - 1 = p := ⟨_, rfl⟩
  rw [hp] at e2
  simp only [hp] at C0
  obtain ⟨r, hr⟩ : ∃ r, notN n x = r := ⟨_, rfl⟩
  rw [hr] at e2 ⊢
  have r1 : ((w.alloc (.cells #[.int .i64 ((x : Nat) : Int), .int .i64 ((n : Nat) : Int)] 63)).alloc (.cells #[.int .i64 0, .int .i64 0] 63)).heap[w.heap.size]? = some (.cells #[.int .i64 ((x : Nat) : Int), .int .i64 ((n : Nat) : Int)] 63 (0, 0)) := by
    rw [Below.heap_alloc _ _ _ (by simp)]; exact heap_alloc_new _ _
  have r2 : ((w.alloc (.cells #[.int .i64 ((x : Nat) : Int), .int .i64 ((n : Nat) : Int)] 63)).alloc (.cells #[.int .i64 0, .int .i64 0] 63)).heap[w.heap.size + 1]? = some (.cells #[.int .i64 0, .int .i64 0] 63 (0, 0)) := by
    have := heap_alloc_new (w.alloc (.cells #[.int .i64 ((x : Nat) : Int), .int .i64 ((n : Nat) : Int)] 63)) (.cells #[.int .i64 0, .int .i64 0] 63)
    rwa [World.size_alloc] at this
  have A0 : Below w.heap.size w ((w.alloc (.cells #[.int .i64 ((x : Nat) : Int), .int .i64 ((n : Nat) : Int)] 63)).alloc (.cells #[.int .i64 0, .int .i64 0] 63)) := ((Below.refl _ _).alloc (Nat.le_refl _) _).alloc (by simp) _
  obtain ⟨W0, hW0⟩ : ∃ W0, (w.alloc (.cells #[.int .i64 ((x : Nat) : Int), .int .i64 ((n : Nat) : Int)] 63)).alloc (.cells #[.int .i64 0, .int .i64 0] 63) = W0 := ⟨_, rfl⟩
  rw [hW0] at r1 r2 A0
  have HW := Lib.hid hW0
  have B0 := Lib.hid A0
  have R2 := Lib.hid r2
  have c0 : W0.cell? ⟨w.heap.size, 0, none⟩ = some (.int .i64 ((x : Nat) : Int)) := cell_of_row _ _ 0 _ _ _ r1
  have c1 : W0.cell? ⟨w.heap.size, 1, none⟩ = some (.int .i64 ((n : Nat) : Int)) := cell_of_row _ _ 1 _ _ _ r1
  have d0 : W0.cell? ⟨w.heap.size + 1, 0, none⟩ = some (.int .i64 0) := cell_of_row _ _ 0 _ _ _ r2
  have d1 : W0.cell? ⟨w.heap.size + 1, 1, none⟩ = some (.int .i64 0) := cell_of_row _ _ 1 _ _ _ r2
  have f0 : W0.frozen? ⟨w.heap.size + 1, 0, none⟩ = false := frozen_of_row _ _ _ _ _ r2
  have f1 : W0.frozen? ⟨w.heap.size + 1, 1, none⟩ = false := frozen_of_row _ _ _ _ _ r2
  have HC : Hid (Calls Tryz.prog 83 #[.int .i64 (n : Nat)] W0.drew fun e W => e = .returned (.agg #[.int .i64 ((p : Nat) : Int), .int .i64 (n : Nat)]) ∧ W.heap[w.heap.size]? = some (.cells #[.int .i64 ((x : Nat) : Int), .int .i64 ((n : Nat) : Int)] 63 (0, 0)) ∧ W.heap[w.heap.size + 1]? = some (.cells #[.int .i64 0, .int .i64 0] 63 (0, 0)) ∧ Below w.heap.size w W ∧
      W.cell? ⟨w.heap.size, 0, none⟩ = some (.int .i64 ((x : Nat) : Int)) ∧ W.cell? ⟨w.heap.size, 1, none⟩ = some (.int .i64 ((n : Nat) : Int)) ∧ W.cell? ⟨w.heap.size + 1, 0, none⟩ = some (.int .i64 0) ∧ W.cell? ⟨w.heap.size + 1, 1, none⟩ = some (.int .i64 0) ∧ W.frozen? ⟨w.heap.size + 1, 0, none⟩ = false ∧ W.frozen? ⟨w.heap.size + 1, 1, none⟩ = false) := by
    refine Lib.hid (((C0 _).out).mono fun e W h => ?_)
    have hb : Below W0.heap.size W0 W := ((Below.refl _ W0).drew).trans (h.2.mono (Nat.le_refl _))
    have q1 := row_below r1 hb
    have q2 := row_below r2 hb
    exact ⟨h.1, q1, q2, A0.trans (hb.mono A0.size), cell_of_row _ _ 0 _ _ _ q1, cell_of_row _ _ 1 _ _ _ q1, cell_of_row _ _ 0 _ _ _ q2, cell_of_row _ _ 1 _ _ _ q2, frozen_of_row _ _ _ _ _ q2, frozen_of_row _ _ _ _ _ q2⟩
  clear r1 r2 A0 hW0 hp hr hx C0
  go_enter Tryz.func60, Tryz.ntmps60
  go_wp2_with fail
  rw [HW.out]
  go_region_with (go_at_call 83; refine HC.out.mono ?_; rintro e w2 ⟨rfl, q1, q2, b2, k0, k1, k2, k3, k4, k5⟩)
  all_goals
    go_wp2_with fail
    refine bodyPost_ret (v := .agg #[.int .i64 ((r : Nat) : Int), .int .i64 ((n : Nat) : Int)]) ?_ rfl ⟨rfl, ?_⟩
    · refine results_set rfl _ _ (w.heap.size + 1) (setC ((r : Nat) : Int) ((n : Nat) : Int)) rfl rfl ?_
      exact heap_setCell_same _ _ 1 _ _ (.int .i64 ((n : Nat) : Int)) (heap_setCell_same w2 _ 0 _ _ (.int .i64 ((r : Nat) : Int)) q2)
    · exact (Moves.below (S := fun k => k = w.heap.size + 1) b2 b2.size ((Moves.setCell (S := fun k => k = w.heap.size + 1) (a := ⟨w.heap.size + 1, 0, none⟩) rfl).trans (Moves.setCell (S := fun k => k = w.heap.size + 1) (a := ⟨w.heap.size + 1, 1, none⟩) rfl)) (fun k h => by omega))
end Go.Proofs.YtnpbbmoknlbfaaaGreatDoor
