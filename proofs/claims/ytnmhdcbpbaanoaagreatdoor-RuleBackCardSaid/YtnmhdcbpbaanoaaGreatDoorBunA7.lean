/- with, not; Right, Has, Not; how many classes. Right, Has, Not; how many classes. each: the function that goes through a set's classes; what Collect makes of it; Classes. Collect over the classes of a set; Classes. A range over a function whose iterator may lay blocks of its own, or range over another one: the law of the statement. X: the iterator's blocks so far. Items in memory; rows of items that the call owns. -/
import Derived.Test.YtnmhdcbpbaanoaaGreatDoorBunA6
import Derived.Test.YtnmhdcbpbaanoaaGreatDoorBunA1
import Derived.Test.YtnmhdcbpbaanoaaGreatDoorBunA5
import Derived.Maps.AppendAt
import Derived.Deep.MidRow
namespace Go.Proofs.YtnmhdcbpbaanoaaGreatDoor
open Go.RowKit Go.Shelf
attribute [local go_sem] Oper.semAt_some

theorem shlI {n : Nat} (h : n ≤ 32) : IntKind.i64.wrap (2 ^ min n 64) = ((2 ^ n : Nat) : Int) := by
  have h2 := two_32 h
  rw [show min n 64 = n by omega, show ((2 : Int) ^ n) = ((2 ^ n : Nat) : Int) by simp]
  obtain ⟨p, hp⟩ : ∃ p, 2 ^ n = p := ⟨_, rfl⟩
  rw [hp] at h2 ⊢
  rw [IntKind.wrap_i64]
  omega
theorem orK {x c : Nat} (hx : x < 2 ^ 32) (hc : c < 32) : bits .or .i64 ((x : Nat) : Int) ((2 ^ c : Nat) : Int) = ((x ||| 2 ^ c : Nat) : Int) :=
  (bits_nat .i64 32 (by decide) (fun n h0 h1 => by rw [IntKind.wrap_i64]; omega) x (2 ^ c) hx (Nat.pow_lt_pow_right (by decide) hc)).2
theorem andNotK {x n : Nat} (hn : n ≤ 32) (hx : x < 2 ^ n) : bits .andNot .i64 ((2 ^ n - 1 : Nat) : Int) ((x : Nat) : Int) = ((notN n x : Nat) : Int) := by
  have hp : 2 ^ n ≤ 2 ^ 32 := Nat.pow_le_pow_right (by decide) hn
  have hp1 := two_pos n
  have h64 : (2 : Nat) ^ 32 < 2 ^ 64 := by decide
  have e : (BitVec.ofNat 64 (2 ^ n - 1) &&& ~~~ BitVec.ofNat 64 x).toNat = notN n x := by
    apply Nat.eq_of_testBit_eq
    intro i
    rw [notN_bit hx, BitVec.testBit_toNat, BitVec.getLsbD_and, BitVec.getLsbD_not, ← BitVec.testBit_toNat, ← BitVec.testBit_toNat, BitVec.toNat_ofNat, BitVec.toNat_ofNat, Nat.mod_eq_of_lt (show 2 ^ n - 1 < 2 ^ 64 by omega), Nat.mod_eq_of_lt (show x < 2 ^ 64 by omega), Nat.testBit_two_pow_sub_one]
    by_cases h : i < n
    · rw [decide_eq_true h, decide_eq_true (show i < 64 by omega), Bool.true_and]
    · rw [decide_eq_false h, Bool.false_and, Bool.false_and]
  show IntKind.i64.wrap ((BitVec.ofInt 64 ((2 ^ n - 1 : Nat) : Int) &&& ~~~ BitVec.ofInt 64 ((x : Nat) : Int)).toNat : Int) = _
  rw [BitVec.ofInt_natCast, BitVec.ofInt_natCast, e]
  have : notN n x < 2 ^ n := notN_lt
  rw [IntKind.wrap_i64]
  omega
set_option maxRecDepth 100000 in
set_option maxHeartbeats 2000000 in
theorem with_any (x n c : Nat) (hx : x < 2 ^ 32) (hc : c < 32) (w : World) : Calls Tryz.prog 197 #[.agg #[.int .i64 (x : Nat), .int .i64 (n : Nat)], .int .i64 (c : Nat)] w fun e w' => e = .returned (.agg #[.int .i64 ((x ||| 2 ^ c : Nat) : Int), .int .i64 (n : Nat)]) ∧ Below w.heap.size w w' := by
  have e1 := shlK (show c ≤ 32 by omega)
  have e1' := shlI (show c ≤ 32 by omega)
  have e2 := orK hx hc
  obtain ⟨p, hp⟩ : ∃ p, 2 ^ c = p := ⟨_, rfl⟩
  rw [hp] at e1 e1' e2 ⊢
  obtain ⟨r, hr⟩ : ∃ r, x ||| p = r := ⟨_, rfl⟩
  rw [hr] at e2 ⊢
  have r1 : ((w.alloc (.cells #[.int .i64 ((x : Nat) : Int), .int .i64 ((n : Nat) : Int)] 180)).alloc (.cells #[.int .i64 0, .int .i64 0] 180)).heap[w.heap.size]? = some (.cells #[.int .i64 ((x : Nat) : Int), .int .i64 ((n : Nat) : Int)] 180 (0, 0)) := by
    rw [Below.heap_alloc _ _ _ (by simp)]; exact heap_alloc_new _ _
  have r2 : ((w.alloc (.cells #[.int .i64 ((x : Nat) : Int), .int .i64 ((n : Nat) : Int)] 180)).alloc (.cells #[.int .i64 0, .int .i64 0] 180)).heap[w.heap.size + 1]? = some (.cells #[.int .i64 0, .int .i64 0] 180 (0, 0)) := by
    have := heap_alloc_new (w.alloc (.cells #[.int .i64 ((x : Nat) : Int), .int .i64 ((n : Nat) : Int)] 180)) (.cells #[.int .i64 0, .int .i64 0] 180)
    rwa [World.size_alloc] at this
  have A0 : Below w.heap.size w ((w.alloc (.cells #[.int .i64 ((x : Nat) : Int), .int .i64 ((n : Nat) : Int)] 180)).alloc (.cells #[.int .i64 0, .int .i64 0] 180)) := ((Below.refl _ _).alloc (Nat.le_refl _) _).alloc (by simp) _
  obtain ⟨W0, hW0⟩ : ∃ W0, (w.alloc (.cells #[.int .i64 ((x : Nat) : Int), .int .i64 ((n : Nat) : Int)] 180)).alloc (.cells #[.int .i64 0, .int .i64 0] 180) = W0 := ⟨_, rfl⟩
  rw [hW0] at r1 r2 A0
  have HW := Lib.hid hW0
  have B0 := Lib.hid A0
  have R2 := Lib.hid r2
  have c0 := cell_of_row _ _ 0 _ _ _ r1
  have c1 := cell_of_row _ _ 1 _ _ _ r1
  have d0 := cell_of_row _ _ 0 _ _ _ r2
  have d1 := cell_of_row _ _ 1 _ _ _ r2
  have f0 : W0.frozen? ⟨w.heap.size + 1, 0, none⟩ = false := frozen_of_row _ _ _ _ _ r2
  have f1 : W0.frozen? ⟨w.heap.size + 1, 1, none⟩ = false := frozen_of_row _ _ _ _ _ r2
  simp only [List.getElem?_toArray, List.getElem?_cons_zero, List.getElem?_cons_succ] at c0 c1 d0 d1
  clear r1 r2 A0 hW0 hp hr hx hc
  go_enter Tryz.func197, Tryz.ntmps197
  go_wp2_with fail
  rw [HW.out]
  go_still_tail 8, (by kernel_rfl)
  change wpList _ _ _ _ _ W0.drew
  go_wp2_with fail
  refine bodyPost_ret (v := .agg #[.int .i64 ((r : Nat) : Int), .int .i64 ((n : Nat) : Int)]) ?_ rfl ⟨rfl, ?_⟩
  · refine results_set rfl _ _ (w.heap.size + 1) (setC ((r : Nat) : Int) ((n : Nat) : Int)) rfl rfl ?_
    exact heap_setCell_same _ _ 1 _ _ (.int .i64 ((n : Nat) : Int)) (heap_setCell_same W0 _ 0 _ _ (.int .i64 ((r : Nat) : Int)) R2.out)
  · exact (Moves.below (S := fun k => k = w.heap.size + 1) B0.out B0.out.size ((Moves.setCell (S := fun k => k = w.heap.size + 1) (a := ⟨w.heap.size + 1, 0, none⟩) rfl).trans (Moves.setCell (S := fun k => k = w.heap.size + 1) (a := ⟨w.heap.size + 1, 1, none⟩) rfl)) (fun k h => by omega)).drew
set_option maxRecDepth 100000 in
set_option maxHeartbeats 2000000 in
theorem not_anyK (x n : Nat) (hn : n ≤ 32) (hx : x < 2 ^ n) (w : World) : Calls Tryz.prog 176 #[.agg #[.int .i64 (x : Nat), .int .i64 (n : Nat)]] w fun e w' => e = .returned (.agg #[.int .i64 ((notN n x : Nat) : Int), .int .i64 (n : Nat)]) ∧ Below w.heap.size w w' := by
  have e2 := andNotK hn hx
  have C0 := fun W => Lib.hid (whole_any n hn W)
  obtain ⟨p, hp⟩ : ∃ p, 2 ^ n - 1 = p := ⟨_, rfl⟩
  rw [hp] at e2
  simp only [hp] at C0
  obtain ⟨r, hr⟩ : ∃ r, notN n x = r := ⟨_, rfl⟩
  rw [hr] at e2 ⊢
  have r1 : ((w.alloc (.cells #[.int .i64 ((x : Nat) : Int), .int .i64 ((n : Nat) : Int)] 180)).alloc (.cells #[.int .i64 0, .int .i64 0] 180)).heap[w.heap.size]? = some (.cells #[.int .i64 ((x : Nat) : Int), .int .i64 ((n : Nat) : Int)] 180 (0, 0)) := by
    rw [Below.heap_alloc _ _ _ (by simp)]; exact heap_alloc_new _ _
  have r2 : ((w.alloc (.cells #[.int .i64 ((x : Nat) : Int), .int .i64 ((n : Nat) : Int)] 180)).alloc (.cells #[.int .i64 0, .int .i64 0] 180)).heap[w.heap.size + 1]? = some (.cells #[.int .i64 0, .int .i64 0] 180 (0, 0)) := by
    have := heap_alloc_new (w.alloc (.cells #[.int .i64 ((x : Nat) : Int), .int .i64 ((n : Nat) : Int)] 180)) (.cells #[.int .i64 0, .int .i64 0] 180)
    rwa [World.size_alloc] at this
  have A0 : Below w.heap.size w ((w.alloc (.cells #[.int .i64 ((x : Nat) : Int), .int .i64 ((n : Nat) : Int)] 180)).alloc (.cells #[.int .i64 0, .int .i64 0] 180)) := ((Below.refl _ _).alloc (Nat.le_refl _) _).alloc (by simp) _
  obtain ⟨W0, hW0⟩ : ∃ W0, (w.alloc (.cells #[.int .i64 ((x : Nat) : Int), .int .i64 ((n : Nat) : Int)] 180)).alloc (.cells #[.int .i64 0, .int .i64 0] 180) = W0 := ⟨_, rfl⟩
  rw [hW0] at r1 r2 A0
  have HW := Lib.hid hW0
  have B0 := Lib.hid A0
  have R2 := Lib.hid r2
  have c0 : W0.cell? ⟨w.heap.size, 0, none⟩ = some (.int .i64 ((x : Nat) : Int)) := cell_of_row _ _ 0 _ _ _ r1
  have c1 : W0.cell? ⟨w.heap.size, 1, none⟩ = some (.int .i64 ((n : Nat) : Int)) := cell_of_row _ _ 1 _ _ _ r1
  have d0 : W0.cell? ⟨w.heap.size + 1, 0, none⟩ = some (.int .i64 0) := cell_of_row _ _ 0 _ _ _ r2
  have d1 : W0.cell? ⟨w.heap.size + 1, 1, none⟩ = some (.int .i64 0) := cell_of_row _ _ 1 _ _ _ r2
  have f0 : W0.frozen? ⟨w.heap.size + 1, 0, none⟩ = false := frozen_of_row _ _ _ _ _ r2
  have f1 : W0.frozen? ⟨w.heap.size + 1, 1, none⟩ = false := frozen_of_row _ _ _ _ _ r2
  have HC : Hid (Calls Tryz.prog 130 #[.int .i64 (n : Nat)] W0.drew fun e W => e = .returned (.agg #[.int .i64 ((p : Nat) : Int), .int .i64 (n : Nat)]) ∧ W.heap[w.heap.size]? = some (.cells #[.int .i64 ((x : Nat) : Int), .int .i64 ((n : Nat) : Int)] 180 (0, 0)) ∧ W.heap[w.heap.size + 1]? = some (.cells #[.int .i64 0, .int .i64 0] 180 (0, 0)) ∧ Below w.heap.size w W ∧
      W.cell? ⟨w.heap.size, 0, none⟩ = some (.int .i64 ((x : Nat) : Int)) ∧ W.cell? ⟨w.heap.size, 1, none⟩ = some (.int .i64 ((n : Nat) : Int)) ∧ W.cell? ⟨w.heap.size + 1, 0, none⟩ = some (.int .i64 0) ∧ W.cell? ⟨w.heap.size + 1, 1, none⟩ = some (.int .i64 0) ∧ W.frozen? ⟨w.heap.size + 1, 0, none⟩ = false ∧ W.frozen? ⟨w.heap.size + 1, 1, none⟩ = false) := by
    refine Lib.hid (((C0 _).out).mono fun e W h => ?_)
    have hb : Below W0.heap.size W0 W := ((Below.refl _ W0).drew).trans (h.2.mono (Nat.le_refl _))
    have q1 := row_below r1 hb
    have q2 := row_below r2 hb
    exact ⟨h.1, q1, q2, A0.trans (hb.mono A0.size), cell_of_row _ _ 0 _ _ _ q1, cell_of_row _ _ 1 _ _ _ q1, cell_of_row _ _ 0 _ _ _ q2, cell_of_row _ _ 1 _ _ _ q2, frozen_of_row _ _ _ _ _ q2, frozen_of_row _ _ _ _ _ q2⟩
  clear r1 r2 A0 hW0 hp hr hx C0
  go_enter Tryz.func176, Tryz.ntmps176
  go_wp2_with fail
  rw [HW.out]
  go_region_with (go_at_call 130; refine HC.out.mono ?_; rintro e w2 ⟨rfl, q1, q2, b2, k0, k1, k2, k3, k4, k5⟩)
  all_goals
    go_wp2_with fail
    refine bodyPost_ret (v := .agg #[.int .i64 ((r : Nat) : Int), .int .i64 ((n : Nat) : Int)]) ?_ rfl ⟨rfl, ?_⟩
    · refine results_set rfl _ _ (w.heap.size + 1) (setC ((r : Nat) : Int) ((n : Nat) : Int)) rfl rfl ?_
      exact heap_setCell_same _ _ 1 _ _ (.int .i64 ((n : Nat) : Int)) (heap_setCell_same w2 _ 0 _ _ (.int .i64 ((r : Nat) : Int)) q2)
    · exact (Moves.below (S := fun k => k = w.heap.size + 1) b2 b2.size ((Moves.setCell (S := fun k => k = w.heap.size + 1) (a := ⟨w.heap.size + 1, 0, none⟩) rfl).trans (Moves.setCell (S := fun k => k = w.heap.size + 1) (a := ⟨w.heap.size + 1, 1, none⟩) rfl)) (fun k h => by omega))
end Go.Proofs.YtnmhdcbpbaanoaaGreatDoor

namespace Go.Proofs.YtnmhdcbpbaanoaaGreatDoor
open Go.RowKit Go.Shelf
attribute [local go_sem] Oper.semAt_some

set_option maxHeartbeats 1000000 in
theorem Right_anyK (s n : Int) (w : World) : Calls Tryz.prog 78 #[.int .i64 s, .int .i64 n] w fun e w' => e = .returned (.bool (rightZ s n)) ∧ Below w.heap.size w w' := by
  have H := Lib.hid (fun W => right_anyK s n W)
  go_enter Tryz.func78, Tryz.ntmps78
  go_wp2_with fail
  refine (H.out _).mono ?_
  rintro e w2 ⟨rfl, b2⟩
  go_wp2
  go_ret
  exact ⟨rfl, b2⟩
set_option maxHeartbeats 1000000 in
theorem Has_anyK (s c : Int) (w : World) : Calls Tryz.prog 133 #[.int .i64 s, .int .i64 c] w fun e w' => e = .returned (.bool (hasZ s c)) ∧ Below w.heap.size w w' := by
  have H := Lib.hid (fun W => right_anyK s 32 W)
  cases hr : rightZ s 32 with
  | true =>
    obtain ⟨x, m, rfl, hm, _, _, hx⟩ := rightZ_of hr
    have h32 : m = 32 := by omega
    subst h32
    have K : Hid (∀ W, Calls Tryz.prog 142 #[.agg #[.int .i64 (x : Nat), .int .i64 32], .int .i64 c] W fun e w' => e = .returned (.bool (decide (0 ≤ c ∧ c < 32) && x.testBit c.toNat)) ∧ Below W.heap.size W w') := Lib.hid (fun W => has_anyK x 32 hx (by omega) c W)
    rw [hasZ_nat hx]
    rw [hr] at H
    obtain ⟨b, hb⟩ : ∃ b, (decide (0 ≤ c ∧ c < 32) && x.testBit c.toNat) = b := ⟨_, rfl⟩
    rw [hb] at K ⊢
    clear hr hx hb hm
    have A0 : Below w.heap.size w (w.alloc (.cells #[.int .i64 ((x : Nat) : Int), .int .i64 32] 180)) := (Below.refl _ _).alloc (Nat.le_refl _) _
    have r0 : (w.alloc (.cells #[.int .i64 ((x : Nat) : Int), .int .i64 32] 180)).heap[w.heap.size]? = some (.cells #[.int .i64 ((x : Nat) : Int), .int .i64 32] 180 (0, 0)) := heap_alloc_new _ _
    have HA := Lib.hid A0
    have R0 := Lib.hid r0
    clear A0 r0
    go_enter Tryz.func133, Tryz.ntmps133
    go_wp2_with fail
    refine (H.out _).mono ?_
    rintro e w2 ⟨rfl, b2⟩
    have r2 := row_below R0.out b2
    have B2 := Lib.hid (HA.out.trans (b2.mono HA.out.size))
    obtain ⟨k0, k1⟩ := row_cells r2
    clear b2 r2
    go_wp2_with fail
    refine (K.out _).mono ?_
    rintro e w3 ⟨rfl, b3⟩
    go_wp2
    go_ret
    exact ⟨rfl, B2.out.trans (b3.mono B2.out.size)⟩
  | false =>
    rw [hr] at H
    have e0 : hasZ s c = false := by unfold hasZ; rw [hr]; rfl
    rw [e0]
    have A0 : Below w.heap.size w (w.alloc (.cells #[.int .i64 s, .int .i64 32] 180)) := (Below.refl _ _).alloc (Nat.le_refl _) _
    have HA := Lib.hid A0
    clear A0 e0 hr
    go_enter Tryz.func133, Tryz.ntmps133
    go_wp2_with fail
    refine (H.out _).mono ?_
    rintro e w2 ⟨rfl, b2⟩
    go_wp2
    go_ret
    exact ⟨rfl, HA.out.trans (b2.mono HA.out.size)⟩
theorem andU {a b : Nat} (ha : a < 2 ^ 63) (hb : b < 2 ^ 63) : bits .and .u64 ((a : Nat) : Int) ((b : Nat) : Int) = ((a &&& b : Nat) : Int) :=
  (bits_nat .u64 63 (by decide) (fun n h0 h1 => by rw [IntKind.wrap_u64]; omega) a b ha hb).1
theorem wrapU {n : Nat} (h : n < 2 ^ 63) : IntKind.u64.wrap ((n : Nat) : Int) = ((n : Nat) : Int) := by rw [IntKind.wrap_u64]; omega
theorem and127 {n : Nat} (h : n < 2 ^ 32) : bits .and .i64 ((n : Nat) : Int) 127 = ((n % 128 : Nat) : Int) := by
  have := bits_mask .i64 32 (by decide) (fun n h0 h1 => by rw [IntKind.wrap_i64]; omega) 7 (by decide) ((n : Nat) : Int) (Int.natCast_nonneg _) (by exact_mod_cast h)
  rw [show ((2 : Int) ^ 7 - 1) = 127 from rfl] at this
  rw [this]
  simp
theorem wrapI {n : Nat} (h : n < 2 ^ 32) : IntKind.i64.wrap ((n : Nat) : Int) = ((n : Nat) : Int) := by rw [IntKind.wrap_i64]; omega
theorem wrapW {n : Nat} (h : n < 2 ^ 32) : wrap64 ((n : Nat) : Int) = ((n : Nat) : Int) := by unfold wrap64; omega
theorem lt63 {n : Nat} (h : n < 2 ^ 32) : n < 2 ^ 63 := Nat.lt_trans h (by decide)
theorem half_lt {n m : Nat} (h : n < 2 ^ 32) : n / m < 2 ^ 63 := lt63 (Nat.lt_of_le_of_lt (Nat.div_le_self _ _) h)
theorem castA {a b c : Nat} (h : a + b = c) : ((a : Nat) : Int) + ((b : Nat) : Int) = ((c : Nat) : Int) := by omega
theorem cast16 {a c : Nat} (h : a / 16 + a = c) : ((a : Nat) : Int) / 16 + ((a : Nat) : Int) = ((c : Nat) : Int) := by omega
theorem cast256 {a c : Nat} (h : c = a + a / 256) : ((a : Nat) : Int) + ((a : Nat) : Int) / 256 = ((c : Nat) : Int) := by omega
theorem cast65536 {a c : Nat} (h : c = a + a / 65536) : ((a : Nat) : Int) + ((a : Nat) : Int) / 65536 = ((c : Nat) : Int) := by omega
theorem castTop {a : Nat} (h : a / 2 ^ 32 = 0) : ((a : Nat) : Int) + ((a : Nat) : Int) / 4294967296 = ((a : Nat) : Int) := by omega
theorem litA : ((mA : Nat) : Int) = 6148914691236517205 := by decide
theorem litB : ((mB : Nat) : Int) = 3689348814741910323 := by decide
theorem litC2 : ((mC : Nat) : Int) = 1085102592571150095 := by decide
theorem andA {x : Nat} (h : x < 2 ^ 63) : bits .and .u64 ((x : Nat) : Int) 6148914691236517205 = ((x &&& mA : Nat) : Int) := by rw [← litA]; exact andU h (by decide)
theorem andB {x : Nat} (h : x < 2 ^ 63) : bits .and .u64 ((x : Nat) : Int) 3689348814741910323 = ((x &&& mB : Nat) : Int) := by rw [← litB]; exact andU h (by decide)
theorem andC {x : Nat} (h : x < 2 ^ 63) : bits .and .u64 ((x : Nat) : Int) 1085102592571150095 = ((x &&& mC : Nat) : Int) := by rw [← litC2]; exact andU h (by decide)
set_option maxHeartbeats 2000000 in
theorem ones_any (x : Nat) (hx : x < 2 ^ 32) (w : World) : Calls Tryz.prog 185 #[.int .u64 (x : Nat)] w fun e w' => e = .returned (.int .i64 ((classesN 32 x).length : Nat)) ∧ w = w' := by
  obtain ⟨p, q, r, s, hp, hq, hr, hs, h3, hl, l1, l2⟩ := ones_three hx
  obtain ⟨y3, hy3⟩ : ∃ y, pC mC (pB mB (pA mA x)) = y := ⟨_, rfl⟩
  obtain ⟨z4, z5, h4, h5, m3, m4, m5, h6, h7⟩ := ones_last hp hq hr hs (hy3.symm.trans h3)
  rw [hl, ← h7]
  clear h3 hl hp hq hr hs h7 p q r s
  obtain ⟨y1, hy1⟩ : ∃ y, pA mA x = y := ⟨_, rfl⟩
  rw [hy1] at hy3 l1 l2
  obtain ⟨y2, hy2⟩ : ∃ y, pB mB y1 = y := ⟨_, rfl⟩
  rw [hy2] at hy3 l2
  obtain ⟨a1, ha1⟩ : ∃ y, x / 2 &&& mA = y := ⟨_, rfl⟩
  obtain ⟨a2, ha2⟩ : ∃ y, x &&& mA = y := ⟨_, rfl⟩
  obtain ⟨b1, hb1⟩ : ∃ y, y1 / 4 &&& mB = y := ⟨_, rfl⟩
  obtain ⟨b2, hb2⟩ : ∃ y, y1 &&& mB = y := ⟨_, rfl⟩
  have g1 : bits .and .u64 (((x : Nat) : Int) / 2) 6148914691236517205 = ((a1 : Nat) : Int) := by rw [← ha1]; exact andA (x := x / 2) (half_lt hx)
  have g2 : bits .and .u64 ((x : Nat) : Int) 6148914691236517205 = ((a2 : Nat) : Int) := by rw [← ha2]; exact andA (lt63 hx)
  have s1 : ((a1 : Nat) : Int) + ((a2 : Nat) : Int) = ((y1 : Nat) : Int) := castA (by rw [← hy1, ← ha1, ← ha2]; rfl)
  have g3 : IntKind.u64.wrap ((y1 : Nat) : Int) = ((y1 : Nat) : Int) := wrapU (lt63 l1)
  have g4 : bits .and .u64 (((y1 : Nat) : Int) / 4) 3689348814741910323 = ((b1 : Nat) : Int) := by rw [← hb1]; exact andB (x := y1 / 4) (half_lt l1)
  have g5 : bits .and .u64 ((y1 : Nat) : Int) 3689348814741910323 = ((b2 : Nat) : Int) := by rw [← hb2]; exact andB (lt63 l1)
  have s2 : ((b1 : Nat) : Int) + ((b2 : Nat) : Int) = ((y2 : Nat) : Int) := castA (by rw [← hy2, ← hb1, ← hb2]; rfl)
  have g6 : IntKind.u64.wrap ((y2 : Nat) : Int) = ((y2 : Nat) : Int) := wrapU (lt63 l2)
  obtain ⟨t2, ht2⟩ : ∃ t, y2 / 16 + y2 = t := ⟨_, rfl⟩
  have s3 : ((y2 : Nat) : Int) / 16 + ((y2 : Nat) : Int) = ((t2 : Nat) : Int) := cast16 ht2
  have lt2 : t2 < 2 ^ 63 := by clear g1 g2 g3 g4 g5 g6 s1 s2 s3 h4 h5 m3 m4 m5 h6; omega
  have g7 : IntKind.u64.wrap ((t2 : Nat) : Int) = ((t2 : Nat) : Int) := wrapU lt2
  have g8 : bits .and .u64 ((t2 : Nat) : Int) 1085102592571150095 = ((y3 : Nat) : Int) := by rw [← hy3, ← ht2]; exact andC (by rw [ht2]; exact lt2)
  have s4 : ((y3 : Nat) : Int) + ((y3 : Nat) : Int) / 256 = ((z4 : Nat) : Int) := cast256 h4
  have g9 : IntKind.u64.wrap ((z4 : Nat) : Int) = ((z4 : Nat) : Int) := wrapU (Nat.lt_trans m4 (by decide))
  have s5 : ((z4 : Nat) : Int) + ((z4 : Nat) : Int) / 65536 = ((z5 : Nat) : Int) := cast65536 h5
  have g10 : IntKind.u64.wrap ((z5 : Nat) : Int) = ((z5 : Nat) : Int) := wrapU (Nat.lt_trans m5 (by decide))
  have s6 : ((z5 : Nat) : Int) + ((z5 : Nat) : Int) / 4294967296 = ((z5 : Nat) : Int) := castTop h6
  have m6 : z5 < 2 ^ 32 := Nat.lt_trans m5 (by decide)
  have g11 : wrap64 ((z5 : Nat) : Int) = ((z5 : Nat) : Int) := wrapW m6
  have g12 := and127 m6
  have g13 : IntKind.i64.wrap ((z5 : Nat) : Int) = ((z5 : Nat) : Int) := wrapI m6
  clear m6 lt2
  clear hy1 hy2 hy3 ha1 ha2 hb1 hb2 ht2 l1 l2 m3 m4 m5 h4 h5 h6 hx
  go_enter Tryz.func185, Tryz.ntmps185
  go_wp2_with fail
  go_ret
  exact ⟨rfl, rfl⟩
set_option maxHeartbeats 1000000 in
theorem count_any (x n : Nat) (hn : n ≤ 32) (hx : x < 2 ^ n) (w : World) : Calls Tryz.prog 174 #[.agg #[.int .i64 (x : Nat), .int .i64 (n : Nat)]] w fun e w' => e = .returned (.int .i64 ((classesN n x).length : Nat)) ∧ Below w.heap.size w w' := by
  have hx2 : x < 2 ^ 32 := Nat.lt_of_lt_of_le hx (Nat.pow_le_pow_right (by decide) hn)
  have H := Lib.hid (fun W => ones_any x hx2 W)
  rw [classesN_32 hx hn] at H
  have g : IntKind.u64.wrap ((x : Nat) : Int) = ((x : Nat) : Int) := wrapU (by omega)
  obtain ⟨k, hk⟩ : ∃ k, (classesN n x).length = k := ⟨_, rfl⟩
  rw [hk] at H ⊢
  clear hx hx2 hk
  have A0 : Below w.heap.size w (w.alloc (.cells #[.int .i64 ((x : Nat) : Int), .int .i64 ((n : Nat) : Int)] 180)) := (Below.refl _ _).alloc (Nat.le_refl _) _
  have HA := Lib.hid A0
  clear A0
  go_enter Tryz.func174, Tryz.ntmps174
  go_wp2_with fail
  refine (H.out _).mono ?_
  rintro e w2 ⟨rfl, rfl⟩
  go_wp2
  go_ret
  exact ⟨rfl, HA.out⟩
end Go.Proofs.YtnmhdcbpbaanoaaGreatDoor

namespace Go.Proofs.YtnmhdcbpbaanoaaGreatDoor
open Go.RowKit Go.Shelf
attribute [local go_sem] Oper.semAt_some

abbrev encC (c : Nat) : Array Value := #[.int .i64 (c : Nat)]
theorem classesN_prefix {x : Nat} : ∀ {j n : Nat}, j ≤ n → classesN j x <+: classesN n x := by
  intro j n h
  obtain ⟨k, rfl⟩ := Nat.exists_eq_add_of_le h
  clear h
  induction k with
  | zero => exact List.prefix_rfl
  | succ k ih => rw [← Nat.add_assoc, classesN_snoc]; exact ih.trans (List.prefix_append _ _)
theorem classesN_one {x j n : Nat} (hj : j < n) (h : x.testBit j = true) : classesN j x ++ [j] <+: classesN n x := by
  have := classesN_prefix (x := x) (show j + 1 ≤ n by omega)
  rwa [classesN_snoc, if_pos h] at this
theorem each_any (x n : Int) (w : World) : Calls Tryz.prog 186 #[.agg #[.int .i64 x, .int .i64 n]] w fun e w' => e = .returned (.func (.func 190) #[] #[.pointer (some ⟨w.heap.size, 0, none⟩)]) ∧ w.alloc (.cells #[.int .i64 x, .int .i64 n] 180) = w' := by
  go_enter Tryz.func186, Tryz.ntmps186
  go_wp2
  go_ret
  exact ⟨rfl, rfl⟩
set_option maxRecDepth 100000 in
set_option maxHeartbeats 2000000 in
theorem seqEach {B x n : Nat} {w : World} (hn : n ≤ 32) (hx : x < 2 ^ 32) (hB : w.heap[B]? = some (.cells #[.int .i64 (x : Nat), .int .i64 (n : Nat)] 180 (0, 0))) :
    SeqOf Tryz.prog 4 190 #[.pointer (some ⟨B, 0, none⟩)] encC (fun _ => False) (fun k => k = B) (classesN n x) w := by
  intro W l S J Jx hm hS1 hS2 hJ hY h0
  have h1 : 1 ≤ 4 := by omega
  have hBW := row_keep hB hm id
  obtain ⟨c0, c1⟩ := row_cells hBW
  refine callsIn_of_wp Tryz.func190 rfl trivial ?_ rfl
  simp only [Tryz.ntmps190, List.size_toArray, List.length_cons, List.length_nil, Nat.reduceAdd, Nat.reduceSub, Array.replicate_succ, Array.replicate_zero, List.push_toArray, List.append_toArray, List.nil_append, List.cons_append]
  have HJ := Lib.hid hJ
  have HY := Lib.hid hY
  have HX := Lib.hid hx
  have HB := Lib.hid hBW
  have HS1 := Lib.hid hS1
  clear hJ hY hm hB hS1 hS2 hx hBW
  gi_wp2
  gi_loopg [6] n (fun k v wr => ∃ j : Nat, v = .int .i64 (j : Nat) ∧ j ≤ n ∧ k = n - j ∧ J (classesN j x) wr ∧ Hid (wr.heap[B]? = some (.cells #[.int .i64 (x : Nat), .int .i64 (n : Nat)] 180 (0, 0))))
  case atStart => exact ⟨0, rfl, Nat.zero_le _, rfl, h0, HB⟩
  case round =>
    obtain ⟨j, rfl, hj, rfl, hJ', hBr⟩ := hrel
    obtain ⟨k0, k1⟩ := row_cells hBr.out
    rcases Nat.lt_or_ge j n with hlt | hge
    · have hj1 : j < 1000000 := by omega
      have HH := Lib.hid (fun W => has_anyK x n HX.out hn ((j : Nat) : Int) W)
      rw [decide_eq_true (show (0 : Int) ≤ ((j : Nat) : Int) ∧ ((j : Nat) : Int) < ((n : Nat) : Int) by omega), Bool.true_and, Int.toNat_natCast] at HH
      cases hb : x.testBit j with
      | false =>
        have hs : classesN (j + 1) x = classesN j x := by rw [classesN_snoc, hb]; simp
        rw [hb] at HH
        clear hb
        gi_wp2_with fail
        refine ⟨trivial, (callsIn_wide.2 (HH.out _)).mono ?_⟩
        rintro e w2 ⟨rfl, b2⟩
        have hJ2 := HJ.out _ _ _ hJ' (Moves.of_below b2)
        have hB2 : Hid (w2.heap[B]? = some (.cells #[.int .i64 (x : Nat), .int .i64 (n : Nat)] 180 (0, 0))) := Lib.hid (row_below hBr.out b2)
        clear b2 HH
        gi_wp2
        refine ⟨by simp, ?_⟩
        gi_wp2
        gi_roundg (n - (j + 1))
        case measure => omega
        case rel => exact ⟨j + 1, by simp, by omega, rfl, by rw [hs]; exact hJ2, hB2⟩
      | true =>
        have hs : classesN (j + 1) x = classesN j x ++ [j] := by rw [classesN_snoc, hb]; simp
        have hpx := Lib.hid (classesN_one hlt hb)
        rw [hb] at HH
        clear hb
        gi_wp2_with fail
        refine ⟨trivial, (callsIn_wide.2 (HH.out _)).mono ?_⟩
        rintro e w2 ⟨rfl, b2⟩
        have hJ2 := HJ.out _ _ _ hJ' (Moves.of_below b2)
        have hB2 : w2.heap[B]? = some (.cells #[.int .i64 (x : Nat), .int .i64 (n : Nat)] 180 (0, 0)) := row_below hBr.out b2
        have HB2 := Lib.hid hB2
        obtain ⟨fn, tmps, assign, body, hy, hR⟩ := HY.out _ _ _ hpx.out hJ2
        replace hy : (Instr.yield l #[.int .i64 (j : Nat)]).run Tryz.prog w2 = .ok (.round l fn tmps assign body) w2 := hy
        have HJ2 := Lib.hid hJ2
        clear b2 HH hB2 hJ2
        gi_wp2
        refine hR.mono ?_
        rintro e w3 (⟨rfl, hJ4, hk4⟩ | ⟨rfl, hJx4⟩)
        · have hB3 : Hid (w3.heap[B]? = some (.cells #[.int .i64 (x : Nat), .int .i64 (n : Nat)] 180 (0, 0))) := Lib.hid (row_keep HB2.out hk4 (fun h => (HS1.out _ _ _ HJ2.out h).2 rfl))
          clear hk4
          gi_wp2
          gi_roundg (n - (j + 1))
          case measure => omega
          case rel => exact ⟨j + 1, by simp, by omega, rfl, by rw [hs]; exact hJ4, hB3⟩
        · gi_wp2
          refine bodyPost_ret (results_none rfl _ _ _) rfl ?_
          exact ⟨⟨_, rfl⟩, .inr ⟨_, hpx.out, hJx4⟩⟩
    · obtain rfl : j = n := by omega
      gi_wp2
      go_end0
      exact ⟨⟨_, rfl⟩, .inl hJ'⟩
end Go.Proofs.YtnmhdcbpbaanoaaGreatDoor

namespace Go.Proofs.YtnmhdcbpbaanoaaGreatDoor
open Go.RowKit Go.Shelf Go.Maps
attribute [local go_sem] Oper.semAt_some
attribute [local go_sem ↓] app_hide

theorem code_ownK {W : World} {base k : Nat} {v : Value} {xs : List Value} (q : Nat) (ho : W.ownsRow base 3 1 v k xs) (hk : k ≤ 2000000) (hbase : base ≤ W.heap.size) :
    ∃ g cap w6, (appSem #[23, 23] 23 #[v, .slice (some ⟨W.heap.size, 0, none⟩) 1 1]).run Tryz.prog (W.alloc (.cells #[.int .i64 (q : Nat)] 3)) = .ok (.slice (some ⟨g, 0, none⟩) (k + 1) cap) w6 ∧
      w6.ownsRow base 3 1 (.slice (some ⟨g, 0, none⟩) (k + 1) cap) (k + 1) (xs ++ [intC q]) ∧ (W.alloc (.cells #[.int .i64 (q : Nat)] 3)).grownBy w6 v.ownBlock := by
  obtain ⟨i0, hi, hz0, hz1, hz2⟩ := info_parts infoInt
  have hb : Below W.heap.size W (W.alloc (.cells #[.int .i64 (q : Nat)] 3)) := (Below.refl _ _).alloc (Nat.le_refl _) _
  obtain ⟨v', w6, hr, h2, h3, h4⟩ := run_append_own (P := Tryz.prog) _ base 23 23 3 i0 (.int .i64 0) 1 8 Tryz.underlying23 hi hz0 hz1 hz2 rfl (by decide) v k xs (own_below ho hb) ⟨W.heap.size, 0, none⟩ 1 1 [intC q] rfl
    (cell_one_new _ _ _) (by simp [Value.oneCell']) (by unfold maxLen; omega) (by omega) (by simp; omega)
  obtain ⟨g, cap, rfl⟩ := ownsRow_succ h2
  exact ⟨g, cap, w6, hr, h2, h3⟩
/-- What Collect answers of a set's classes: a row of its own. -/
def ColPost (l : List Nat) (w : World) (e : Ending) (w' : World) : Prop := ∃ v, e = .returned v ∧ w'.ownsRow w.heap.size 3 1 v l.length (l.map intC) ∧ Below w.heap.size w w'
theorem row_placeK {w : World} {base n cap : Nat} {o : Option Addr} {t : TypeId} {size : Nat} {cs : List Value} (ho : w.ownsRow base t size (.slice o n cap) n cs) (hn : 0 < n) : ∃ g, o = some ⟨g, 0, none⟩ ∧ ∀ i u, cs[i]? = some u → w.cell? ⟨g, i, none⟩ = some u := by
  rcases ho.2 with ⟨hv, h0⟩ | ⟨g, cap', cur, hv, _⟩
  · omega
  · cases hv
    refine ⟨g, rfl, fun i u hu => ?_⟩
    have := ho.cells (g := g) rfl i u hu
    have hadd : (⟨g, 0, none⟩ : Addr).add i = ⟨g, i, none⟩ := by unfold Addr.add; split <;> simp_all
    rwa [hadd] at this
/-- Where a list of numbers stands. -/
def NumsAt (w : World) (o : Option Addr) (l : List Int) : Prop := 0 < l.length → ∃ g off, o = some ⟨g, off, none⟩ ∧ ∀ (j : Nat) (x : Int), l[j]? = some x → w.cell? ⟨g, off + j, none⟩ = some (.int .i64 x)
theorem NumsAt.below {w w' : World} {o : Option Addr} {l : List Int} (h : NumsAt w o l) (hb : Below w.heap.size w w') : NumsAt w' o l := fun hn => by
  obtain ⟨g, off, ho, hc⟩ := h hn
  exact ⟨g, off, ho, fun j x hx => cell_keep hb (hc j x hx)⟩
theorem nums_own {w : World} {base cap : Nat} {o : Option Addr} {l : List Nat} (h : w.ownsRow base 3 1 (.slice o l.length cap) l.length (l.map intC)) : NumsAt w o (l.map fun c => ((c : Nat) : Int)) := fun hn => by
  rw [List.length_map] at hn
  obtain ⟨g, ho, hc⟩ := row_placeK h hn
  refine ⟨g, 0, ho, fun j x hx => ?_⟩
  rw [List.getElem?_map] at hx
  obtain ⟨y, hy, rfl⟩ := Option.map_eq_some_iff.1 hx
  have := hc j (intC y) (by rw [List.getElem?_map, hy]; rfl)
  rw [Nat.zero_add]
  exact this
end Go.Proofs.YtnmhdcbpbaanoaaGreatDoor

namespace Go.Proofs.YtnmhdcbpbaanoaaGreatDoor
open Go.RowKit Go.Shelf
attribute [local go_sem] Oper.semAt_some

/-- THE CONTRACT OF A FUNCTION THAT YIELDS all, one by one. The iterator turns its own blocks alone (X: at first Ow, then what it has laid as well); a round turns none of these, and none of Dep. -/
def SeqOfX {α : Type} (P : Program) (n : Nat) (f : Nat) (lb : Array Value) (encs : α → Array Value) (Ow Dep : Nat → Prop) (all : List α) (w : World) : Prop :=
  ∀ (W : World) (l : Nat) (J Jx : (Nat → Prop) → List α → World → Prop), Moves (fun _ => False) w W →
    (∀ X X' xs A B, J X xs A → Moves X A B → (∀ k, X' k → (X k ∨ A.heap.size ≤ k) ∧ k < B.heap.size) → J X' xs B) →
    (∀ X X' xs A B, Jx X xs A → Moves X A B → (∀ k, X' k → (X k ∨ A.heap.size ≤ k) ∧ k < B.heap.size) → Jx X' xs B) →
    (∀ X xs x A, xs ++ [x] <+: all → J X xs A → YieldAt Fence.wide (n - 1) P l (encs x) A fun e A' => (e = .returned (.bool true) ∧ J X (xs ++ [x]) A' ∧ Moves (fun k => ¬ X k ∧ ¬ Dep k) A A') ∨ (e = .returned (.bool false) ∧ Jx X (xs ++ [x]) A' ∧ Moves (fun k => ¬ X k ∧ ¬ Dep k) A A')) →
    J Ow [] W →
    CallsIn Fence.wide n P f (#[.func (.yield l) #[] #[]] ++ lb) W fun e W' => (∃ v, e = .returned v) ∧ ∃ X, (J X all W' ∨ ∃ xs, xs <+: all ∧ Jx X xs W')

theorem roundIn_any {m m' : Nat} {P : Program} {l : Nat} {f : FuncId} {tmps : Array Value} {assign body : Code} {w : World} {R : Ending → World → Prop}
    (h : RoundIn Fence.wide m P l f tmps assign body w R) : RoundIn Fence.wide m' P l f tmps assign body w R := ⟨h.1, fun c cs _ => h.2 c cs (room_wide _)⟩
theorem yieldAt_any {m : Nat} (m' : Nat) {P : Program} {l : Nat} {args : Array Value} {W : World} {R : Ending → World → Prop} (h : YieldAt Fence.wide m P l args W R) : YieldAt Fence.wide m' P l args W R := by
  obtain ⟨fn, tmps, assign, body, hy, hR⟩ := h
  exact ⟨fn, tmps, assign, body, hy, roundIn_any hR⟩

/-- How the body of a round may be left. -/
def seqEndX {α : Type} (Dep X : Nat → Prop) (I : (Nat → Prop) → List α → World → Prop) (Ix : Code → (Nat → Prop) → List α → World → Prop) (xs : List α) (W : World) : Exit → Act → World → Prop
  | .normal, _, W' => Moves (fun k => ¬ X k ∧ ¬ Dep k) W W' ∧ I X xs W'
  | .ret, _, W' => Moves (fun k => ¬ X k ∧ ¬ Dep k) W W' ∧ Ix .ret X xs W'
  | .exit id, _, W' => Moves (fun k => ¬ X k ∧ ¬ Dep k) W W' ∧ Ix (.exit id) X xs W'
  | .goto t, _, W' => Moves (fun k => ¬ X k ∧ ¬ Dep k) W W' ∧ Ix (.goto t) X xs W'
  | .panic _, _, _ => False
  | .outgrown, _, _ => False
/-- The iterator's blocks, and the two of the statement's book-keeping. -/
abbrev BookX (X : Nat → Prop) (n : Nat) (k : Nat) : Prop := X k ∨ k = n ∨ k = n + 1
set_option maxHeartbeats 1000000 in
theorem wpIn_seqX {α : Type} {P : Program} {n : Nat} {f : Nat} {lb : Array Value} {encs : α → Array Value} {Ow Dep : Nat → Prop} {all : List α} {g : Operand} {ps : Array Tmp} {assign body : Code} {Q : Exit → Act → World → Prop} {a : Act} {w : World} (hn : 4 ≤ n)
    (hg : a.eval g = .func (.func f) #[] lb) (henter : ∀ args w, (callFunc f args).run P w = .ok (.enter f args) w) (hps : ∀ x, (encs x).size = ps.size) (hs : SeqOfX P (n - 1) f lb encs Ow Dep all w)
    (hOw : ∀ k, Ow k → k < w.heap.size) (hDep : ∀ k, Dep k → k < w.heap.size)
    (I : (Nat → Prop) → List α → World → Prop) (Ix : Code → (Nat → Prop) → List α → World → Prop)
    (hI : ∀ X X' xs A B, I X xs A → Moves X A B → (∀ k, X' k → (X k ∨ A.heap.size ≤ k) ∧ k < B.heap.size) → I X' xs B)
    (hIx : ∀ c X X' xs A B, Ix c X xs A → Moves X A B → (∀ k, X' k → (X k ∨ A.heap.size ≤ k) ∧ k < B.heap.size) → Ix c X' xs B) (h0 : I Ow [] w)
    (a₁ : Nat → α → Act) (G : World → α → World → Prop) (hG : ∀ A x B, G A x B → Moves (fun _ => False) A B)
    (hassign : ∀ (l : Nat) (x : α) (A : World) (K : Act → World → Prop), (∀ B, G A x B → K (a₁ A.heap.size x) B) →
      assign.wpIn (Fence.wide.inRound l) (n - 1 - 1) P (Exit.then K (fun _ _ _ => False)) { tmps := (ps.zip (encs x)).foldl (fun t (p, v) => t.setIfInBounds p v) a.tmps, defers := [] } A)
    (hbody : ∀ (l : Nat) (X : Nat → Prop) (pre : List α) (x : α) (A B W : World), w.heap.size + 2 ≤ A.heap.size → pre ++ [x] <+: all → G A x B → Moves (fun k => k = w.heap.size + 1) B W → X w.heap.size → X (w.heap.size + 1) → (∀ k, X k → k < A.heap.size) → I X pre W →
      body.wpIn (Fence.wide.inRound l) (n - 1 - 1) P (seqEndX Dep X I Ix (pre ++ [x]) W) (a₁ A.heap.size x) W)
    (hdone : ∀ (X : Nat → Prop) (D : Nat) (W : World), w.heap.size ≤ D → X D → I X all W → (∀ k, X k → k < W.heap.size) → W.heap[D]? = some (.deferred (some [])) → Q .normal { a with defers := { target := .collected D, args := #[] } :: a.defers } W)
    (hstop : ∀ (X : Nat → Prop) (D : Nat) (c : Code) (pre : List α) (W : World), w.heap.size ≤ D → X D → pre <+: all → Ix c X pre W → (∀ k, X k → k < W.heap.size) → W.heap[D]? = some (.deferred (some [])) →
      c.wpIn Fence.wide n P Q { a with defers := { target := .collected D, args := #[] } :: a.defers } W) :
    (Code.rangeFunc g ps assign body).wpIn Fence.wide n P Q a w := by
  refine wpIn_rangeFunc ?_
  intro fn hfn
  obtain ⟨rec, hrec⟩ : ∃ rec : LoopState → Option Code → Loop, rec = fun st pe => { state := st, pending := pe, fn, tmps := a.tmps, params := ps, assign, body, defers := w.heap.size } := ⟨_, rfl⟩
  obtain ⟨W1, hW1⟩ : ∃ W1, (w.alloc (.deferred (some []))).alloc (.loop (rec .ready none)) = W1 := ⟨_, rfl⟩
  have hL1 : W1.heap[w.heap.size + 1]? = some (.loop (rec .ready none)) := by
    rw [← hW1]; have := World.alloc_heap_new (w.alloc (.deferred (some []))) (.loop (rec .ready none)); rwa [World.size_alloc] at this
  have hK1 : W1.heap[w.heap.size]? = some (.deferred (some [])) := by
    rw [← hW1]; exact (Below.heap_alloc _ _ _ (by simp)).trans (World.alloc_heap_new w _)
  have hb1 : Below w.heap.size w W1 := by
    rw [← hW1]; exact ((Below.refl _ w).alloc (Nat.le_refl _) _).alloc (by simp) _
  have hz1 : W1.heap.size = w.heap.size + 2 := by rw [← hW1]; simp
  have hOl : ∀ k, w.heap.size ≤ k → ¬ Ow k := fun k hk h => by have := hOw k h; omega
  have hI1 : I (BookX Ow w.heap.size) [] W1 := hI _ _ _ _ _ h0 (Moves.of_below hb1) (by
    rintro k (h | h)
    · have := hOw _ h; exact ⟨.inl h, by omega⟩
    · exact ⟨.inr (by omega), by omega⟩)
  have keep : ∀ {S : Nat → Prop} {A B : World} {k : Nat} {o : Obj}, Moves S A B → ¬ S k → A.heap[k]? = some o → B.heap[k]? = some o := fun hm hk h => (hm.block _ (Array.getElem?_eq_some_iff.1 h).1 hk).trans h
  have put : ∀ {X : Nat → Prop} {A : World} {k : Nat} {o : Obj}, k = w.heap.size ∨ k = w.heap.size + 1 → Moves (BookX X w.heap.size) A (A.putObj k o) := fun hk => Moves.putObj (.inr hk)
  refine ⟨w.heap.size + 1, [{ target := .collected w.heap.size, args := #[] }], W1, { target := .fn (.func f) lb, args := #[.func (.yield (w.heap.size + 1)) #[] #[]] }, W1, f,
    #[.func (.yield (w.heap.size + 1)) #[] #[]] ++ lb, W1, ?_, ?_, ?_, ?_, fun _ => by omega, ?_⟩
  · rw [← hW1, hrec]; exact run_enterLoop_outer _ _ _ _ _
  · simp only [resolve, hg]
    simp [go_sem]
  · intro f' hf'; exact trivial
  · simp [invoke, go_sem, henter]
  · refine (hs W1 (w.heap.size + 1)
      (fun X pre W => I (BookX X w.heap.size) pre W ∧ W.heap[w.heap.size + 1]? = some (.loop (rec .ready none)) ∧ W.heap[w.heap.size]? = some (.deferred (some [])) ∧ ¬ X w.heap.size ∧ ¬ X (w.heap.size + 1) ∧ ∀ k, X k → k < W.heap.size)
      (fun X pre W => ∃ c, Ix c (BookX X w.heap.size) pre W ∧ W.heap[w.heap.size + 1]? = some (.loop (rec .done (some c))) ∧ W.heap[w.heap.size]? = some (.deferred (some [])) ∧ ¬ X w.heap.size ∧ ¬ X (w.heap.size + 1) ∧ ∀ k, X k → k < W.heap.size)
      (Moves.of_below hb1) ?_ ?_ ?_ ⟨hI1, hL1, hK1, hOl _ (Nat.le_refl _), hOl _ (by omega), fun k h => by have := hOw k h; omega⟩).mono ?_
    · rintro X X' xs A B ⟨hi, hl, hk, n1, n2, hX⟩ hm hX'
      have hlA := (Array.getElem?_eq_some_iff.1 hl).1
      refine ⟨hI _ _ _ _ _ hi (hm.mono fun k h => .inl h) ?_, keep hm n2 hl, keep hm n1 hk, fun h => ?_, fun h => ?_, fun k h => (hX' k h).2⟩
      · have := hm.size
        rintro k (h | h)
        · exact ⟨(hX' k h).1.imp .inl id, (hX' k h).2⟩
        · exact ⟨.inl (.inr h), by omega⟩
      · rcases (hX' _ h).1 with h | h
        · exact n1 h
        · omega
      · rcases (hX' _ h).1 with h | h
        · exact n2 h
        · omega
    · rintro X X' xs A B ⟨c, hi, hl, hk, n1, n2, hX⟩ hm hX'
      have hlA := (Array.getElem?_eq_some_iff.1 hl).1
      refine ⟨c, hIx _ _ _ _ _ _ hi (hm.mono fun k h => .inl h) ?_, keep hm n2 hl, keep hm n1 hk, fun h => ?_, fun h => ?_, fun k h => (hX' k h).2⟩
      · have := hm.size
        rintro k (h | h)
        · exact ⟨(hX' k h).1.imp .inl id, (hX' k h).2⟩
        · exact ⟨.inl (.inr h), by omega⟩
      · rcases (hX' _ h).1 with h | h
        · exact n1 h
        · omega
      · rcases (hX' _ h).1 with h | h
        · exact n2 h
        · omega
    · rintro X pre x W hpx ⟨hi, hl, hk, n1, n2, hX⟩
      have hlt1 : w.heap.size + 1 < W.heap.size := (Array.getElem?_eq_some_iff.1 hl).1
      have hy := run_yield (P := P) (args := encs x) hl (by rw [hrec]; exact hps x)
      rw [hrec] at hy
      refine ⟨fn, _, assign, body, hy, roundIn_of_wpIn hfn (hassign _ x W _ fun B hGB => ?_)⟩
      have hGm := hG _ _ _ hGB
      have hlB : B.heap[w.heap.size + 1]? = some (.loop (rec .ready none)) := keep hGm id hl
      have hkB : B.heap[w.heap.size]? = some (.deferred (some [])) := keep hGm id hk
      have hltB : w.heap.size + 1 < B.heap.size := (Array.getElem?_eq_some_iff.1 hlB).1
      refine ⟨_, run_beginRound hlB (by rw [hrec]), ?_⟩
      have hl2 : (B.putObj (w.heap.size + 1) (.loop { rec .ready none with state := .busy })).heap[w.heap.size + 1]? = some (.loop { rec .ready none with state := .busy }) := World.putObj_heap_same hltB
      have hk2 : (B.putObj (w.heap.size + 1) (.loop { rec .ready none with state := .busy })).heap[w.heap.size]? = some (.deferred (some [])) := (World.putObj_heap_other (by omega)).trans hkB
      have hw2 : Moves (fun k => k = w.heap.size + 1) W (B.putObj (w.heap.size + 1) (.loop { rec .ready none with state := .busy })) := (hGm.mono fun k h => h.elim).trans (Moves.putObj rfl)
      have hXb : ∀ k, BookX X w.heap.size k → k < W.heap.size := by
        rintro k (h | h)
        · exact hX k h
        · omega
      have hXs : ∀ {B' : World}, W.heap.size ≤ B'.heap.size → ∀ k, BookX X w.heap.size k → (BookX X w.heap.size k ∨ W.heap.size ≤ k) ∧ k < B'.heap.size := fun hz k h => ⟨.inl h, by have := hXb k h; omega⟩
      have hIB := hI _ _ _ _ _ hi (hw2.mono fun k h => .inr (.inr h)) (hXs hw2.size)
      refine wpIn_mono (hbody _ _ pre x W B _ (by omega) hpx hGB (Moves.putObj rfl) (.inr (.inl rfl)) (.inr (.inr rfl)) hXb hIB) ?_
      have fin : ∀ (jump : Option Code) (W3 : World), Moves (fun k => ¬ BookX X w.heap.size k ∧ ¬ Dep k) (B.putObj (w.heap.size + 1) (.loop { rec .ready none with state := .busy })) W3 →
          (Instr.endRound (w.heap.size + 1) jump).run P W3 = .ok (.bool jump.isNone) (W3.putObj (w.heap.size + 1) (.loop (rec (if jump.isNone then .ready else .done) jump))) ∧
          (W3.putObj (w.heap.size + 1) (.loop (rec (if jump.isNone then .ready else .done) jump))).heap[w.heap.size + 1]? = some (.loop (rec (if jump.isNone then .ready else .done) jump)) ∧
          (W3.putObj (w.heap.size + 1) (.loop (rec (if jump.isNone then .ready else .done) jump))).heap[w.heap.size]? = some (.deferred (some [])) ∧ W.heap.size ≤ W3.heap.size := fun jump W3 hk3 => by
        have hl3 := keep hk3 (fun h => h.1 (.inr (.inr rfl))) hl2
        have hz3 := hk3.size
        have hz2 := hw2.size
        have := run_endRound (P := P) jump hl3
        rw [hrec] at this ⊢
        exact ⟨this, World.putObj_heap_same (Array.getElem?_eq_some_iff.1 hl3).1, (World.putObj_heap_other (by omega)).trans (keep hk3 (fun h => h.1 (.inr (.inl rfl))) hk2), by omega⟩
      have hb2 : ∀ k, k = w.heap.size + 1 → ¬ X k ∧ ¬ Dep k := by
        rintro k rfl
        exact ⟨n2, fun h => by have := hDep _ h; omega⟩
      have all : ∀ {W3 : World} {o : Obj}, Moves (fun k => ¬ BookX X w.heap.size k ∧ ¬ Dep k) (B.putObj (w.heap.size + 1) (.loop { rec .ready none with state := .busy })) W3 → Moves (fun k => ¬ X k ∧ ¬ Dep k) W (W3.putObj (w.heap.size + 1) o) := fun hk3 => ((hw2.mono hb2).trans (hk3.mono fun k h => ⟨fun hx => h.1 (.inl hx), h.2⟩)).trans (Moves.putObj (hb2 _ rfl))
      have hXp : ∀ {W3 : World} {o : Obj}, W.heap.size ≤ W3.heap.size → ∀ k, BookX X w.heap.size k → (BookX X w.heap.size k ∨ W3.heap.size ≤ k) ∧ k < (W3.putObj (w.heap.size + 1) o).heap.size := fun hz k h => ⟨.inl h, by rw [World.putObj_size]; have := hXb k h; omega⟩
      have hXq : ∀ {W3 : World} {o : Obj}, W.heap.size ≤ W3.heap.size → ∀ k, X k → k < (W3.putObj (w.heap.size + 1) o).heap.size := fun hz k h => by rw [World.putObj_size]; have := hX k h; omega
      rintro e a3 W3 hp
      cases e with
      | normal =>
        obtain ⟨hk3, hi3⟩ := hp
        obtain ⟨hr, hl4, hk4, hz⟩ := fin none W3 hk3
        exact ⟨_, _, hr, .inl ⟨rfl, ⟨hI _ _ _ _ _ hi3 (put (.inr rfl)) (hXp hz), hl4, hk4, n1, n2, hXq hz⟩, all hk3⟩⟩
      | ret =>
        obtain ⟨hk3, hi3⟩ := hp
        obtain ⟨hr, hl4, hk4, hz⟩ := fin (some .ret) W3 hk3
        exact ⟨_, _, hr, .inr ⟨rfl, ⟨.ret, hIx _ _ _ _ _ _ hi3 (put (.inr rfl)) (hXp hz), hl4, hk4, n1, n2, hXq hz⟩, all hk3⟩⟩
      | exit id =>
        obtain ⟨hk3, hi3⟩ := hp
        obtain ⟨hr, hl4, hk4, hz⟩ := fin (some (.exit id)) W3 hk3
        exact ⟨_, _, hr, .inr ⟨rfl, ⟨.exit id, hIx _ _ _ _ _ _ hi3 (put (.inr rfl)) (hXp hz), hl4, hk4, n1, n2, hXq hz⟩, all hk3⟩⟩
      | goto t =>
        obtain ⟨hk3, hi3⟩ := hp
        obtain ⟨hr, hl4, hk4, hz⟩ := fin (some (.goto t)) W3 hk3
        exact ⟨_, _, hr, .inr ⟨rfl, ⟨.goto t, hIx _ _ _ _ _ _ hi3 (put (.inr rfl)) (hXp hz), hl4, hk4, n1, n2, hXq hz⟩, all hk3⟩⟩
      | panic ch => exact hp.elim
      | outgrown => exact hp.elim
    · rintro e W2 ⟨⟨v, rfl⟩, X, (⟨hi, hl, hk, n1, n2, hX⟩ | ⟨pre, hSp, c, hi, hl, hk, n1, n2, hX⟩)⟩
      · have hlt1 : w.heap.size + 1 < W2.heap.size := (Array.getElem?_eq_some_iff.1 hl).1
        have hXb : ∀ {o : Obj} k, BookX X w.heap.size k → k < (W2.putObj (w.heap.size + 1) o).heap.size := by
          rintro o k (h | h) <;> rw [World.putObj_size]
          · exact hX k h
          · omega
        exact ⟨none, _, by have := run_endLoop (P := P) hl (by rw [hrec]; simp); rw [hrec] at this; exact this, hdone (BookX X w.heap.size) _ _ (Nat.le_refl _) (.inr (.inl rfl)) (hI _ _ _ _ _ hi (put (.inr rfl)) (fun k h => ⟨.inl h, hXb k h⟩)) hXb ((World.putObj_heap_other (by omega)).trans hk)⟩
      · have hlt1 : w.heap.size + 1 < W2.heap.size := (Array.getElem?_eq_some_iff.1 hl).1
        have hXb : ∀ {o : Obj} k, BookX X w.heap.size k → k < (W2.putObj (w.heap.size + 1) o).heap.size := by
          rintro o k (h | h) <;> rw [World.putObj_size]
          · exact hX k h
          · omega
        exact ⟨some c, _, by have := run_endLoop (P := P) hl (by rw [hrec]; simp); rw [hrec] at this; exact this, hstop (BookX X w.heap.size) _ c pre _ (Nat.le_refl _) (.inr (.inl rfl)) hSp (hIx _ _ _ _ _ _ hi (put (.inr rfl)) (fun k h => ⟨.inl h, hXb k h⟩)) hXb ((World.putObj_heap_other (by omega)).trans hk)⟩
end Go.Proofs.YtnmhdcbpbaanoaaGreatDoor

namespace Go.Proofs.YtnmhdcbpbaanoaaGreatDoor
open Go.RowKit Go.Shelf Go.Maps
attribute [local go_sem] Oper.semAt_some

abbrev itC (x : ItemP) : Array Value := #[.int .i64 x.1, .int .i64 x.2]
abbrev itV (x : ItemP) : Value := .agg (itC x)
abbrev itO (x : ItemP) : Obj := .cells (itC x) 97 (0, 0)
def cellsI (l : List ItemP) : List Value := l.flatMap fun x => [.int .i64 x.1, .int .i64 x.2]
/-- The block of an address. -/
def inQ (o : Option Addr) (k : Nat) : Prop := ∃ a, o = some a ∧ a.block = k
/-- Where items stand. -/
def AtI (w : World) (o : Option Addr) (l : List ItemP) : Prop := 0 < l.length → ∃ g off, o = some ⟨g, off, none⟩ ∧ ∀ (j : Nat) (x : ItemP), l[j]? = some x →
  w.cell? ⟨g, off + j * 2, none⟩ = some (.int .i64 x.1) ∧ w.cell? ⟨g, off + j * 2 + 1, none⟩ = some (.int .i64 x.2)
theorem cell_movesQ {S : Nat → Prop} {w w' : World} {a : Addr} {v : Value} (hm : Moves S w w') (hs : ¬ S a.block) (h : w.cell? a = some v) : w'.cell? a = some v := by
  have hb := hm.block _ (World.block_lt_of_cell? w _ h) hs
  unfold World.cell? at h ⊢
  rw [hb]
  exact h
theorem cell_keepQ {w w' : World} {a : Addr} {v : Value} (hb : Below w.heap.size w w') (h : w.cell? a = some v) : w'.cell? a = some v :=
  (hb.cell (World.block_lt_of_cell? w _ h)).trans h
theorem AtI.moves {S : Nat → Prop} {w w' : World} {o : Option Addr} {l : List ItemP} (h : AtI w o l) (hm : Moves S w w') (hs : 0 < l.length → ∀ k, inQ o k → ¬ S k) : AtI w' o l := fun hn => by
  obtain ⟨g, off, rfl, hc⟩ := h hn
  have hg : ¬ S g := hs hn g ⟨_, rfl, rfl⟩
  refine ⟨g, off, rfl, fun j x hx => ?_⟩
  obtain ⟨h0, h1⟩ := hc j x hx
  exact ⟨cell_movesQ hm hg h0, cell_movesQ hm hg h1⟩
theorem AtI.lt {w : World} {o : Option Addr} {l : List ItemP} (h : AtI w o l) (hn : 0 < l.length) {k : Nat} (hk : inQ o k) : k < w.heap.size := by
  obtain ⟨g, off, rfl, hc⟩ := h hn
  obtain ⟨a, ha, rfl⟩ := hk
  cases ha
  exact World.block_lt_of_cell? w _ (hc 0 _ (List.getElem?_eq_getElem hn)).1
theorem AtI.below {w w' : World} {o : Option Addr} {l : List ItemP} (h : AtI w o l) (hb : Below w.heap.size w w') : AtI w' o l := fun hn => by
  obtain ⟨g, off, ho, hc⟩ := h hn
  refine ⟨g, off, ho, fun j x hx => ?_⟩
  obtain ⟨h0, h1⟩ := hc j x hx
  exact ⟨cell_keepQ hb h0, cell_keepQ hb h1⟩
theorem AtI.take {w : World} {o : Option Addr} {l : List ItemP} (h : AtI w o l) (n : Nat) : AtI w o (l.take n) := fun hn => by
  obtain ⟨g, off, ho, hc⟩ := h (by rw [List.length_take] at hn; omega)
  refine ⟨g, off, ho, fun j x hx => hc j x ?_⟩
  rw [List.getElem?_take] at hx
  split at hx
  · exact hx
  · cases hx
theorem NumsAt.moves {S : Nat → Prop} {w w' : World} {o : Option Addr} {l : List Int} (h : NumsAt w o l) (hm : Moves S w w') (hs : 0 < l.length → ∀ k, inQ o k → ¬ S k) : NumsAt w' o l := fun hn => by
  obtain ⟨g, off, rfl, hc⟩ := h hn
  have hg : ¬ S g := hs hn g ⟨_, rfl, rfl⟩
  exact ⟨g, off, rfl, fun j x hx => cell_movesQ hm hg (hc j x hx)⟩
theorem NumsAt.ltQ {w : World} {o : Option Addr} {l : List Int} (h : NumsAt w o l) (hn : 0 < l.length) {k : Nat} (hk : inQ o k) : k < w.heap.size := by
  obtain ⟨g, off, rfl, hc⟩ := h hn
  obtain ⟨a, ha, rfl⟩ := hk
  cases ha
  exact World.block_lt_of_cell? w _ (hc 0 _ (List.getElem?_eq_getElem hn))
theorem it_cells {w : World} {k : Nat} {x : ItemP} (h : w.heap[k]? = some (itO x)) :
    w.cell? ⟨k, 0, none⟩ = some (.int .i64 x.1) ∧ w.cell? ⟨k, 1, none⟩ = some (.int .i64 x.2) := by
  refine ⟨?_, ?_⟩
  · rw [cell_of_row _ _ 0 _ _ _ h]; rfl
  · rw [cell_of_row _ _ 1 _ _ _ h]; rfl
theorem cellsI_append (a b : List ItemP) : cellsI (a ++ b) = cellsI a ++ cellsI b := by unfold cellsI; rw [List.flatMap_append]
theorem cellsI_length : ∀ l : List ItemP, (cellsI l).length = l.length * 2
  | [] => rfl
  | x :: l => by
    have := cellsI_length l
    unfold cellsI at this ⊢
    rw [List.flatMap_cons, List.length_append, this]
    simp
    omega
theorem cellsI_one' (l : List ItemP) : ∀ u ∈ cellsI l, u.oneCell' = true := by
  intro u hu
  unfold cellsI at hu
  obtain ⟨x, _, hu⟩ := List.mem_flatMap.1 hu
  simp only [List.mem_cons, List.not_mem_nil, or_false] at hu
  rcases hu with rfl | rfl <;> rfl
theorem cellsI_get : ∀ {l : List ItemP} {j : Nat} {x : ItemP}, l[j]? = some x → (cellsI l)[j * 2]? = some (.int .i64 x.1) ∧ (cellsI l)[j * 2 + 1]? = some (.int .i64 x.2)
  | [], j, x, h => by simp at h
  | y :: l, 0, x, h => by
    obtain rfl : y = x := by simpa using h
    exact ⟨rfl, rfl⟩
  | y :: l, j + 1, x, h => by
    have := cellsI_get (l := l) (j := j) (x := x) (by simpa using h)
    unfold cellsI at this ⊢
    rw [List.flatMap_cons]
    rw [show (j + 1) * 2 = j * 2 + 2 from by omega]
    simpa using this
theorem addr_atQ (g i : Nat) : (⟨g, 0, none⟩ : Addr).add i = ⟨g, i, none⟩ := by unfold Addr.add; split <;> simp_all
theorem infoIt : (Tryz.prog.info? 97).map (fun i => (i.zero, i.size, i.bytes)) = some (some (itV (0, 0)), 2, 16) := by kernel_rfl
/-- Of an own row each item is at its place. -/
theorem at_ownI {w : World} {base : Nat} {o : Option Addr} {l : List ItemP} {cap : Nat} (h : w.ownsRow base 97 2 (.slice o l.length cap) l.length (cellsI l)) : AtI w o l := fun hn => by
  rcases h.2 with ⟨_, h0⟩ | ⟨g, cap', cur, e, _, hg, _, _, _, htake⟩
  · omega
  · obtain ⟨rfl, rfl⟩ : o = some ⟨g, 0, none⟩ ∧ cap = cap' := by simpa using e
    have key : ∀ i u, (cellsI l)[i]? = some u → w.cell? ⟨g, i, none⟩ = some u := fun i u hu => by
      rw [cell_of_row _ _ i _ _ _ hg]
      rw [← htake, List.getElem?_take] at hu
      split at hu
      · rwa [Array.getElem?_toList] at hu
      · cases hu
    refine ⟨g, 0, rfl, fun j x hx => ?_⟩
    obtain ⟨h0, h1⟩ := cellsI_get hx
    rw [Nat.zero_add]
    exact ⟨key _ _ h0, key _ _ h1⟩
/-- append of one item. -/
theorem it_own {W : World} {base k : Nat} {v : Value} {xs : List Value} (x : ItemP) (ho : W.ownsRow base 97 2 v k xs) (hk : k ≤ 100000) (hbase : base ≤ W.heap.size) {e : Nat} (he : W.heap[e]? = some (itO x)) :
    ∃ g cap w6, (appSem #[33, 33] 33 #[v, .slice (some ⟨e, 0, none⟩) 1 1]).run Tryz.prog W = .ok (.slice (some ⟨g, 0, none⟩) (k + 1) cap) w6 ∧
      w6.ownsRow base 97 2 (.slice (some ⟨g, 0, none⟩) (k + 1) cap) (k + 1) (xs ++ cellsI [x]) ∧ W.grownBy w6 v.ownBlock ∧ (∀ j, (Value.slice (some ⟨g, 0, none⟩) (k + 1) cap).ownBlock = some j → v.ownBlock = some j ∨ j = W.heap.size) := by
  obtain ⟨i0, hi, hz0, hz1, hz2⟩ := info_parts infoIt
  obtain ⟨c0, c1⟩ := it_cells he
  obtain ⟨v', w6, hr, h2, h3, h4, h5⟩ := run_append_own_at (P := Tryz.prog) W base 33 33 97 i0 (itV (0, 0)) 2 16 Tryz.underlying33 hi hz0 hz1 hz2 rfl (by decide) v k xs ho ⟨e, 0, none⟩ 1 1 (cellsI [x]) rfl
    (fun j u hj => by
      match j, hj with
      | 0, hj => cases hj; exact c0
      | 1, hj => cases hj; exact c1) (cellsI_one' _) (by unfold maxLen; omega) (by omega) hbase
  obtain ⟨g, cap, rfl⟩ := ownsRow_succ h2
  exact ⟨g, cap, w6, hr, h2, h3, fun j hj => h5.imp (fun h => h.symm.trans hj) (fun h => by rw [h] at hj; cases hj; rfl)⟩
theorem add_inI {w : World} {g off : Nat} {l : List ItemP} (hc : ∀ (j : Nat) (x : ItemP), l[j]? = some x →
    w.cell? ⟨g, off + j * 2, none⟩ = some (.int .i64 x.1) ∧ w.cell? ⟨g, off + j * 2 + 1, none⟩ = some (.int .i64 x.2)) :
    ∀ j u, (cellsI l)[j]? = some u → w.cell? ((⟨g, off, none⟩ : Addr).add j) = some u := by
  intro j u hj
  have hadd : (⟨g, off, none⟩ : Addr).add j = ⟨g, off + j, none⟩ := by unfold Addr.add; split <;> simp_all
  rw [hadd]
  have hlt := (List.getElem?_eq_some_iff.1 hj).1
  rw [cellsI_length] at hlt
  obtain ⟨x, hx⟩ : ∃ x, l[j / 2]? = some x := ⟨_, List.getElem?_eq_getElem (by omega)⟩
  obtain ⟨h0, h1⟩ := hc _ x hx
  obtain ⟨c0, c1⟩ := cellsI_get hx
  have hm : j % 2 = 0 ∨ j % 2 = 1 := by omega
  rcases hm with h | h
  · rw [show j / 2 * 2 = j from by omega] at c0 h0
    rw [c0] at hj; cases hj; exact h0
  · rw [show j / 2 * 2 + 1 = j from by omega] at c1
    rw [show off + j / 2 * 2 + 1 = off + j from by omega] at h1
    rw [c1] at hj; cases hj; exact h1
theorem own_sliceI {W : World} {base k : Nat} {v : Value} {xs : List Value} (h : W.ownsRow base 97 2 v k xs) : ∃ o cap, v = .slice o k cap := by
  rcases h.2 with ⟨rfl, rfl⟩ | ⟨g, cap, cur, rfl, _⟩
  · exact ⟨none, 0, rfl⟩
  · exact ⟨_, cap, rfl⟩
theorem app_noneI (W : World) (v : Value) {k : Nat} {base : Nat} {xs : List Value} (ho : W.ownsRow base 97 2 v k xs) (c : Nat) :
    (appSem #[33, 33] 33 #[v, .slice none 0 c]).run Tryz.prog W = .ok v W := by
  obtain ⟨i0, hi, hz0, hz1, hz2⟩ := info_parts infoIt
  rcases ho.2 with ⟨rfl, rfl⟩ | ⟨g, cap, cur, rfl, _, _, hnc, _, _, _⟩
  · simp [appSem, Builtin.append_, run_underlying Tryz.underlying33, sizeOf, typeInfo, hi, Builtin.lenOf, Builtin.firstCells]
  · simp [appSem, Builtin.append_, run_underlying Tryz.underlying33, sizeOf, typeInfo, hi, Builtin.lenOf, Builtin.firstCells, loadCells, storeCells, hnc]
/-- append of items that lie somewhere, to a row that the call owns. -/
theorem its_own {W : World} {base k : Nat} {v : Value} {xs : List Value} (l : List ItemP) (o : Option Addr) (c : Nat) (hA : AtI W o l) (ho : W.ownsRow base 97 2 v k xs) (hk : k + l.length ≤ 100000) (hbase : base ≤ W.heap.size) :
    ∃ o' cap w6, (appSem #[33, 33] 33 #[v, .slice o l.length c]).run Tryz.prog W = .ok (.slice o' (k + l.length) cap) w6 ∧
      w6.ownsRow base 97 2 (.slice o' (k + l.length) cap) (k + l.length) (xs ++ cellsI l) ∧ W.grownBy w6 v.ownBlock ∧ ((Value.slice o' (k + l.length) cap).ownBlock = v.ownBlock ∨ (Value.slice o' (k + l.length) cap).ownBlock = some W.heap.size) := by
  obtain ⟨i0, hi, hz0, hz1, hz2⟩ := info_parts infoIt
  have main : ∀ a : Addr, (∀ j u, (cellsI l)[j]? = some u → W.cell? (a.add j) = some u) → o = some a → ∃ o' cap w6, (appSem #[33, 33] 33 #[v, .slice o l.length c]).run Tryz.prog W = .ok (.slice o' (k + l.length) cap) w6 ∧
      w6.ownsRow base 97 2 (.slice o' (k + l.length) cap) (k + l.length) (xs ++ cellsI l) ∧ W.grownBy w6 v.ownBlock ∧ ((Value.slice o' (k + l.length) cap).ownBlock = v.ownBlock ∨ (Value.slice o' (k + l.length) cap).ownBlock = some W.heap.size) := by
    rintro a hc rfl
    obtain ⟨v', w6, hr, h2, h3, _, h5⟩ := run_append_own_at (P := Tryz.prog) W base 33 33 97 i0 (itV (0, 0)) 2 16 Tryz.underlying33 hi hz0 hz1 hz2 rfl (by decide) v k xs ho a l.length c (cellsI l) (cellsI_length l) hc (cellsI_one' _) (by unfold maxLen; omega) (by omega) hbase
    obtain ⟨o', cap, rfl⟩ := own_sliceI h2
    exact ⟨o', cap, w6, hr, h2, h3, h5⟩
  rcases Nat.eq_zero_or_pos l.length with h0 | h0
  · obtain rfl := List.eq_nil_of_length_eq_zero h0
    cases o with
    | none =>
      obtain ⟨o', cap, rfl⟩ := own_sliceI ho
      exact ⟨o', cap, W, app_noneI W _ ho c, by simpa [cellsI] using ho, ⟨rfl, rfl, rfl, Nat.le_refl _, fun _ _ _ => rfl⟩, .inl rfl⟩
    | some a => exact main a (fun j u hj => by simp [cellsI] at hj) rfl
  · obtain ⟨g, off, rfl, hc⟩ := hA h0
    exact main _ (add_inI hc) rfl
end Go.Proofs.YtnmhdcbpbaanoaaGreatDoor
