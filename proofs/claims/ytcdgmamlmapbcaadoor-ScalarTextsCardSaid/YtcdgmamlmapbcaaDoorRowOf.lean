/- rowOf, rowFrom, mark: the row of a scalar, the row of a first byte, what is set in a first byte. -/
import Derived.Test.YtcdgmamlmapbcaaDoorLeaf
import Derived.Test.YtcdgmamlmapbcaaDoorFlt
namespace Go.Proofs.YtcdgmamlmapbcaaDoor
open Go.RowKit

theorem isInt_lob (k : Nat) : IsInt (Ieee.double.read (lob k)) (lo k : Nat) := by
  by_cases h : k < 9
  · rcases below9 h with rfl | rfl | rfl | rfl | rfl | rfl | rfl | rfl | rfl
    · exact ⟨false, 0, -1074, by decide +kernel, by omega, by have h0 : ∀ z : Int, Ieee.signed false 0 0 = ((lo 0 : Nat) : Int) * z := (fun z => by rw [show ((lo 0 : Nat) : Int) = 0 from rfl, Int.zero_mul]; rfl); exact h0 _⟩
    all_goals exact ⟨false, _, _, rfl, by decide +kernel, by decide +kernel⟩
  · have h1 : lob k = 0 := by unfold lob; split <;> first | rfl | omega
    have h2 : lo k = 0 := by unfold lo; split <;> first | rfl | omega
    rw [h1, h2]
    exact ⟨false, 0, -1074, by decide +kernel, by omega, by have h0 : ∀ z : Int, Ieee.signed false 0 0 = ((0 : Nat) : Int) * z := (fun z => by rw [show ((0 : Nat) : Int) = 0 from rfl, Int.zero_mul]; rfl); exact h0 _⟩
theorem isInt_hib {k : Nat} (h : k < 9) : IsInt (Ieee.double.read (hib k)) (hi k : Nat) := by
  rcases below9 h with rfl | rfl | rfl | rfl | rfl | rfl | rfl | rfl | rfl
  all_goals exact ⟨false, _, _, rfl, by decide +kernel, by decide +kernel⟩
theorem lo_lt (k : Nat) : lo k < 0x110000 := by unfold lo; split <;> omega
theorem hi_lt (k : Nat) : hi k < 0x110000 := by unfold hi; split <;> omega
theorem leq_lo (k : Nat) (r : Int) (h1 : -(2 ^ 63) ≤ r) (h2 : r < 2 ^ 63) : (FloatKind.f64.format.order (lob k) (floatOfInt .f64 r) == some .lt || FloatKind.f64.format.order (lob k) (floatOfInt .f64 r) == some .eq) = decide ((lo k : Int) ≤ r) := by
  have hl := lo_lt k
  rw [order_nearest (isInt_lob k) (by omega) (by omega) h1 h2]
  simp only [compare, compareOfLessAndEq]
  by_cases ha : (lo k : Int) < r
  · rw [if_pos ha]; simp; omega
  · by_cases hb : (lo k : Int) = r
    · rw [if_neg ha, if_pos hb]; simp; omega
    · rw [if_neg ha, if_neg hb]; simp; omega
theorem order_hib {k : Nat} (h : k < 9) (r : Int) (h1 : -(2 ^ 63) ≤ r) (h2 : r < 2 ^ 63) : (FloatKind.f64.format.order (floatOfInt .f64 r) (hib k) == some .lt || FloatKind.f64.format.order (floatOfInt .f64 r) (hib k) == some .eq) = decide (r ≤ (hi k : Int)) := by
  have hl := hi_lt k
  rw [nearest_order (isInt_hib h) (by omega) (by omega) h1 h2]
  simp only [compare, compareOfLessAndEq]
  by_cases ha : r < (hi k : Int)
  · rw [if_pos ha]; simp; omega
  · by_cases hb : r = (hi k : Int)
    · rw [if_neg ha, if_pos hb]; simp; omega
    · rw [if_neg ha, if_neg hb]; simp; omega

/-- The bounds of 64 bits, behind a name. -/
def In64 (r : Int) : Prop := -(2 ^ 63) ≤ r ∧ r < 2 ^ 63

theorem t_lo {r : Int} (h : In64 r) {k : Nat} {b : Bool} (hb : decide ((lo k : Int) ≤ r) = b) :
    (FloatKind.f64.format.order (lob k) (floatOfInt .f64 r) == some .lt || FloatKind.f64.format.order (lob k) (floatOfInt .f64 r) == some .eq) = b := by
  rw [leq_lo k r h.1 h.2, hb]
theorem t_hi {r : Int} (h : In64 r) {k : Nat} (hk : k < 9) {b : Bool} (hb : decide (r ≤ (hi k : Int)) = b) :
    (FloatKind.f64.format.order (floatOfInt .f64 r) (hib k) == some .lt || FloatKind.f64.format.order (floatOfInt .f64 r) (hib k) == some .eq) = b := by
  rw [order_hib hk r h.1 h.2, hb]

theorem run_tab {k : Nat} (h : k < 9) (w : World) : (Instr.index 120 (.agg tabV) (.int .i64 (k : Nat))).run Tryd.prog w = .ok (rowV k) w := by
  rcases below9 h with rfl | rfl | rfl | rfl | rfl | rfl | rfl | rfl | rfl <;> kernel_rfl

theorem rowR_of {k : Nat} (h : k < 9) {r : Int} (h1 : (lo k : Int) ≤ r) (h2 : r ≤ (hi k : Int)) : rowR r = k := (rowR_iff h r).1 ⟨h1, h2⟩
theorem rowR_ne {k : Nat} (h : k < 9) {r : Int} (h1 : ¬ ((lo k : Int) ≤ r ∧ r ≤ (hi k : Int))) : rowR r ≠ k := fun e => h1 ((rowR_iff h r).2 e)

theorem rowV_one (k : Nat) : ((rowV k).cells.all fun x => x.oneCell') = true := by simp [Value.cells, Value.oneCell']
theorem zeroV_one : (zeroV.cells.all fun x => x.oneCell') = true := rowV_one 9

set_option maxHeartbeats 1000000 in
theorem rowOf_any (r : Int) (hr : In64 r) (w : World) : Calls Tryd.prog 60 #[.int .i64 r] w fun e w' => e = .returned (rowV (rowR r)) ∧ Below w.heap.size w w' := by
  have h9 := rowR_le r
  go_enter Tryd.func60, Tryd.ntmps60
  go_wp2_with fail
  refine (table_any _).mono ?_
  rintro e w1 ⟨rfl, hb1⟩
  go_wp2_with fail
  go_loopw [6] (fun i wr => ∃ k : Nat, i = .int .i64 k ∧ k ≤ rowR r ∧ Below (w.heap.size + 1) (w.alloc (.cells zeroV.cells 92)) wr) (fun i _ => 9 - (intOf i).toNat)
  case atStart => exact ⟨0, rfl, by omega, by simp at hb1; exact hb1⟩
  case round =>
    obtain ⟨k, rfl, hk, hbr⟩ := hrel
    have hsz := hbr.size
    simp at hsz
    by_cases hk9 : k < 9
    · have hix := run_tab hk9
      by_cases c1 : (lo k : Int) ≤ r
      · have t1 := t_lo hr (decide_eq_true c1)
        by_cases c2 : r ≤ (hi k : Int)
        · have t2 := t_hi hr hk9 (decide_eq_true c2)
          have E9 := Lib.hid (rowR_of hk9 c1 c2)
          clear c1 c2
          go_wp2_with (refine wpList_store_row rfl 92 (.tmp 2) _ rfl w.heap.size (rowV k).cells rfl ?hy 92 _ ((Below.heap_alloc _ _ _ ?hlt).trans (later_row hbr)) ?hi ?hs ?h1 ?_)
          case hy => rfl
          case hlt => omega
          case hi => kernel_rfl
          case hs => rfl
          case h1 => exact rowV_one k
          refine bodyPost_ret (v := rowV k) ?_ rfl ⟨by rw [E9.out], ?_⟩
          · exact results_cell_row rfl _ _ w.heap.size 92 (rowV k).cells (0, 0) _ rfl (setRow_heap _ _ _ _ _ _ ((Below.heap_alloc _ _ _ (by omega)).trans (later_row hbr))) Tryd.underlying92 rfl (by kernel_rfl)
          · refine below_setRow (Below.alloc ?_ (by omega) _) (Nat.le_refl _) _
            exact ((Below.refl _ _).alloc (Nat.le_refl _) _).trans (hbr.mono (by omega))
        · have t2 := t_hi hr hk9 (decide_eq_false c2)
          have hne : k + 1 ≤ rowR r := by have := rowR_ne hk9 (fun h => c2 h.2); omega
          clear c1 c2
          go_wp2
          go_roundw
          case rel => exact ⟨k + 1, by go_num, hne, hbr.alloc (by omega) _⟩
          case measure => simp [intOf]; omega
      · have t1 := t_lo hr (decide_eq_false c1)
        have hne : k + 1 ≤ rowR r := by have := rowR_ne hk9 (fun h => c1 h.1); omega
        clear c1
        go_wp2
        go_roundw
        case rel => exact ⟨k + 1, by go_num, hne, hbr.alloc (by omega) _⟩
        case measure => simp [intOf]; omega
    · have e9 : rowR r = 9 := by omega
      have E9 := Lib.hid e9
      clear e9
      go_wp2_with (refine wpList_store_row rfl 92 (.tmp 2) _ rfl w.heap.size zeroV.cells rfl ?hy 92 _ (later_row hbr) ?hi ?hs ?h1 ?_)
      case hy => rfl
      case hi => kernel_rfl
      case hs => rfl
      case h1 => exact zeroV_one
      refine bodyPost_ret (v := zeroV) ?_ rfl ⟨by rw [E9.out]; rfl, ?_⟩
      · exact results_cell_row rfl _ _ w.heap.size 92 zeroV.cells (0, 0) _ rfl (setRow_heap _ _ _ _ _ _ (later_row hbr)) Tryd.underlying92 rfl (by kernel_rfl)
      · refine below_setRow ?_ (Nat.le_refl _) _
        exact ((Below.refl _ _).alloc (Nat.le_refl _) _).trans (hbr.mono (by omega))
end Go.Proofs.YtcdgmamlmapbcaaDoor
