/- A row held against the row of zeros. Right. -/
import Derived.Test.YtlfaahclcmljhaaDoorRowFrom
namespace Go.Proofs.YtlfaahclcmljhaaDoor
open Go.RowKit

theorem ne_row {k : Nat} (h : k < 9) (w : World) : (binOp .neq 60 (rowV k) zeroV).run Tryd.prog w = .ok (.bool true) w := by
  rcases below9 h with rfl | rfl | rfl | rfl | rfl | rfl | rfl | rfl | rfl <;> kernel_rfl
theorem eq_row {k : Nat} (h : k < 9) (w : World) : (binOp .eql 60 (rowV k) zeroV).run Tryd.prog w = .ok (.bool false) w := by
  rcases below9 h with rfl | rfl | rfl | rfl | rfl | rfl | rfl | rfl | rfl <;> kernel_rfl
theorem ne_zero (w : World) : (binOp .neq 60 zeroV zeroV).run Tryd.prog w = .ok (.bool false) w := by kernel_rfl
theorem eq_zero (w : World) : (binOp .eql 60 zeroV zeroV).run Tryd.prog w = .ok (.bool true) w := by kernel_rfl

theorem right_yes (r : Int) (hr : In64 r) (h : rowR r < 9) (w : World) : Calls Tryd.prog 17 #[.int .i64 r] w fun e w' => e = .returned (.bool true) ∧ Below w.heap.size w w' := by
  have hn := ne_row h
  go_enter Tryd.func17, Tryd.ntmps17
  go_wp2_with fail
  refine (rowOf_any r hr _).mono ?_
  rintro e w1 ⟨rfl, hb1⟩
  go_wp2
  go_ret
  exact ⟨rfl, hb1⟩
theorem right_no (r : Int) (hr : In64 r) (h : rowR r = 9) (w : World) : Calls Tryd.prog 17 #[.int .i64 r] w fun e w' => e = .returned (.bool false) ∧ Below w.heap.size w w' := by
  have hn := ne_zero
  have H := Lib.hid h
  clear h
  go_enter Tryd.func17, Tryd.ntmps17
  go_wp2_with fail
  refine (rowOf_any r hr _).mono ?_
  rintro e w1 ⟨rfl, hb1⟩
  rw [H.out, row9]
  go_wp2
  go_ret
  exact ⟨rfl, hb1⟩
theorem right_any (r : Int) (hr : In64 r) (w : World) : Calls Tryd.prog 17 #[.int .i64 r] w fun e w' => e = .returned (.bool (decide (rowR r < 9))) ∧ Below w.heap.size w w' := by
  by_cases h : rowR r < 9
  · rw [decide_eq_true h]; exact right_yes r hr h w
  · rw [decide_eq_false h]; exact right_no r hr (by have := rowR_le r; omega) w
end Go.Proofs.YtlfaahclcmljhaaDoor
