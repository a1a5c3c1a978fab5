/- A row held against the row of zeros. Right. -/
import Derived.Test.YtcdgmamlmapbcaaDoorRowFrom
namespace Go.Proofs.YtcdgmamlmapbcaaDoor
open Go.RowKit

theorem ne_row {k : Nat} (h : k < 9) (w : World) : (binOp .neq 92 (rowV k) zeroV).run Tryd.prog w = .ok (.bool true) w := by
  rcases below9 h with rfl | rfl | rfl | rfl | rfl | rfl | rfl | rfl | rfl <;> kernel_rfl
theorem eq_row {k : Nat} (h : k < 9) (w : World) : (binOp .eql 92 (rowV k) zeroV).run Tryd.prog w = .ok (.bool false) w := by
  rcases below9 h with rfl | rfl | rfl | rfl | rfl | rfl | rfl | rfl | rfl <;> kernel_rfl
theorem ne_zero (w : World) : (binOp .neq 92 zeroV zeroV).run Tryd.prog w = .ok (.bool false) w := by kernel_rfl
theorem eq_zero (w : World) : (binOp .eql 92 zeroV zeroV).run Tryd.prog w = .ok (.bool true) w := by kernel_rfl
end Go.Proofs.YtcdgmamlmapbcaaDoor
