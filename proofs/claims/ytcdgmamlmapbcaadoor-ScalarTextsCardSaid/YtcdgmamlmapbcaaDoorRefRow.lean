/- The document's own answers: Row. -/
import Derived.Test.YtcdgmamlmapbcaaDoorTrip
import Derived.Test.YtcdgmamlmapbcaaDoorProg
import Derived.Test.YtcdgmamlmapbcaaDoorMem
import Derived.BigQuiet
namespace Go.Proofs.YtcdgmamlmapbcaaDoor
open Go.RowKit

/-- How many bytes stand behind a first one of row k, and which the second may be. -/
def behind (k : Nat) : Int := if k < 9 then (sz k : Nat) - 1 else -1
def low2 (k : Nat) : Nat := if k = 0 then 128 else sl k
def high2 (k : Nat) : Nat := if k = 0 then 191 else sh k

set_option maxRecDepth 100000 in
theorem refRow0 (b : Nat) (h : 0 ≤ b) (h' : b < 128) (w : World) :
    Calls Tryd.prog 46 #[.int .u8 (b : Nat)] w fun e w' => e = .returned (.tuple #[.int .i64 (0), .int .u8 128, .int .u8 191]) ∧ w = w' := by
  have d0 : decide (((b : Nat) : Int) < 128) = true := by simp only [decide_eq_true_eq]; omega
  clear h h'
  go_enter Tryd.func46, Tryd.ntmps46
  go_wp2
  go_ret3
  exact ⟨rfl, rfl⟩
set_option maxRecDepth 100000 in
theorem refRow1 (b : Nat) (h : 128 ≤ b) (h' : b < 194) (w : World) :
    Calls Tryd.prog 46 #[.int .u8 (b : Nat)] w fun e w' => e = .returned (.tuple #[.int .i64 (-1), .int .u8 0, .int .u8 0]) ∧ w = w' := by
  have d0 : decide (((b : Nat) : Int) < 128) = false := by simp only [decide_eq_false_iff_not]; omega
  have d1 : decide (((b : Nat) : Int) < 194) = true := by simp only [decide_eq_true_eq]; omega
  clear h h'
  go_enter Tryd.func46, Tryd.ntmps46
  go_wp2
  go_ret3
  exact ⟨rfl, rfl⟩
set_option maxRecDepth 100000 in
theorem refRow2 (b : Nat) (h : 194 ≤ b) (h' : b < 224) (w : World) :
    Calls Tryd.prog 46 #[.int .u8 (b : Nat)] w fun e w' => e = .returned (.tuple #[.int .i64 (1), .int .u8 128, .int .u8 191]) ∧ w = w' := by
  have d0 : decide (((b : Nat) : Int) < 128) = false := by simp only [decide_eq_false_iff_not]; omega
  have d1 : decide (((b : Nat) : Int) < 194) = false := by simp only [decide_eq_false_iff_not]; omega
  have d2 : decide (((b : Nat) : Int) < 224) = true := by simp only [decide_eq_true_eq]; omega
  clear h h'
  go_enter Tryd.func46, Tryd.ntmps46
  go_wp2
  go_ret3
  exact ⟨rfl, rfl⟩
set_option maxRecDepth 100000 in
theorem refRow3 (b : Nat) (h : 224 ≤ b) (h' : b < 225) (w : World) :
    Calls Tryd.prog 46 #[.int .u8 (b : Nat)] w fun e w' => e = .returned (.tuple #[.int .i64 (2), .int .u8 160, .int .u8 191]) ∧ w = w' := by
  have d0 : decide (((b : Nat) : Int) < 128) = false := by simp only [decide_eq_false_iff_not]; omega
  have d1 : decide (((b : Nat) : Int) < 194) = false := by simp only [decide_eq_false_iff_not]; omega
  have d2 : decide (((b : Nat) : Int) < 224) = false := by simp only [decide_eq_false_iff_not]; omega
  have d3 : (((b : Nat) : Int) == 224) = true := by rw [beq_iff_eq]; omega
  clear h h'
  go_enter Tryd.func46, Tryd.ntmps46
  go_wp2
  go_ret3
  exact ⟨rfl, rfl⟩
set_option maxRecDepth 100000 in
theorem refRow4 (b : Nat) (h : 225 ≤ b) (h' : b < 237) (w : World) :
    Calls Tryd.prog 46 #[.int .u8 (b : Nat)] w fun e w' => e = .returned (.tuple #[.int .i64 (2), .int .u8 128, .int .u8 191]) ∧ w = w' := by
  have d0 : decide (((b : Nat) : Int) < 128) = false := by simp only [decide_eq_false_iff_not]; omega
  have d1 : decide (((b : Nat) : Int) < 194) = false := by simp only [decide_eq_false_iff_not]; omega
  have d2 : decide (((b : Nat) : Int) < 224) = false := by simp only [decide_eq_false_iff_not]; omega
  have d3 : (((b : Nat) : Int) == 224) = false := by rw [beq_eq_false_iff_ne]; omega
  have d4 : (((b : Nat) : Int) == 237) = false := by rw [beq_eq_false_iff_ne]; omega
  have d5 : decide (((b : Nat) : Int) < 240) = true := by simp only [decide_eq_true_eq]; omega
  clear h h'
  go_enter Tryd.func46, Tryd.ntmps46
  go_wp2
  go_ret3
  exact ⟨rfl, rfl⟩
set_option maxRecDepth 100000 in
theorem refRow5 (b : Nat) (h : 237 ≤ b) (h' : b < 238) (w : World) :
    Calls Tryd.prog 46 #[.int .u8 (b : Nat)] w fun e w' => e = .returned (.tuple #[.int .i64 (2), .int .u8 128, .int .u8 159]) ∧ w = w' := by
  have d0 : decide (((b : Nat) : Int) < 128) = false := by simp only [decide_eq_false_iff_not]; omega
  have d1 : decide (((b : Nat) : Int) < 194) = false := by simp only [decide_eq_false_iff_not]; omega
  have d2 : decide (((b : Nat) : Int) < 224) = false := by simp only [decide_eq_false_iff_not]; omega
  have d3 : (((b : Nat) : Int) == 224) = false := by rw [beq_eq_false_iff_ne]; omega
  have d4 : (((b : Nat) : Int) == 237) = true := by rw [beq_iff_eq]; omega
  clear h h'
  go_enter Tryd.func46, Tryd.ntmps46
  go_wp2
  go_ret3
  exact ⟨rfl, rfl⟩
set_option maxRecDepth 100000 in
theorem refRow6 (b : Nat) (h : 238 ≤ b) (h' : b < 240) (w : World) :
    Calls Tryd.prog 46 #[.int .u8 (b : Nat)] w fun e w' => e = .returned (.tuple #[.int .i64 (2), .int .u8 128, .int .u8 191]) ∧ w = w' := by
  have d0 : decide (((b : Nat) : Int) < 128) = false := by simp only [decide_eq_false_iff_not]; omega
  have d1 : decide (((b : Nat) : Int) < 194) = false := by simp only [decide_eq_false_iff_not]; omega
  have d2 : decide (((b : Nat) : Int) < 224) = false := by simp only [decide_eq_false_iff_not]; omega
  have d3 : (((b : Nat) : Int) == 224) = false := by rw [beq_eq_false_iff_ne]; omega
  have d4 : (((b : Nat) : Int) == 237) = false := by rw [beq_eq_false_iff_ne]; omega
  have d5 : decide (((b : Nat) : Int) < 240) = true := by simp only [decide_eq_true_eq]; omega
  clear h h'
  go_enter Tryd.func46, Tryd.ntmps46
  go_wp2
  go_ret3
  exact ⟨rfl, rfl⟩
set_option maxRecDepth 100000 in
theorem refRow7 (b : Nat) (h : 240 ≤ b) (h' : b < 241) (w : World) :
    Calls Tryd.prog 46 #[.int .u8 (b : Nat)] w fun e w' => e = .returned (.tuple #[.int .i64 (3), .int .u8 144, .int .u8 191]) ∧ w = w' := by
  have d0 : decide (((b : Nat) : Int) < 128) = false := by simp only [decide_eq_false_iff_not]; omega
  have d1 : decide (((b : Nat) : Int) < 194) = false := by simp only [decide_eq_false_iff_not]; omega
  have d2 : decide (((b : Nat) : Int) < 224) = false := by simp only [decide_eq_false_iff_not]; omega
  have d3 : (((b : Nat) : Int) == 224) = false := by rw [beq_eq_false_iff_ne]; omega
  have d4 : (((b : Nat) : Int) == 237) = false := by rw [beq_eq_false_iff_ne]; omega
  have d5 : decide (((b : Nat) : Int) < 240) = false := by simp only [decide_eq_false_iff_not]; omega
  have d6 : (((b : Nat) : Int) == 240) = true := by rw [beq_iff_eq]; omega
  clear h h'
  go_enter Tryd.func46, Tryd.ntmps46
  go_wp2
  go_ret3
  exact ⟨rfl, rfl⟩
set_option maxRecDepth 100000 in
theorem refRow8 (b : Nat) (h : 241 ≤ b) (h' : b < 244) (w : World) :
    Calls Tryd.prog 46 #[.int .u8 (b : Nat)] w fun e w' => e = .returned (.tuple #[.int .i64 (3), .int .u8 128, .int .u8 191]) ∧ w = w' := by
  have d0 : decide (((b : Nat) : Int) < 128) = false := by simp only [decide_eq_false_iff_not]; omega
  have d1 : decide (((b : Nat) : Int) < 194) = false := by simp only [decide_eq_false_iff_not]; omega
  have d2 : decide (((b : Nat) : Int) < 224) = false := by simp only [decide_eq_false_iff_not]; omega
  have d3 : (((b : Nat) : Int) == 224) = false := by rw [beq_eq_false_iff_ne]; omega
  have d4 : (((b : Nat) : Int) == 237) = false := by rw [beq_eq_false_iff_ne]; omega
  have d5 : decide (((b : Nat) : Int) < 240) = false := by simp only [decide_eq_false_iff_not]; omega
  have d6 : (((b : Nat) : Int) == 240) = false := by rw [beq_eq_false_iff_ne]; omega
  have d7 : decide (((b : Nat) : Int) < 244) = true := by simp only [decide_eq_true_eq]; omega
  clear h h'
  go_enter Tryd.func46, Tryd.ntmps46
  go_wp2
  go_ret3
  exact ⟨rfl, rfl⟩
set_option maxRecDepth 100000 in
theorem refRow9 (b : Nat) (h : 244 ≤ b) (h' : b < 245) (w : World) :
    Calls Tryd.prog 46 #[.int .u8 (b : Nat)] w fun e w' => e = .returned (.tuple #[.int .i64 (3), .int .u8 128, .int .u8 143]) ∧ w = w' := by
  have d0 : decide (((b : Nat) : Int) < 128) = false := by simp only [decide_eq_false_iff_not]; omega
  have d1 : decide (((b : Nat) : Int) < 194) = false := by simp only [decide_eq_false_iff_not]; omega
  have d2 : decide (((b : Nat) : Int) < 224) = false := by simp only [decide_eq_false_iff_not]; omega
  have d3 : (((b : Nat) : Int) == 224) = false := by rw [beq_eq_false_iff_ne]; omega
  have d4 : (((b : Nat) : Int) == 237) = false := by rw [beq_eq_false_iff_ne]; omega
  have d5 : decide (((b : Nat) : Int) < 240) = false := by simp only [decide_eq_false_iff_not]; omega
  have d6 : (((b : Nat) : Int) == 240) = false := by rw [beq_eq_false_iff_ne]; omega
  have d7 : decide (((b : Nat) : Int) < 244) = false := by simp only [decide_eq_false_iff_not]; omega
  have d8 : (((b : Nat) : Int) == 244) = true := by rw [beq_iff_eq]; omega
  clear h h'
  go_enter Tryd.func46, Tryd.ntmps46
  go_wp2
  go_ret3
  exact ⟨rfl, rfl⟩
set_option maxRecDepth 100000 in
theorem refRow10 (b : Nat) (h : 245 ≤ b) (h' : b < 256) (w : World) :
    Calls Tryd.prog 46 #[.int .u8 (b : Nat)] w fun e w' => e = .returned (.tuple #[.int .i64 (-1), .int .u8 0, .int .u8 0]) ∧ w = w' := by
  have d0 : decide (((b : Nat) : Int) < 128) = false := by simp only [decide_eq_false_iff_not]; omega
  have d1 : decide (((b : Nat) : Int) < 194) = false := by simp only [decide_eq_false_iff_not]; omega
  have d2 : decide (((b : Nat) : Int) < 224) = false := by simp only [decide_eq_false_iff_not]; omega
  have d3 : (((b : Nat) : Int) == 224) = false := by rw [beq_eq_false_iff_ne]; omega
  have d4 : (((b : Nat) : Int) == 237) = false := by rw [beq_eq_false_iff_ne]; omega
  have d5 : decide (((b : Nat) : Int) < 240) = false := by simp only [decide_eq_false_iff_not]; omega
  have d6 : (((b : Nat) : Int) == 240) = false := by rw [beq_eq_false_iff_ne]; omega
  have d7 : decide (((b : Nat) : Int) < 244) = false := by simp only [decide_eq_false_iff_not]; omega
  have d8 : (((b : Nat) : Int) == 244) = false := by rw [beq_eq_false_iff_ne]; omega
  clear h h'
  go_enter Tryd.func46, Tryd.ntmps46
  go_wp2
  go_ret3
  exact ⟨rfl, rfl⟩
theorem refRow_any (b : Nat) (hb : b < 256) (w : World) :
    Calls Tryd.prog 46 #[.int .u8 (b : Nat)] w fun e w' => e = .returned (.tuple #[.int .i64 (behind (rowIx b)), .int .u8 (low2 (rowIx b) : Nat), .int .u8 (high2 (rowIx b) : Nat)]) ∧ w = w' := by
  rcases rowIx_cases b with h | h | h | h | h | h | h | h | h | h | h
  · rw [h.2.2]; exact refRow0 b (by omega) (by omega) w
  · rw [h.2.2]; exact refRow1 b (by omega) (by omega) w
  · rw [h.2.2]; exact refRow2 b (by omega) (by omega) w
  · rw [h.2.2]; exact refRow3 b (by omega) (by omega) w
  · rw [h.2.2]; exact refRow4 b (by omega) (by omega) w
  · rw [h.2.2]; exact refRow5 b (by omega) (by omega) w
  · rw [h.2.2]; exact refRow6 b (by omega) (by omega) w
  · rw [h.2.2]; exact refRow7 b (by omega) (by omega) w
  · rw [h.2.2]; exact refRow8 b (by omega) (by omega) w
  · rw [h.2.2]; exact refRow9 b (by omega) (by omega) w
  · rw [h.2]; exact refRow10 b (by omega) (by omega) w
end Go.Proofs.YtcdgmamlmapbcaaDoor
