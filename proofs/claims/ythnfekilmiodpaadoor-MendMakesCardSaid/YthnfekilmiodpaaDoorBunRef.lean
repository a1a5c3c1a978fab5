/- The document's own answers: Right, Encode. The document's own answers: Row. The document's own answers: Decode: the walks. The document's own answers: Decode. The document's own answers: Scalars, Valid, Text. -/
import Derived.Test.YthnfekilmiodpaaDoorBunPut
import Derived.Test.YthnfekilmiodpaaDoorBunEnc
import Derived.Test.YthnfekilmiodpaaDoorProg
import Derived.Test.YthnfekilmiodpaaDoorBunPlain
import Derived.BigQuiet
import Derived.LoopN
import Derived.Deep.LoopGhost
import Derived.Test.YthnfekilmiodpaaDoorBunNext
import Derived.Test.YthnfekilmiodpaaDoorBunText
import Derived.Lib.AppendStr
namespace Go.Proofs.YthnfekilmiodpaaDoor
open Go.RowKit

theorem encV_some {r : Int} (h : rowR r < 9) : encV r = .tuple #[.string (strR r), .int .i64 0] := by unfold encV; rw [if_pos h]
theorem encV_none {r : Int} (h : ¬ rowR r < 9) : encV r = .tuple #[.string ⟨#[]⟩, .int .i64 10] := by unfold encV; rw [if_neg h]

theorem string_new (w : World) (t : TypeId) (cs : Array Value) (l : List UInt8) (hcs : cs = (l.map fun b => (.int .u8 (b.toNat : Nat) : Value)).toArray) (n cap : Nat) (hn : n = l.length) :
    (convert 57 9 (.slice (some ⟨w.heap.size, 0, none⟩) n cap)).run Tryd.prog (w.alloc (.cells cs t)) = .ok (.string ⟨l.toArray⟩) (w.alloc (.cells cs t)) := by
  subst hn hcs
  refine run_convert_bytes_back _ 57 9 5 ⟨w.heap.size, 0, none⟩ cap l Tryd.underlying57 Tryd.underlying5 Tryd.underlying9 (fun j hj => ?_)
  have hadd : (⟨w.heap.size, 0, none⟩ : Addr).add j = ⟨w.heap.size, j, none⟩ := by unfold Addr.add; split <;> simp_all
  rw [hadd, cell_of_row _ _ j _ _ _ (heap_alloc_new w _)]
  simp [List.getElem?_eq_getElem hj]

end Go.Proofs.YthnfekilmiodpaaDoor

namespace Go.Proofs.YthnfekilmiodpaaDoor
open Go.RowKit

/-- How many bytes stand behind a first one of row k, and which the second may be. -/
def behind (k : Nat) : Int := if k < 9 then (sz k : Nat) - 1 else -1
def low2 (k : Nat) : Nat := if k = 0 then 128 else sl k
def high2 (k : Nat) : Nat := if k = 0 then 191 else sh k

set_option maxRecDepth 100000 in
theorem refRow0 (b : Nat) (h : 0 ≤ b) (h' : b < 128) (w : World) :
    Calls Tryd.prog 22 #[.int .u8 (b : Nat)] w fun e w' => e = .returned (.tuple #[.int .i64 (0), .int .u8 128, .int .u8 191]) ∧ w = w' := by
  have d0 : decide (((b : Nat) : Int) < 128) = true := by simp only [decide_eq_true_eq]; omega
  clear h h'
  go_enter Tryd.func22, Tryd.ntmps22
  go_wp2
  go_ret3
  exact ⟨rfl, rfl⟩
set_option maxRecDepth 100000 in
theorem refRow1 (b : Nat) (h : 128 ≤ b) (h' : b < 194) (w : World) :
    Calls Tryd.prog 22 #[.int .u8 (b : Nat)] w fun e w' => e = .returned (.tuple #[.int .i64 (-1), .int .u8 0, .int .u8 0]) ∧ w = w' := by
  have d0 : decide (((b : Nat) : Int) < 128) = false := by simp only [decide_eq_false_iff_not]; omega
  have d1 : decide (((b : Nat) : Int) < 194) = true := by simp only [decide_eq_true_eq]; omega
  clear h h'
  go_enter Tryd.func22, Tryd.ntmps22
  go_wp2
  go_ret3
  exact ⟨rfl, rfl⟩
set_option maxRecDepth 100000 in
theorem refRow2 (b : Nat) (h : 194 ≤ b) (h' : b < 224) (w : World) :
    Calls Tryd.prog 22 #[.int .u8 (b : Nat)] w fun e w' => e = .returned (.tuple #[.int .i64 (1), .int .u8 128, .int .u8 191]) ∧ w = w' := by
  have d0 : decide (((b : Nat) : Int) < 128) = false := by simp only [decide_eq_false_iff_not]; omega
  have d1 : decide (((b : Nat) : Int) < 194) = false := by simp only [decide_eq_false_iff_not]; omega
  have d2 : decide (((b : Nat) : Int) < 224) = true := by simp only [decide_eq_true_eq]; omega
  clear h h'
  go_enter Tryd.func22, Tryd.ntmps22
  go_wp2
  go_ret3
  exact ⟨rfl, rfl⟩
set_option maxRecDepth 100000 in
theorem refRow3 (b : Nat) (h : 224 ≤ b) (h' : b < 225) (w : World) :
    Calls Tryd.prog 22 #[.int .u8 (b : Nat)] w fun e w' => e = .returned (.tuple #[.int .i64 (2), .int .u8 160, .int .u8 191]) ∧ w = w' := by
  have d0 : decide (((b : Nat) : Int) < 128) = false := by simp only [decide_eq_false_iff_not]; omega
  have d1 : decide (((b : Nat) : Int) < 194) = false := by simp only [decide_eq_false_iff_not]; omega
  have d2 : decide (((b : Nat) : Int) < 224) = false := by simp only [decide_eq_false_iff_not]; omega
  have d3 : (((b : Nat) : Int) == 224) = true := by rw [beq_iff_eq]; omega
  clear h h'
  go_enter Tryd.func22, Tryd.ntmps22
  go_wp2
  go_ret3
  exact ⟨rfl, rfl⟩
set_option maxRecDepth 100000 in
theorem refRow4 (b : Nat) (h : 225 ≤ b) (h' : b < 237) (w : World) :
    Calls Tryd.prog 22 #[.int .u8 (b : Nat)] w fun e w' => e = .returned (.tuple #[.int .i64 (2), .int .u8 128, .int .u8 191]) ∧ w = w' := by
  have d0 : decide (((b : Nat) : Int) < 128) = false := by simp only [decide_eq_false_iff_not]; omega
  have d1 : decide (((b : Nat) : Int) < 194) = false := by simp only [decide_eq_false_iff_not]; omega
  have d2 : decide (((b : Nat) : Int) < 224) = false := by simp only [decide_eq_false_iff_not]; omega
  have d3 : (((b : Nat) : Int) == 224) = false := by rw [beq_eq_false_iff_ne]; omega
  have d4 : (((b : Nat) : Int) == 237) = false := by rw [beq_eq_false_iff_ne]; omega
  have d5 : decide (((b : Nat) : Int) < 240) = true := by simp only [decide_eq_true_eq]; omega
  clear h h'
  go_enter Tryd.func22, Tryd.ntmps22
  go_wp2
  go_ret3
  exact ⟨rfl, rfl⟩
set_option maxRecDepth 100000 in
theorem refRow5 (b : Nat) (h : 237 ≤ b) (h' : b < 238) (w : World) :
    Calls Tryd.prog 22 #[.int .u8 (b : Nat)] w fun e w' => e = .returned (.tuple #[.int .i64 (2), .int .u8 128, .int .u8 159]) ∧ w = w' := by
  have d0 : decide (((b : Nat) : Int) < 128) = false := by simp only [decide_eq_false_iff_not]; omega
  have d1 : decide (((b : Nat) : Int) < 194) = false := by simp only [decide_eq_false_iff_not]; omega
  have d2 : decide (((b : Nat) : Int) < 224) = false := by simp only [decide_eq_false_iff_not]; omega
  have d3 : (((b : Nat) : Int) == 224) = false := by rw [beq_eq_false_iff_ne]; omega
  have d4 : (((b : Nat) : Int) == 237) = true := by rw [beq_iff_eq]; omega
  clear h h'
  go_enter Tryd.func22, Tryd.ntmps22
  go_wp2
  go_ret3
  exact ⟨rfl, rfl⟩
set_option maxRecDepth 100000 in
theorem refRow6 (b : Nat) (h : 238 ≤ b) (h' : b < 240) (w : World) :
    Calls Tryd.prog 22 #[.int .u8 (b : Nat)] w fun e w' => e = .returned (.tuple #[.int .i64 (2), .int .u8 128, .int .u8 191]) ∧ w = w' := by
  have d0 : decide (((b : Nat) : Int) < 128) = false := by simp only [decide_eq_false_iff_not]; omega
  have d1 : decide (((b : Nat) : Int) < 194) = false := by simp only [decide_eq_false_iff_not]; omega
  have d2 : decide (((b : Nat) : Int) < 224) = false := by simp only [decide_eq_false_iff_not]; omega
  have d3 : (((b : Nat) : Int) == 224) = false := by rw [beq_eq_false_iff_ne]; omega
  have d4 : (((b : Nat) : Int) == 237) = false := by rw [beq_eq_false_iff_ne]; omega
  have d5 : decide (((b : Nat) : Int) < 240) = true := by simp only [decide_eq_true_eq]; omega
  clear h h'
  go_enter Tryd.func22, Tryd.ntmps22
  go_wp2
  go_ret3
  exact ⟨rfl, rfl⟩
set_option maxRecDepth 100000 in
theorem refRow7 (b : Nat) (h : 240 ≤ b) (h' : b < 241) (w : World) :
    Calls Tryd.prog 22 #[.int .u8 (b : Nat)] w fun e w' => e = .returned (.tuple #[.int .i64 (3), .int .u8 144, .int .u8 191]) ∧ w = w' := by
  have d0 : decide (((b : Nat) : Int) < 128) = false := by simp only [decide_eq_false_iff_not]; omega
  have d1 : decide (((b : Nat) : Int) < 194) = false := by simp only [decide_eq_false_iff_not]; omega
  have d2 : decide (((b : Nat) : Int) < 224) = false := by simp only [decide_eq_false_iff_not]; omega
  have d3 : (((b : Nat) : Int) == 224) = false := by rw [beq_eq_false_iff_ne]; omega
  have d4 : (((b : Nat) : Int) == 237) = false := by rw [beq_eq_false_iff_ne]; omega
  have d5 : decide (((b : Nat) : Int) < 240) = false := by simp only [decide_eq_false_iff_not]; omega
  have d6 : (((b : Nat) : Int) == 240) = true := by rw [beq_iff_eq]; omega
  clear h h'
  go_enter Tryd.func22, Tryd.ntmps22
  go_wp2
  go_ret3
  exact ⟨rfl, rfl⟩
set_option maxRecDepth 100000 in
theorem refRow8 (b : Nat) (h : 241 ≤ b) (h' : b < 244) (w : World) :
    Calls Tryd.prog 22 #[.int .u8 (b : Nat)] w fun e w' => e = .returned (.tuple #[.int .i64 (3), .int .u8 128, .int .u8 191]) ∧ w = w' := by
  have d0 : decide (((b : Nat) : Int) < 128) = false := by simp only [decide_eq_false_iff_not]; omega
  have d1 : decide (((b : Nat) : Int) < 194) = false := by simp only [decide_eq_false_iff_not]; omega
  have d2 : decide (((b : Nat) : Int) < 224) = false := by simp only [decide_eq_false_iff_not]; omega
  have d3 : (((b : Nat) : Int) == 224) = false := by rw [beq_eq_false_iff_ne]; omega
  have d4 : (((b : Nat) : Int) == 237) = false := by rw [beq_eq_false_iff_ne]; omega
  have d5 : decide (((b : Nat) : Int) < 240) = false := by simp only [decide_eq_false_iff_not]; omega
  have d6 : (((b : Nat) : Int) == 240) = false := by rw [beq_eq_false_iff_ne]; omega
  have d7 : decide (((b : Nat) : Int) < 244) = true := by simp only [decide_eq_true_eq]; omega
  clear h h'
  go_enter Tryd.func22, Tryd.ntmps22
  go_wp2
  go_ret3
  exact ⟨rfl, rfl⟩
set_option maxRecDepth 100000 in
theorem refRow9 (b : Nat) (h : 244 ≤ b) (h' : b < 245) (w : World) :
    Calls Tryd.prog 22 #[.int .u8 (b : Nat)] w fun e w' => e = .returned (.tuple #[.int .i64 (3), .int .u8 128, .int .u8 143]) ∧ w = w' := by
  have d0 : decide (((b : Nat) : Int) < 128) = false := by simp only [decide_eq_false_iff_not]; omega
  have d1 : decide (((b : Nat) : Int) < 194) = false := by simp only [decide_eq_false_iff_not]; omega
  have d2 : decide (((b : Nat) : Int) < 224) = false := by simp only [decide_eq_false_iff_not]; omega
  have d3 : (((b : Nat) : Int) == 224) = false := by rw [beq_eq_false_iff_ne]; omega
  have d4 : (((b : Nat) : Int) == 237) = false := by rw [beq_eq_false_iff_ne]; omega
  have d5 : decide (((b : Nat) : Int) < 240) = false := by simp only [decide_eq_false_iff_not]; omega
  have d6 : (((b : Nat) : Int) == 240) = false := by rw [beq_eq_false_iff_ne]; omega
  have d7 : decide (((b : Nat) : Int) < 244) = false := by simp only [decide_eq_false_iff_not]; omega
  have d8 : (((b : Nat) : Int) == 244) = true := by rw [beq_iff_eq]; omega
  clear h h'
  go_enter Tryd.func22, Tryd.ntmps22
  go_wp2
  go_ret3
  exact ⟨rfl, rfl⟩
set_option maxRecDepth 100000 in
theorem refRow10 (b : Nat) (h : 245 ≤ b) (h' : b < 256) (w : World) :
    Calls Tryd.prog 22 #[.int .u8 (b : Nat)] w fun e w' => e = .returned (.tuple #[.int .i64 (-1), .int .u8 0, .int .u8 0]) ∧ w = w' := by
  have d0 : decide (((b : Nat) : Int) < 128) = false := by simp only [decide_eq_false_iff_not]; omega
  have d1 : decide (((b : Nat) : Int) < 194) = false := by simp only [decide_eq_false_iff_not]; omega
  have d2 : decide (((b : Nat) : Int) < 224) = false := by simp only [decide_eq_false_iff_not]; omega
  have d3 : (((b : Nat) : Int) == 224) = false := by rw [beq_eq_false_iff_ne]; omega
  have d4 : (((b : Nat) : Int) == 237) = false := by rw [beq_eq_false_iff_ne]; omega
  have d5 : decide (((b : Nat) : Int) < 240) = false := by simp only [decide_eq_false_iff_not]; omega
  have d6 : (((b : Nat) : Int) == 240) = false := by rw [beq_eq_false_iff_ne]; omega
  have d7 : decide (((b : Nat) : Int) < 244) = false := by simp only [decide_eq_false_iff_not]; omega
  have d8 : (((b : Nat) : Int) == 244) = false := by rw [beq_eq_false_iff_ne]; omega
  clear h h'
  go_enter Tryd.func22, Tryd.ntmps22
  go_wp2
  go_ret3
  exact ⟨rfl, rfl⟩
theorem refRow_any (b : Nat) (hb : b < 256) (w : World) :
    Calls Tryd.prog 22 #[.int .u8 (b : Nat)] w fun e w' => e = .returned (.tuple #[.int .i64 (behind (rowIx b)), .int .u8 (low2 (rowIx b) : Nat), .int .u8 (high2 (rowIx b) : Nat)]) ∧ w = w' := by
  rcases rowIx_cases b with h | h | h | h | h | h | h | h | h | h | h
  · rw [h.2.2]; exact refRow0 b (by omega) (by omega) w
  · rw [h.2.2]; exact refRow1 b (by omega) (by omega) w
  · rw [h.2.2]; exact refRow2 b (by omega) (by omega) w
  · rw [h.2.2]; exact refRow3 b (by omega) (by omega) w
  · rw [h.2.2]; exact refRow4 b (by omega) (by omega) w
  · rw [h.2.2]; exact refRow5 b (by omega) (by omega) w
  · rw [h.2.2]; exact refRow6 b (by omega) (by omega) w
  · rw [h.2.2]; exact refRow7 b (by omega) (by omega) w
  · rw [h.2.2]; exact refRow8 b (by omega) (by omega) w
  · rw [h.2.2]; exact refRow9 b (by omega) (by omega) w
  · rw [h.2]; exact refRow10 b (by omega) (by omega) w
end Go.Proofs.YthnfekilmiodpaaDoor

namespace Go.Proofs.YthnfekilmiodpaaDoor
open Go.RowKit

/-- Place i of s holds b. -/
def At (s : ByteArray) (i : Int) (b : Nat) : Prop := b < 256 ∧ ∀ W, (Instr.index 9 (.string s) (.int .i64 i)).run Tryd.prog W = .ok (.int .u8 (b : Nat)) W

theorem refDec_empty (s : ByteArray) (hz : s.toList.isEmpty = true) (w : World) :
    Calls Tryd.prog 21 #[.string s] w fun e w' => e = .returned (.tuple #[.int .i64 0, .int .i64 0, .bool false]) ∧ w = w' := by
  go_enter Tryd.func21, Tryd.ntmps21
  go_wp2
  go_ret3
  exact ⟨rfl, rfl⟩
set_option maxRecDepth 100000 in
set_option maxHeartbeats 1000000 in
theorem refDec_neg (s : ByteArray) (b0 L H : Nat) (hz : s.toList.isEmpty = false) (hrow : Hid ((.tuple #[.int .i64 (behind (rowIx b0)), .int .u8 (low2 (rowIx b0) : Nat), .int .u8 (high2 (rowIx b0) : Nat)] : Value) = .tuple #[.int .i64 (-1), .int .u8 (L : Nat), .int .u8 (H : Nat)])) (a0 : At s 0 b0)  (w : World) :
    Calls Tryd.prog 21 #[.string s] w fun e w' => e = .returned (.tuple #[.int .i64 0, .int .i64 0, .bool false]) ∧ w = w' := by
  have i0 := a0.2
  have c0 := a0.1
  clear a0
  go_enter Tryd.func21, Tryd.ntmps21
  go_wp2_with fail
  refine (refRow_any b0 c0 w).mono ?_
  rintro e w' ⟨rfl, rfl⟩
  rw [hrow.out]
  go_wp2
  go_ret3
  exact ⟨rfl, rfl⟩
set_option maxRecDepth 100000 in
set_option maxHeartbeats 1000000 in
theorem refDec_good0 (s : ByteArray) (b0 L H : Nat) (hz : s.toList.isEmpty = false) (hrow : Hid ((.tuple #[.int .i64 (behind (rowIx b0)), .int .u8 (low2 (rowIx b0) : Nat), .int .u8 (high2 (rowIx b0) : Nat)] : Value) = .tuple #[.int .i64 0, .int .u8 (L : Nat), .int .u8 (H : Nat)])) (a0 : At s 0 b0) (hsz : ¬ s.size = 0) (w : World) :
    Calls Tryd.prog 21 #[.string s] w fun e w' => e = .returned (.tuple #[.int .i64 (((b0 : Nat) : Int)), .int .i64 1, .bool true]) ∧ w = w' := by
  have i0 := a0.2
  have c0 := a0.1
  clear a0
  go_enter Tryd.func21, Tryd.ntmps21
  go_wp2_with fail
  refine (refRow_any b0 c0 w).mono ?_
  rintro e w' ⟨rfl, rfl⟩
  rw [hrow.out]
  go_wp2_with fail
  refine wp_loop_rounds 1 ?_
  rw [rounds_succ]
  go_wp2
  go_ret3
  exact ⟨rfl, rfl⟩
set_option maxRecDepth 100000 in
set_option maxHeartbeats 1000000 in
theorem refDec_short1 (s : ByteArray) (b0 L H : Nat) (hz : s.toList.isEmpty = false) (hrow : Hid ((.tuple #[.int .i64 (behind (rowIx b0)), .int .u8 (low2 (rowIx b0) : Nat), .int .u8 (high2 (rowIx b0) : Nat)] : Value) = .tuple #[.int .i64 1, .int .u8 (L : Nat), .int .u8 (H : Nat)])) (a0 : At s 0 b0) (hsz : decide (((s.size : Nat) : Int) ≤ 1) = true) (w : World) :
    Calls Tryd.prog 21 #[.string s] w fun e w' => e = .returned (.tuple #[.int .i64 0, .int .i64 0, .bool false]) ∧ w = w' := by
  have i0 := a0.2
  have c0 := a0.1
  clear a0
  go_enter Tryd.func21, Tryd.ntmps21
  go_wp2_with fail
  refine (refRow_any b0 c0 w).mono ?_
  rintro e w' ⟨rfl, rfl⟩
  rw [hrow.out]
  go_wp2
  go_ret3
  exact ⟨rfl, rfl⟩
set_option maxRecDepth 100000 in
set_option maxHeartbeats 1000000 in
theorem refDec_bad1_1_0 (s : ByteArray) (b0 b1 L H : Nat) (hz : s.toList.isEmpty = false) (hrow : Hid ((.tuple #[.int .i64 (behind (rowIx b0)), .int .u8 (low2 (rowIx b0) : Nat), .int .u8 (high2 (rowIx b0) : Nat)] : Value) = .tuple #[.int .i64 1, .int .u8 (L : Nat), .int .u8 (H : Nat)])) (a0 : At s 0 b0) (a1 : At s 1 b1) (hsz : decide (((s.size : Nat) : Int) ≤ 1) = false) (hm : 192 ≤ b0) (l1 : decide (b1 < L) = true) (w : World) :
    Calls Tryd.prog 21 #[.string s] w fun e w' => e = .returned (.tuple #[.int .i64 0, .int .i64 0, .bool false]) ∧ w = w' := by
  have i0 := a0.2
  have c0 := a0.1
  have i1 := a1.2
  have c1 := a1.1
  clear a0 a1
  go_enter Tryd.func21, Tryd.ntmps21
  go_wp2_with fail
  refine (refRow_any b0 c0 w).mono ?_
  rintro e w' ⟨rfl, rfl⟩
  rw [hrow.out]
  go_wp2_with fail
  refine wp_loop_rounds 1 ?_
  rw [rounds_succ]
  go_wp2
  go_ret3
  exact ⟨rfl, rfl⟩
set_option maxRecDepth 100000 in
set_option maxHeartbeats 1000000 in
theorem refDec_bad1_1_1 (s : ByteArray) (b0 b1 L H : Nat) (hz : s.toList.isEmpty = false) (hrow : Hid ((.tuple #[.int .i64 (behind (rowIx b0)), .int .u8 (low2 (rowIx b0) : Nat), .int .u8 (high2 (rowIx b0) : Nat)] : Value) = .tuple #[.int .i64 1, .int .u8 (L : Nat), .int .u8 (H : Nat)])) (a0 : At s 0 b0) (a1 : At s 1 b1) (hsz : decide (((s.size : Nat) : Int) ≤ 1) = false) (hm : 192 ≤ b0) (l1 : decide (b1 < L) = false) (h1 : decide (H < b1) = true) (w : World) :
    Calls Tryd.prog 21 #[.string s] w fun e w' => e = .returned (.tuple #[.int .i64 0, .int .i64 0, .bool false]) ∧ w = w' := by
  have i0 := a0.2
  have c0 := a0.1
  have i1 := a1.2
  have c1 := a1.1
  clear a0 a1
  go_enter Tryd.func21, Tryd.ntmps21
  go_wp2_with fail
  refine (refRow_any b0 c0 w).mono ?_
  rintro e w' ⟨rfl, rfl⟩
  rw [hrow.out]
  go_wp2_with fail
  refine wp_loop_rounds 1 ?_
  rw [rounds_succ]
  go_wp2
  go_ret3
  exact ⟨rfl, rfl⟩
set_option maxRecDepth 100000 in
set_option maxHeartbeats 1000000 in
theorem refDec_good1 (s : ByteArray) (b0 b1 L H : Nat) (hz : s.toList.isEmpty = false) (hrow : Hid ((.tuple #[.int .i64 (behind (rowIx b0)), .int .u8 (low2 (rowIx b0) : Nat), .int .u8 (high2 (rowIx b0) : Nat)] : Value) = .tuple #[.int .i64 1, .int .u8 (L : Nat), .int .u8 (H : Nat)])) (a0 : At s 0 b0) (a1 : At s 1 b1) (hsz : decide (((s.size : Nat) : Int) ≤ 1) = false) (hm : 192 ≤ b0) (l1 : decide (b1 < L) = false) (h1 : decide (H < b1) = false) (x1 : decide (((b1 : Nat) : Int) < 128) = false) (y1 : decide (191 < ((b1 : Nat) : Int)) = false) (z1 : 128 ≤ b1 ∧ b1 ≤ 191) (w : World) :
    Calls Tryd.prog 21 #[.string s] w fun e w' => e = .returned (.tuple #[.int .i64 (64 * (((b0 : Nat) : Int) - 192) + ((b1 : Nat) : Int) - 128), .int .i64 2, .bool true]) ∧ w = w' := by
  have i0 := a0.2
  have c0 := a0.1
  have i1 := a1.2
  have c1 := a1.1
  clear a0 a1
  go_enter Tryd.func21, Tryd.ntmps21
  go_wp2_with fail
  refine (refRow_any b0 c0 w).mono ?_
  rintro e w' ⟨rfl, rfl⟩
  rw [hrow.out]
  go_wp2_with fail
  refine wp_loop_rounds 2 ?_
  rw [rounds_succ]
  go_wp2
  rw [rounds_succ]
  go_wp2
  go_ret3
  exact ⟨rfl, rfl⟩
set_option maxRecDepth 100000 in
set_option maxHeartbeats 1000000 in
theorem refDec_short2 (s : ByteArray) (b0 L H : Nat) (hz : s.toList.isEmpty = false) (hrow : Hid ((.tuple #[.int .i64 (behind (rowIx b0)), .int .u8 (low2 (rowIx b0) : Nat), .int .u8 (high2 (rowIx b0) : Nat)] : Value) = .tuple #[.int .i64 2, .int .u8 (L : Nat), .int .u8 (H : Nat)])) (a0 : At s 0 b0) (hsz : decide (((s.size : Nat) : Int) ≤ 2) = true) (w : World) :
    Calls Tryd.prog 21 #[.string s] w fun e w' => e = .returned (.tuple #[.int .i64 0, .int .i64 0, .bool false]) ∧ w = w' := by
  have i0 := a0.2
  have c0 := a0.1
  clear a0
  go_enter Tryd.func21, Tryd.ntmps21
  go_wp2_with fail
  refine (refRow_any b0 c0 w).mono ?_
  rintro e w' ⟨rfl, rfl⟩
  rw [hrow.out]
  go_wp2
  go_ret3
  exact ⟨rfl, rfl⟩
set_option maxRecDepth 100000 in
set_option maxHeartbeats 1000000 in
theorem refDec_bad2_1_0 (s : ByteArray) (b0 b1 L H : Nat) (hz : s.toList.isEmpty = false) (hrow : Hid ((.tuple #[.int .i64 (behind (rowIx b0)), .int .u8 (low2 (rowIx b0) : Nat), .int .u8 (high2 (rowIx b0) : Nat)] : Value) = .tuple #[.int .i64 2, .int .u8 (L : Nat), .int .u8 (H : Nat)])) (a0 : At s 0 b0) (a1 : At s 1 b1) (hsz : decide (((s.size : Nat) : Int) ≤ 2) = false) (hm : 224 ≤ b0) (l1 : decide (b1 < L) = true) (w : World) :
    Calls Tryd.prog 21 #[.string s] w fun e w' => e = .returned (.tuple #[.int .i64 0, .int .i64 0, .bool false]) ∧ w = w' := by
  have i0 := a0.2
  have c0 := a0.1
  have i1 := a1.2
  have c1 := a1.1
  clear a0 a1
  go_enter Tryd.func21, Tryd.ntmps21
  go_wp2_with fail
  refine (refRow_any b0 c0 w).mono ?_
  rintro e w' ⟨rfl, rfl⟩
  rw [hrow.out]
  go_wp2_with fail
  refine wp_loop_rounds 1 ?_
  rw [rounds_succ]
  go_wp2
  go_ret3
  exact ⟨rfl, rfl⟩
set_option maxRecDepth 100000 in
set_option maxHeartbeats 1000000 in
theorem refDec_bad2_1_1 (s : ByteArray) (b0 b1 L H : Nat) (hz : s.toList.isEmpty = false) (hrow : Hid ((.tuple #[.int .i64 (behind (rowIx b0)), .int .u8 (low2 (rowIx b0) : Nat), .int .u8 (high2 (rowIx b0) : Nat)] : Value) = .tuple #[.int .i64 2, .int .u8 (L : Nat), .int .u8 (H : Nat)])) (a0 : At s 0 b0) (a1 : At s 1 b1) (hsz : decide (((s.size : Nat) : Int) ≤ 2) = false) (hm : 224 ≤ b0) (l1 : decide (b1 < L) = false) (h1 : decide (H < b1) = true) (w : World) :
    Calls Tryd.prog 21 #[.string s] w fun e w' => e = .returned (.tuple #[.int .i64 0, .int .i64 0, .bool false]) ∧ w = w' := by
  have i0 := a0.2
  have c0 := a0.1
  have i1 := a1.2
  have c1 := a1.1
  clear a0 a1
  go_enter Tryd.func21, Tryd.ntmps21
  go_wp2_with fail
  refine (refRow_any b0 c0 w).mono ?_
  rintro e w' ⟨rfl, rfl⟩
  rw [hrow.out]
  go_wp2_with fail
  refine wp_loop_rounds 1 ?_
  rw [rounds_succ]
  go_wp2
  go_ret3
  exact ⟨rfl, rfl⟩
set_option maxRecDepth 100000 in
set_option maxHeartbeats 1000000 in
theorem refDec_bad2_2_0 (s : ByteArray) (b0 b1 b2 L H : Nat) (hz : s.toList.isEmpty = false) (hrow : Hid ((.tuple #[.int .i64 (behind (rowIx b0)), .int .u8 (low2 (rowIx b0) : Nat), .int .u8 (high2 (rowIx b0) : Nat)] : Value) = .tuple #[.int .i64 2, .int .u8 (L : Nat), .int .u8 (H : Nat)])) (a0 : At s 0 b0) (a1 : At s 1 b1) (a2 : At s 2 b2) (hsz : decide (((s.size : Nat) : Int) ≤ 2) = false) (hm : 224 ≤ b0) (l1 : decide (b1 < L) = false) (h1 : decide (H < b1) = false) (x1 : decide (((b1 : Nat) : Int) < 128) = false) (y1 : decide (191 < ((b1 : Nat) : Int)) = false) (z1 : 128 ≤ b1 ∧ b1 ≤ 191) (x2 : decide (((b2 : Nat) : Int) < 128) = true) (w : World) :
    Calls Tryd.prog 21 #[.string s] w fun e w' => e = .returned (.tuple #[.int .i64 0, .int .i64 0, .bool false]) ∧ w = w' := by
  have i0 := a0.2
  have c0 := a0.1
  have i1 := a1.2
  have c1 := a1.1
  have i2 := a2.2
  have c2 := a2.1
  clear a0 a1 a2
  go_enter Tryd.func21, Tryd.ntmps21
  go_wp2_with fail
  refine (refRow_any b0 c0 w).mono ?_
  rintro e w' ⟨rfl, rfl⟩
  rw [hrow.out]
  go_wp2_with fail
  refine wp_loop_rounds 2 ?_
  rw [rounds_succ]
  go_wp2
  rw [rounds_succ]
  go_wp2
  go_ret3
  exact ⟨rfl, rfl⟩
set_option maxRecDepth 100000 in
set_option maxHeartbeats 1000000 in
theorem refDec_bad2_2_1 (s : ByteArray) (b0 b1 b2 L H : Nat) (hz : s.toList.isEmpty = false) (hrow : Hid ((.tuple #[.int .i64 (behind (rowIx b0)), .int .u8 (low2 (rowIx b0) : Nat), .int .u8 (high2 (rowIx b0) : Nat)] : Value) = .tuple #[.int .i64 2, .int .u8 (L : Nat), .int .u8 (H : Nat)])) (a0 : At s 0 b0) (a1 : At s 1 b1) (a2 : At s 2 b2) (hsz : decide (((s.size : Nat) : Int) ≤ 2) = false) (hm : 224 ≤ b0) (l1 : decide (b1 < L) = false) (h1 : decide (H < b1) = false) (x1 : decide (((b1 : Nat) : Int) < 128) = false) (y1 : decide (191 < ((b1 : Nat) : Int)) = false) (z1 : 128 ≤ b1 ∧ b1 ≤ 191) (x2 : decide (((b2 : Nat) : Int) < 128) = false) (y2 : decide (191 < ((b2 : Nat) : Int)) = true) (w : World) :
    Calls Tryd.prog 21 #[.string s] w fun e w' => e = .returned (.tuple #[.int .i64 0, .int .i64 0, .bool false]) ∧ w = w' := by
  have i0 := a0.2
  have c0 := a0.1
  have i1 := a1.2
  have c1 := a1.1
  have i2 := a2.2
  have c2 := a2.1
  clear a0 a1 a2
  go_enter Tryd.func21, Tryd.ntmps21
  go_wp2_with fail
  refine (refRow_any b0 c0 w).mono ?_
  rintro e w' ⟨rfl, rfl⟩
  rw [hrow.out]
  go_wp2_with fail
  refine wp_loop_rounds 2 ?_
  rw [rounds_succ]
  go_wp2
  rw [rounds_succ]
  go_wp2
  go_ret3
  exact ⟨rfl, rfl⟩
set_option maxRecDepth 100000 in
set_option maxHeartbeats 1000000 in
theorem refDec_good2 (s : ByteArray) (b0 b1 b2 L H : Nat) (hz : s.toList.isEmpty = false) (hrow : Hid ((.tuple #[.int .i64 (behind (rowIx b0)), .int .u8 (low2 (rowIx b0) : Nat), .int .u8 (high2 (rowIx b0) : Nat)] : Value) = .tuple #[.int .i64 2, .int .u8 (L : Nat), .int .u8 (H : Nat)])) (a0 : At s 0 b0) (a1 : At s 1 b1) (a2 : At s 2 b2) (hsz : decide (((s.size : Nat) : Int) ≤ 2) = false) (hm : 224 ≤ b0) (l1 : decide (b1 < L) = false) (h1 : decide (H < b1) = false) (x1 : decide (((b1 : Nat) : Int) < 128) = false) (y1 : decide (191 < ((b1 : Nat) : Int)) = false) (z1 : 128 ≤ b1 ∧ b1 ≤ 191) (x2 : decide (((b2 : Nat) : Int) < 128) = false) (y2 : decide (191 < ((b2 : Nat) : Int)) = false) (z2 : 128 ≤ b2 ∧ b2 ≤ 191) (w : World) :
    Calls Tryd.prog 21 #[.string s] w fun e w' => e = .returned (.tuple #[.int .i64 (64 * (64 * (((b0 : Nat) : Int) - 224) + ((b1 : Nat) : Int) - 128) + ((b2 : Nat) : Int) - 128), .int .i64 3, .bool true]) ∧ w = w' := by
  have i0 := a0.2
  have c0 := a0.1
  have i1 := a1.2
  have c1 := a1.1
  have i2 := a2.2
  have c2 := a2.1
  clear a0 a1 a2
  go_enter Tryd.func21, Tryd.ntmps21
  go_wp2_with fail
  refine (refRow_any b0 c0 w).mono ?_
  rintro e w' ⟨rfl, rfl⟩
  rw [hrow.out]
  go_wp2_with fail
  refine wp_loop_rounds 3 ?_
  rw [rounds_succ]
  go_wp2
  rw [rounds_succ]
  go_wp2
  rw [rounds_succ]
  go_wp2
  go_ret3
  exact ⟨rfl, rfl⟩
set_option maxRecDepth 100000 in
set_option maxHeartbeats 1000000 in
theorem refDec_short3 (s : ByteArray) (b0 L H : Nat) (hz : s.toList.isEmpty = false) (hrow : Hid ((.tuple #[.int .i64 (behind (rowIx b0)), .int .u8 (low2 (rowIx b0) : Nat), .int .u8 (high2 (rowIx b0) : Nat)] : Value) = .tuple #[.int .i64 3, .int .u8 (L : Nat), .int .u8 (H : Nat)])) (a0 : At s 0 b0) (hsz : decide (((s.size : Nat) : Int) ≤ 3) = true) (w : World) :
    Calls Tryd.prog 21 #[.string s] w fun e w' => e = .returned (.tuple #[.int .i64 0, .int .i64 0, .bool false]) ∧ w = w' := by
  have i0 := a0.2
  have c0 := a0.1
  clear a0
  go_enter Tryd.func21, Tryd.ntmps21
  go_wp2_with fail
  refine (refRow_any b0 c0 w).mono ?_
  rintro e w' ⟨rfl, rfl⟩
  rw [hrow.out]
  go_wp2
  go_ret3
  exact ⟨rfl, rfl⟩
set_option maxRecDepth 100000 in
set_option maxHeartbeats 1000000 in
theorem refDec_bad3_1_0 (s : ByteArray) (b0 b1 L H : Nat) (hz : s.toList.isEmpty = false) (hrow : Hid ((.tuple #[.int .i64 (behind (rowIx b0)), .int .u8 (low2 (rowIx b0) : Nat), .int .u8 (high2 (rowIx b0) : Nat)] : Value) = .tuple #[.int .i64 3, .int .u8 (L : Nat), .int .u8 (H : Nat)])) (a0 : At s 0 b0) (a1 : At s 1 b1) (hsz : decide (((s.size : Nat) : Int) ≤ 3) = false) (hm : 240 ≤ b0) (l1 : decide (b1 < L) = true) (w : World) :
    Calls Tryd.prog 21 #[.string s] w fun e w' => e = .returned (.tuple #[.int .i64 0, .int .i64 0, .bool false]) ∧ w = w' := by
  have i0 := a0.2
  have c0 := a0.1
  have i1 := a1.2
  have c1 := a1.1
  clear a0 a1
  go_enter Tryd.func21, Tryd.ntmps21
  go_wp2_with fail
  refine (refRow_any b0 c0 w).mono ?_
  rintro e w' ⟨rfl, rfl⟩
  rw [hrow.out]
  go_wp2_with fail
  refine wp_loop_rounds 1 ?_
  rw [rounds_succ]
  go_wp2
  go_ret3
  exact ⟨rfl, rfl⟩
set_option maxRecDepth 100000 in
set_option maxHeartbeats 1000000 in
theorem refDec_bad3_1_1 (s : ByteArray) (b0 b1 L H : Nat) (hz : s.toList.isEmpty = false) (hrow : Hid ((.tuple #[.int .i64 (behind (rowIx b0)), .int .u8 (low2 (rowIx b0) : Nat), .int .u8 (high2 (rowIx b0) : Nat)] : Value) = .tuple #[.int .i64 3, .int .u8 (L : Nat), .int .u8 (H : Nat)])) (a0 : At s 0 b0) (a1 : At s 1 b1) (hsz : decide (((s.size : Nat) : Int) ≤ 3) = false) (hm : 240 ≤ b0) (l1 : decide (b1 < L) = false) (h1 : decide (H < b1) = true) (w : World) :
    Calls Tryd.prog 21 #[.string s] w fun e w' => e = .returned (.tuple #[.int .i64 0, .int .i64 0, .bool false]) ∧ w = w' := by
  have i0 := a0.2
  have c0 := a0.1
  have i1 := a1.2
  have c1 := a1.1
  clear a0 a1
  go_enter Tryd.func21, Tryd.ntmps21
  go_wp2_with fail
  refine (refRow_any b0 c0 w).mono ?_
  rintro e w' ⟨rfl, rfl⟩
  rw [hrow.out]
  go_wp2_with fail
  refine wp_loop_rounds 1 ?_
  rw [rounds_succ]
  go_wp2
  go_ret3
  exact ⟨rfl, rfl⟩
set_option maxRecDepth 100000 in
set_option maxHeartbeats 1000000 in
theorem refDec_bad3_2_0 (s : ByteArray) (b0 b1 b2 L H : Nat) (hz : s.toList.isEmpty = false) (hrow : Hid ((.tuple #[.int .i64 (behind (rowIx b0)), .int .u8 (low2 (rowIx b0) : Nat), .int .u8 (high2 (rowIx b0) : Nat)] : Value) = .tuple #[.int .i64 3, .int .u8 (L : Nat), .int .u8 (H : Nat)])) (a0 : At s 0 b0) (a1 : At s 1 b1) (a2 : At s 2 b2) (hsz : decide (((s.size : Nat) : Int) ≤ 3) = false) (hm : 240 ≤ b0) (l1 : decide (b1 < L) = false) (h1 : decide (H < b1) = false) (x1 : decide (((b1 : Nat) : Int) < 128) = false) (y1 : decide (191 < ((b1 : Nat) : Int)) = false) (z1 : 128 ≤ b1 ∧ b1 ≤ 191) (x2 : decide (((b2 : Nat) : Int) < 128) = true) (w : World) :
    Calls Tryd.prog 21 #[.string s] w fun e w' => e = .returned (.tuple #[.int .i64 0, .int .i64 0, .bool false]) ∧ w = w' := by
  have i0 := a0.2
  have c0 := a0.1
  have i1 := a1.2
  have c1 := a1.1
  have i2 := a2.2
  have c2 := a2.1
  clear a0 a1 a2
  go_enter Tryd.func21, Tryd.ntmps21
  go_wp2_with fail
  refine (refRow_any b0 c0 w).mono ?_
  rintro e w' ⟨rfl, rfl⟩
  rw [hrow.out]
  go_wp2_with fail
  refine wp_loop_rounds 2 ?_
  rw [rounds_succ]
  go_wp2
  rw [rounds_succ]
  go_wp2
  go_ret3
  exact ⟨rfl, rfl⟩
set_option maxRecDepth 100000 in
set_option maxHeartbeats 1000000 in
theorem refDec_bad3_2_1 (s : ByteArray) (b0 b1 b2 L H : Nat) (hz : s.toList.isEmpty = false) (hrow : Hid ((.tuple #[.int .i64 (behind (rowIx b0)), .int .u8 (low2 (rowIx b0) : Nat), .int .u8 (high2 (rowIx b0) : Nat)] : Value) = .tuple #[.int .i64 3, .int .u8 (L : Nat), .int .u8 (H : Nat)])) (a0 : At s 0 b0) (a1 : At s 1 b1) (a2 : At s 2 b2) (hsz : decide (((s.size : Nat) : Int) ≤ 3) = false) (hm : 240 ≤ b0) (l1 : decide (b1 < L) = false) (h1 : decide (H < b1) = false) (x1 : decide (((b1 : Nat) : Int) < 128) = false) (y1 : decide (191 < ((b1 : Nat) : Int)) = false) (z1 : 128 ≤ b1 ∧ b1 ≤ 191) (x2 : decide (((b2 : Nat) : Int) < 128) = false) (y2 : decide (191 < ((b2 : Nat) : Int)) = true) (w : World) :
    Calls Tryd.prog 21 #[.string s] w fun e w' => e = .returned (.tuple #[.int .i64 0, .int .i64 0, .bool false]) ∧ w = w' := by
  have i0 := a0.2
  have c0 := a0.1
  have i1 := a1.2
  have c1 := a1.1
  have i2 := a2.2
  have c2 := a2.1
  clear a0 a1 a2
  go_enter Tryd.func21, Tryd.ntmps21
  go_wp2_with fail
  refine (refRow_any b0 c0 w).mono ?_
  rintro e w' ⟨rfl, rfl⟩
  rw [hrow.out]
  go_wp2_with fail
  refine wp_loop_rounds 2 ?_
  rw [rounds_succ]
  go_wp2
  rw [rounds_succ]
  go_wp2
  go_ret3
  exact ⟨rfl, rfl⟩
set_option maxRecDepth 100000 in
set_option maxHeartbeats 1000000 in
theorem refDec_bad3_3_0 (s : ByteArray) (b0 b1 b2 b3 L H : Nat) (hz : s.toList.isEmpty = false) (hrow : Hid ((.tuple #[.int .i64 (behind (rowIx b0)), .int .u8 (low2 (rowIx b0) : Nat), .int .u8 (high2 (rowIx b0) : Nat)] : Value) = .tuple #[.int .i64 3, .int .u8 (L : Nat), .int .u8 (H : Nat)])) (a0 : At s 0 b0) (a1 : At s 1 b1) (a2 : At s 2 b2) (a3 : At s 3 b3) (hsz : decide (((s.size : Nat) : Int) ≤ 3) = false) (hm : 240 ≤ b0) (l1 : decide (b1 < L) = false) (h1 : decide (H < b1) = false) (x1 : decide (((b1 : Nat) : Int) < 128) = false) (y1 : decide (191 < ((b1 : Nat) : Int)) = false) (z1 : 128 ≤ b1 ∧ b1 ≤ 191) (x2 : decide (((b2 : Nat) : Int) < 128) = false) (y2 : decide (191 < ((b2 : Nat) : Int)) = false) (z2 : 128 ≤ b2 ∧ b2 ≤ 191) (x3 : decide (((b3 : Nat) : Int) < 128) = true) (w : World) :
    Calls Tryd.prog 21 #[.string s] w fun e w' => e = .returned (.tuple #[.int .i64 0, .int .i64 0, .bool false]) ∧ w = w' := by
  have i0 := a0.2
  have c0 := a0.1
  have i1 := a1.2
  have c1 := a1.1
  have i2 := a2.2
  have c2 := a2.1
  have i3 := a3.2
  have c3 := a3.1
  clear a0 a1 a2 a3
  go_enter Tryd.func21, Tryd.ntmps21
  go_wp2_with fail
  refine (refRow_any b0 c0 w).mono ?_
  rintro e w' ⟨rfl, rfl⟩
  rw [hrow.out]
  go_wp2_with fail
  refine wp_loop_rounds 3 ?_
  rw [rounds_succ]
  go_wp2
  rw [rounds_succ]
  go_wp2
  rw [rounds_succ]
  go_wp2
  go_ret3
  exact ⟨rfl, rfl⟩
set_option maxRecDepth 100000 in
set_option maxHeartbeats 1000000 in
theorem refDec_bad3_3_1 (s : ByteArray) (b0 b1 b2 b3 L H : Nat) (hz : s.toList.isEmpty = false) (hrow : Hid ((.tuple #[.int .i64 (behind (rowIx b0)), .int .u8 (low2 (rowIx b0) : Nat), .int .u8 (high2 (rowIx b0) : Nat)] : Value) = .tuple #[.int .i64 3, .int .u8 (L : Nat), .int .u8 (H : Nat)])) (a0 : At s 0 b0) (a1 : At s 1 b1) (a2 : At s 2 b2) (a3 : At s 3 b3) (hsz : decide (((s.size : Nat) : Int) ≤ 3) = false) (hm : 240 ≤ b0) (l1 : decide (b1 < L) = false) (h1 : decide (H < b1) = false) (x1 : decide (((b1 : Nat) : Int) < 128) = false) (y1 : decide (191 < ((b1 : Nat) : Int)) = false) (z1 : 128 ≤ b1 ∧ b1 ≤ 191) (x2 : decide (((b2 : Nat) : Int) < 128) = false) (y2 : decide (191 < ((b2 : Nat) : Int)) = false) (z2 : 128 ≤ b2 ∧ b2 ≤ 191) (x3 : decide (((b3 : Nat) : Int) < 128) = false) (y3 : decide (191 < ((b3 : Nat) : Int)) = true) (w : World) :
    Calls Tryd.prog 21 #[.string s] w fun e w' => e = .returned (.tuple #[.int .i64 0, .int .i64 0, .bool false]) ∧ w = w' := by
  have i0 := a0.2
  have c0 := a0.1
  have i1 := a1.2
  have c1 := a1.1
  have i2 := a2.2
  have c2 := a2.1
  have i3 := a3.2
  have c3 := a3.1
  clear a0 a1 a2 a3
  go_enter Tryd.func21, Tryd.ntmps21
  go_wp2_with fail
  refine (refRow_any b0 c0 w).mono ?_
  rintro e w' ⟨rfl, rfl⟩
  rw [hrow.out]
  go_wp2_with fail
  refine wp_loop_rounds 3 ?_
  rw [rounds_succ]
  go_wp2
  rw [rounds_succ]
  go_wp2
  rw [rounds_succ]
  go_wp2
  go_ret3
  exact ⟨rfl, rfl⟩
set_option maxRecDepth 100000 in
set_option maxHeartbeats 1000000 in
theorem refDec_good3 (s : ByteArray) (b0 b1 b2 b3 L H : Nat) (hz : s.toList.isEmpty = false) (hrow : Hid ((.tuple #[.int .i64 (behind (rowIx b0)), .int .u8 (low2 (rowIx b0) : Nat), .int .u8 (high2 (rowIx b0) : Nat)] : Value) = .tuple #[.int .i64 3, .int .u8 (L : Nat), .int .u8 (H : Nat)])) (a0 : At s 0 b0) (a1 : At s 1 b1) (a2 : At s 2 b2) (a3 : At s 3 b3) (hsz : decide (((s.size : Nat) : Int) ≤ 3) = false) (hm : 240 ≤ b0) (l1 : decide (b1 < L) = false) (h1 : decide (H < b1) = false) (x1 : decide (((b1 : Nat) : Int) < 128) = false) (y1 : decide (191 < ((b1 : Nat) : Int)) = false) (z1 : 128 ≤ b1 ∧ b1 ≤ 191) (x2 : decide (((b2 : Nat) : Int) < 128) = false) (y2 : decide (191 < ((b2 : Nat) : Int)) = false) (z2 : 128 ≤ b2 ∧ b2 ≤ 191) (x3 : decide (((b3 : Nat) : Int) < 128) = false) (y3 : decide (191 < ((b3 : Nat) : Int)) = false) (z3 : 128 ≤ b3 ∧ b3 ≤ 191) (w : World) :
    Calls Tryd.prog 21 #[.string s] w fun e w' => e = .returned (.tuple #[.int .i64 (64 * (64 * (64 * (((b0 : Nat) : Int) - 240) + ((b1 : Nat) : Int) - 128) + ((b2 : Nat) : Int) - 128) + ((b3 : Nat) : Int) - 128), .int .i64 4, .bool true]) ∧ w = w' := by
  have i0 := a0.2
  have c0 := a0.1
  have i1 := a1.2
  have c1 := a1.1
  have i2 := a2.2
  have c2 := a2.1
  have i3 := a3.2
  have c3 := a3.1
  clear a0 a1 a2 a3
  go_enter Tryd.func21, Tryd.ntmps21
  go_wp2_with fail
  refine (refRow_any b0 c0 w).mono ?_
  rintro e w' ⟨rfl, rfl⟩
  rw [hrow.out]
  go_wp2_with fail
  refine wp_loop_rounds 4 ?_
  rw [rounds_succ]
  go_wp2
  rw [rounds_succ]
  go_wp2
  rw [rounds_succ]
  go_wp2
  rw [rounds_succ]
  go_wp2
  go_ret3
  exact ⟨rfl, rfl⟩
end Go.Proofs.YthnfekilmiodpaaDoor

namespace Go.Proofs.YthnfekilmiodpaaDoor
open Go.RowKit

theorem at_of {s : ByteArray} {i : Nat} {b : UInt8} (h : s.data.toList[i]? = some b) : At s (i : Nat) b.toNat := by
  refine ⟨b.toNat_lt, fun W => ?_⟩
  have hi : i < s.size := by
    rw [Array.getElem?_toList] at h
    obtain ⟨hlt, _⟩ := Array.getElem?_eq_some_iff.1 h
    exact hlt
  have hb : s[i] = b := by
    rw [Array.getElem?_toList, Array.getElem?_eq_getElem (by exact hi)] at h
    exact Option.some.inj h
  rw [run_index_string _ _ _ _ _ Tryd.underlying9]
  rw [dif_pos ⟨by omega, by simpa using hi⟩]
  simp [hb]
abbrev NoneV : Value := .tuple #[.int .i64 0, .int .i64 0, .bool false]
theorem not_empty {s : ByteArray} {b : UInt8} {t : List UInt8} (h : s.data.toList = b :: t) : s.toList.isEmpty = false := by
  rw [Lib.toList_data, h]; rfl
theorem size_list (s : ByteArray) : s.size = s.data.toList.length := by simp

theorem dec_short {b : UInt8} {t : List UInt8} {k m : Nat} (hk : rowIx b.toNat = k) (hz : sz k = m + 1) (hl : (b :: t).length ≤ m) : decL (b :: t) = none := by
  rw [decL_cons, hk, if_neg]
  rintro ⟨_, hf⟩
  simp only [fitsB, Bool.and_eq_true, decide_eq_true_eq, List.length_take] at hf
  omega

set_option maxRecDepth 100000 in
theorem refDecode_row0 (s : ByteArray) (b0 : UInt8) (u : List UInt8) (k : Nat) (hs : s.data.toList = b0 :: u) (hk : rowIx b0.toNat = k) (h9 : k < 9) (hz : sz k = 1) (hmk : mk k = 0) (_ : k = 0) (w : World) :
    Calls Tryd.prog 21 #[.string s] w fun e w' => e = .returned (decV s.data.toList) ∧ w = w' := by
  have hne := not_empty hs
  have hrow : Hid ((.tuple #[.int .i64 (behind (rowIx b0.toNat)), .int .u8 (low2 (rowIx b0.toNat) : Nat), .int .u8 (high2 (rowIx b0.toNat) : Nat)] : Value) = .tuple #[.int .i64 0, .int .u8 (low2 k : Nat), .int .u8 (high2 k : Nat)]) := by
    show _ = _
    rw [hk]
    unfold behind
    rw [if_pos h9, hz]
    rfl
  have a0 : At s 0 b0.toNat := at_of (i := 0) (by rw [hs]; rfl)
  have hsz := size_list s
  rw [hs] at hsz ⊢
  have hf := (rowIx_iff h9 b0.toNat).2 hk
  have hdec : decL (b0 :: u) = if k < 9 ∧ fitsB k [b0] = true then some (joinB k [b0], 1) else none := by
    rw [decL_cons, hk, hz]
    rfl
  have hv : decL (b0 :: u) = some (joinB k [b0], 1) := by rw [hdec, if_pos ⟨h9, (fits1 k b0).2 ⟨hz, hf⟩⟩]
  rw [decV_some hv, join1, hmk]
  have hval : ((((b0.toNat - 0) : Nat)) : Int) = ((b0.toNat : Nat) : Int) := by omega
  rw [hval]
  exact refDec_good0 s b0.toNat (low2 k) (high2 k) hne hrow a0 (by rw [hsz]; simp) w
set_option maxRecDepth 100000 in
theorem refDecode_row1 (s : ByteArray) (b0 : UInt8) (u : List UInt8) (k : Nat) (hs : s.data.toList = b0 :: u) (hk : rowIx b0.toNat = k) (h9 : k < 9) (hz : sz k = 2) (hmk : mk k = 192) (hlo : low2 k = sl k) (hhi : high2 k = sh k) (hsl : 128 ≤ sl k) (hsh : sh k ≤ 191) (w : World) :
    Calls Tryd.prog 21 #[.string s] w fun e w' => e = .returned (decV s.data.toList) ∧ w = w' := by
  have hne := not_empty hs
  have hrow : Hid ((.tuple #[.int .i64 (behind (rowIx b0.toNat)), .int .u8 (low2 (rowIx b0.toNat) : Nat), .int .u8 (high2 (rowIx b0.toNat) : Nat)] : Value) = .tuple #[.int .i64 1, .int .u8 (low2 k : Nat), .int .u8 (high2 k : Nat)]) := by
    show _ = _
    rw [hk]
    unfold behind
    rw [if_pos h9, hz]
    rfl
  have a0 : At s 0 b0.toNat := at_of (i := 0) (by rw [hs]; rfl)
  have hsz := size_list s
  rw [hs] at hsz ⊢
  rcases Nat.lt_or_ge 1 (b0 :: u).length with hlen | hlen
  · have hf := (rowIx_iff h9 b0.toNat).2 hk
    obtain ⟨b1, t, rfl⟩ : ∃ b1 t, u = b1 :: t := by
      match u, hlen with
      | b1 :: t, _ => exact ⟨b1, t, rfl⟩
    have a1 : At s 1 b1.toNat := at_of (i := 1) (by rw [hs]; rfl)
    have hM : 192 ≤ b0.toNat := by have := mk_le h9; omega
    have hd : decide (((s.size : Nat) : Int) ≤ 1) = false := by rw [hsz]; simp only [decide_eq_false_iff_not, List.length_cons]; omega
    have hdec : decL (b0 :: b1 :: t) = if k < 9 ∧ fitsB k [b0, b1] = true then some (joinB k [b0, b1], 2) else none := by
      rw [decL_cons, hk, hz]
      rfl
    by_cases g1_0 : b1.toNat < sl k
    · have hv : decL (b0 :: b1 :: t) = none := by rw [hdec, if_neg (fun h => by have := (fits2 k b0 b1).1 h.2; omega)]
      rw [decV_none hv]
      exact refDec_bad1_1_0 s b0.toNat b1.toNat (low2 k) (high2 k) hne hrow a0 a1 hd hM (decide_eq_true (show b1.toNat < low2 k by omega)) w
    · skip
      by_cases g1_1 : sh k < b1.toNat
      · have hv : decL (b0 :: b1 :: t) = none := by rw [hdec, if_neg (fun h => by have := (fits2 k b0 b1).1 h.2; omega)]
        rw [decV_none hv]
        exact refDec_bad1_1_1 s b0.toNat b1.toNat (low2 k) (high2 k) hne hrow a0 a1 hd hM (decide_eq_false (show ¬ b1.toNat < low2 k by omega)) (decide_eq_true (show high2 k < b1.toNat by omega)) w
      · skip
        have hv : decL (b0 :: b1 :: t) = some (joinB k [b0, b1], 2) := by rw [hdec, if_pos ⟨h9, (fits2 k b0 b1).2 ⟨hz, hf, ⟨by omega, by omega⟩⟩⟩]
        rw [decV_some hv, join2, hmk]
        have hval : (((((b0.toNat - 192) * 64 + (b1.toNat - 128)) : Nat)) : Int) = 64 * (((b0.toNat : Nat) : Int) - 192) + ((b1.toNat : Nat) : Int) - 128 := by omega
        rw [hval]
        exact refDec_good1 s b0.toNat b1.toNat (low2 k) (high2 k) hne hrow a0 a1 hd hM (decide_eq_false (show ¬ b1.toNat < low2 k by omega)) (decide_eq_false (show ¬ high2 k < b1.toNat by omega)) (decide_eq_false (show ¬ ((b1.toNat : Nat) : Int) < 128 by omega)) (decide_eq_false (show ¬ (191 : Int) < ((b1.toNat : Nat) : Int) by omega)) ⟨by omega, by omega⟩ w
  · rw [decV_none (dec_short hk hz hlen)]
    exact refDec_short1 s b0.toNat (low2 k) (high2 k) hne hrow a0 (by rw [hsz]; simp only [decide_eq_true_eq]; omega) w
set_option maxRecDepth 100000 in
theorem refDecode_row2 (s : ByteArray) (b0 : UInt8) (u : List UInt8) (k : Nat) (hs : s.data.toList = b0 :: u) (hk : rowIx b0.toNat = k) (h9 : k < 9) (hz : sz k = 3) (hmk : mk k = 224) (hlo : low2 k = sl k) (hhi : high2 k = sh k) (hsl : 128 ≤ sl k) (hsh : sh k ≤ 191) (w : World) :
    Calls Tryd.prog 21 #[.string s] w fun e w' => e = .returned (decV s.data.toList) ∧ w = w' := by
  have hne := not_empty hs
  have hrow : Hid ((.tuple #[.int .i64 (behind (rowIx b0.toNat)), .int .u8 (low2 (rowIx b0.toNat) : Nat), .int .u8 (high2 (rowIx b0.toNat) : Nat)] : Value) = .tuple #[.int .i64 2, .int .u8 (low2 k : Nat), .int .u8 (high2 k : Nat)]) := by
    show _ = _
    rw [hk]
    unfold behind
    rw [if_pos h9, hz]
    rfl
  have a0 : At s 0 b0.toNat := at_of (i := 0) (by rw [hs]; rfl)
  have hsz := size_list s
  rw [hs] at hsz ⊢
  rcases Nat.lt_or_ge 2 (b0 :: u).length with hlen | hlen
  · have hf := (rowIx_iff h9 b0.toNat).2 hk
    obtain ⟨b1, b2, t, rfl⟩ : ∃ b1 b2 t, u = b1 :: b2 :: t := by
      match u, hlen with
      | b1 :: b2 :: t, _ => exact ⟨b1, b2, t, rfl⟩
    have a1 : At s 1 b1.toNat := at_of (i := 1) (by rw [hs]; rfl)
    have a2 : At s 2 b2.toNat := at_of (i := 2) (by rw [hs]; rfl)
    have hM : 224 ≤ b0.toNat := by have := mk_le h9; omega
    have hd : decide (((s.size : Nat) : Int) ≤ 2) = false := by rw [hsz]; simp only [decide_eq_false_iff_not, List.length_cons]; omega
    have hdec : decL (b0 :: b1 :: b2 :: t) = if k < 9 ∧ fitsB k [b0, b1, b2] = true then some (joinB k [b0, b1, b2], 3) else none := by
      rw [decL_cons, hk, hz]
      rfl
    by_cases g1_0 : b1.toNat < sl k
    · have hv : decL (b0 :: b1 :: b2 :: t) = none := by rw [hdec, if_neg (fun h => by have := (fits3 k b0 b1 b2).1 h.2; omega)]
      rw [decV_none hv]
      exact refDec_bad2_1_0 s b0.toNat b1.toNat (low2 k) (high2 k) hne hrow a0 a1 hd hM (decide_eq_true (show b1.toNat < low2 k by omega)) w
    · skip
      by_cases g1_1 : sh k < b1.toNat
      · have hv : decL (b0 :: b1 :: b2 :: t) = none := by rw [hdec, if_neg (fun h => by have := (fits3 k b0 b1 b2).1 h.2; omega)]
        rw [decV_none hv]
        exact refDec_bad2_1_1 s b0.toNat b1.toNat (low2 k) (high2 k) hne hrow a0 a1 hd hM (decide_eq_false (show ¬ b1.toNat < low2 k by omega)) (decide_eq_true (show high2 k < b1.toNat by omega)) w
      · skip
        by_cases g2_0 : b2.toNat < 128
        · have hv : decL (b0 :: b1 :: b2 :: t) = none := by rw [hdec, if_neg (fun h => by have := (fits3 k b0 b1 b2).1 h.2; omega)]
          rw [decV_none hv]
          exact refDec_bad2_2_0 s b0.toNat b1.toNat b2.toNat (low2 k) (high2 k) hne hrow a0 a1 a2 hd hM (decide_eq_false (show ¬ b1.toNat < low2 k by omega)) (decide_eq_false (show ¬ high2 k < b1.toNat by omega)) (decide_eq_false (show ¬ ((b1.toNat : Nat) : Int) < 128 by omega)) (decide_eq_false (show ¬ (191 : Int) < ((b1.toNat : Nat) : Int) by omega)) ⟨by omega, by omega⟩ (decide_eq_true (show ((b2.toNat : Nat) : Int) < 128 by omega)) w
        · skip
          by_cases g2_1 : 191 < b2.toNat
          · have hv : decL (b0 :: b1 :: b2 :: t) = none := by rw [hdec, if_neg (fun h => by have := (fits3 k b0 b1 b2).1 h.2; omega)]
            rw [decV_none hv]
            exact refDec_bad2_2_1 s b0.toNat b1.toNat b2.toNat (low2 k) (high2 k) hne hrow a0 a1 a2 hd hM (decide_eq_false (show ¬ b1.toNat < low2 k by omega)) (decide_eq_false (show ¬ high2 k < b1.toNat by omega)) (decide_eq_false (show ¬ ((b1.toNat : Nat) : Int) < 128 by omega)) (decide_eq_false (show ¬ (191 : Int) < ((b1.toNat : Nat) : Int) by omega)) ⟨by omega, by omega⟩ (decide_eq_false (show ¬ ((b2.toNat : Nat) : Int) < 128 by omega)) (decide_eq_true (show (191 : Int) < ((b2.toNat : Nat) : Int) by omega)) w
          · skip
            have hv : decL (b0 :: b1 :: b2 :: t) = some (joinB k [b0, b1, b2], 3) := by rw [hdec, if_pos ⟨h9, (fits3 k b0 b1 b2).2 ⟨hz, hf, ⟨by omega, by omega⟩, ⟨by omega, by omega⟩⟩⟩]
            rw [decV_some hv, join3, hmk]
            have hval : ((((((b0.toNat - 224) * 64 + (b1.toNat - 128)) * 64 + (b2.toNat - 128)) : Nat)) : Int) = 64 * (64 * (((b0.toNat : Nat) : Int) - 224) + ((b1.toNat : Nat) : Int) - 128) + ((b2.toNat : Nat) : Int) - 128 := by omega
            rw [hval]
            exact refDec_good2 s b0.toNat b1.toNat b2.toNat (low2 k) (high2 k) hne hrow a0 a1 a2 hd hM (decide_eq_false (show ¬ b1.toNat < low2 k by omega)) (decide_eq_false (show ¬ high2 k < b1.toNat by omega)) (decide_eq_false (show ¬ ((b1.toNat : Nat) : Int) < 128 by omega)) (decide_eq_false (show ¬ (191 : Int) < ((b1.toNat : Nat) : Int) by omega)) ⟨by omega, by omega⟩ (decide_eq_false (show ¬ ((b2.toNat : Nat) : Int) < 128 by omega)) (decide_eq_false (show ¬ (191 : Int) < ((b2.toNat : Nat) : Int) by omega)) ⟨by omega, by omega⟩ w
  · rw [decV_none (dec_short hk hz hlen)]
    exact refDec_short2 s b0.toNat (low2 k) (high2 k) hne hrow a0 (by rw [hsz]; simp only [decide_eq_true_eq]; omega) w
set_option maxRecDepth 100000 in
theorem refDecode_row3 (s : ByteArray) (b0 : UInt8) (u : List UInt8) (k : Nat) (hs : s.data.toList = b0 :: u) (hk : rowIx b0.toNat = k) (h9 : k < 9) (hz : sz k = 4) (hmk : mk k = 240) (hlo : low2 k = sl k) (hhi : high2 k = sh k) (hsl : 128 ≤ sl k) (hsh : sh k ≤ 191) (w : World) :
    Calls Tryd.prog 21 #[.string s] w fun e w' => e = .returned (decV s.data.toList) ∧ w = w' := by
  have hne := not_empty hs
  have hrow : Hid ((.tuple #[.int .i64 (behind (rowIx b0.toNat)), .int .u8 (low2 (rowIx b0.toNat) : Nat), .int .u8 (high2 (rowIx b0.toNat) : Nat)] : Value) = .tuple #[.int .i64 3, .int .u8 (low2 k : Nat), .int .u8 (high2 k : Nat)]) := by
    show _ = _
    rw [hk]
    unfold behind
    rw [if_pos h9, hz]
    rfl
  have a0 : At s 0 b0.toNat := at_of (i := 0) (by rw [hs]; rfl)
  have hsz := size_list s
  rw [hs] at hsz ⊢
  rcases Nat.lt_or_ge 3 (b0 :: u).length with hlen | hlen
  · have hf := (rowIx_iff h9 b0.toNat).2 hk
    obtain ⟨b1, b2, b3, t, rfl⟩ : ∃ b1 b2 b3 t, u = b1 :: b2 :: b3 :: t := by
      match u, hlen with
      | b1 :: b2 :: b3 :: t, _ => exact ⟨b1, b2, b3, t, rfl⟩
    have a1 : At s 1 b1.toNat := at_of (i := 1) (by rw [hs]; rfl)
    have a2 : At s 2 b2.toNat := at_of (i := 2) (by rw [hs]; rfl)
    have a3 : At s 3 b3.toNat := at_of (i := 3) (by rw [hs]; rfl)
    have hM : 240 ≤ b0.toNat := by have := mk_le h9; omega
    have hd : decide (((s.size : Nat) : Int) ≤ 3) = false := by rw [hsz]; simp only [decide_eq_false_iff_not, List.length_cons]; omega
    have hdec : decL (b0 :: b1 :: b2 :: b3 :: t) = if k < 9 ∧ fitsB k [b0, b1, b2, b3] = true then some (joinB k [b0, b1, b2, b3], 4) else none := by
      rw [decL_cons, hk, hz]
      rfl
    by_cases g1_0 : b1.toNat < sl k
    · have hv : decL (b0 :: b1 :: b2 :: b3 :: t) = none := by rw [hdec, if_neg (fun h => by have := (fits4 k b0 b1 b2 b3).1 h.2; omega)]
      rw [decV_none hv]
      exact refDec_bad3_1_0 s b0.toNat b1.toNat (low2 k) (high2 k) hne hrow a0 a1 hd hM (decide_eq_true (show b1.toNat < low2 k by omega)) w
    · skip
      by_cases g1_1 : sh k < b1.toNat
      · have hv : decL (b0 :: b1 :: b2 :: b3 :: t) = none := by rw [hdec, if_neg (fun h => by have := (fits4 k b0 b1 b2 b3).1 h.2; omega)]
        rw [decV_none hv]
        exact refDec_bad3_1_1 s b0.toNat b1.toNat (low2 k) (high2 k) hne hrow a0 a1 hd hM (decide_eq_false (show ¬ b1.toNat < low2 k by omega)) (decide_eq_true (show high2 k < b1.toNat by omega)) w
      · skip
        by_cases g2_0 : b2.toNat < 128
        · have hv : decL (b0 :: b1 :: b2 :: b3 :: t) = none := by rw [hdec, if_neg (fun h => by have := (fits4 k b0 b1 b2 b3).1 h.2; omega)]
          rw [decV_none hv]
          exact refDec_bad3_2_0 s b0.toNat b1.toNat b2.toNat (low2 k) (high2 k) hne hrow a0 a1 a2 hd hM (decide_eq_false (show ¬ b1.toNat < low2 k by omega)) (decide_eq_false (show ¬ high2 k < b1.toNat by omega)) (decide_eq_false (show ¬ ((b1.toNat : Nat) : Int) < 128 by omega)) (decide_eq_false (show ¬ (191 : Int) < ((b1.toNat : Nat) : Int) by omega)) ⟨by omega, by omega⟩ (decide_eq_true (show ((b2.toNat : Nat) : Int) < 128 by omega)) w
        · skip
          by_cases g2_1 : 191 < b2.toNat
          · have hv : decL (b0 :: b1 :: b2 :: b3 :: t) = none := by rw [hdec, if_neg (fun h => by have := (fits4 k b0 b1 b2 b3).1 h.2; omega)]
            rw [decV_none hv]
            exact refDec_bad3_2_1 s b0.toNat b1.toNat b2.toNat (low2 k) (high2 k) hne hrow a0 a1 a2 hd hM (decide_eq_false (show ¬ b1.toNat < low2 k by omega)) (decide_eq_false (show ¬ high2 k < b1.toNat by omega)) (decide_eq_false (show ¬ ((b1.toNat : Nat) : Int) < 128 by omega)) (decide_eq_false (show ¬ (191 : Int) < ((b1.toNat : Nat) : Int) by omega)) ⟨by omega, by omega⟩ (decide_eq_false (show ¬ ((b2.toNat : Nat) : Int) < 128 by omega)) (decide_eq_true (show (191 : Int) < ((b2.toNat : Nat) : Int) by omega)) w
          · skip
            by_cases g3_0 : b3.toNat < 128
            · have hv : decL (b0 :: b1 :: b2 :: b3 :: t) = none := by rw [hdec, if_neg (fun h => by have := (fits4 k b0 b1 b2 b3).1 h.2; omega)]
              rw [decV_none hv]
              exact refDec_bad3_3_0 s b0.toNat b1.toNat b2.toNat b3.toNat (low2 k) (high2 k) hne hrow a0 a1 a2 a3 hd hM (decide_eq_false (show ¬ b1.toNat < low2 k by omega)) (decide_eq_false (show ¬ high2 k < b1.toNat by omega)) (decide_eq_false (show ¬ ((b1.toNat : Nat) : Int) < 128 by omega)) (decide_eq_false (show ¬ (191 : Int) < ((b1.toNat : Nat) : Int) by omega)) ⟨by omega, by omega⟩ (decide_eq_false (show ¬ ((b2.toNat : Nat) : Int) < 128 by omega)) (decide_eq_false (show ¬ (191 : Int) < ((b2.toNat : Nat) : Int) by omega)) ⟨by omega, by omega⟩ (decide_eq_true (show ((b3.toNat : Nat) : Int) < 128 by omega)) w
            · skip
              by_cases g3_1 : 191 < b3.toNat
              · have hv : decL (b0 :: b1 :: b2 :: b3 :: t) = none := by rw [hdec, if_neg (fun h => by have := (fits4 k b0 b1 b2 b3).1 h.2; omega)]
                rw [decV_none hv]
                exact refDec_bad3_3_1 s b0.toNat b1.toNat b2.toNat b3.toNat (low2 k) (high2 k) hne hrow a0 a1 a2 a3 hd hM (decide_eq_false (show ¬ b1.toNat < low2 k by omega)) (decide_eq_false (show ¬ high2 k < b1.toNat by omega)) (decide_eq_false (show ¬ ((b1.toNat : Nat) : Int) < 128 by omega)) (decide_eq_false (show ¬ (191 : Int) < ((b1.toNat : Nat) : Int) by omega)) ⟨by omega, by omega⟩ (decide_eq_false (show ¬ ((b2.toNat : Nat) : Int) < 128 by omega)) (decide_eq_false (show ¬ (191 : Int) < ((b2.toNat : Nat) : Int) by omega)) ⟨by omega, by omega⟩ (decide_eq_false (show ¬ ((b3.toNat : Nat) : Int) < 128 by omega)) (decide_eq_true (show (191 : Int) < ((b3.toNat : Nat) : Int) by omega)) w
              · skip
                have hv : decL (b0 :: b1 :: b2 :: b3 :: t) = some (joinB k [b0, b1, b2, b3], 4) := by rw [hdec, if_pos ⟨h9, (fits4 k b0 b1 b2 b3).2 ⟨hz, hf, ⟨by omega, by omega⟩, ⟨by omega, by omega⟩, ⟨by omega, by omega⟩⟩⟩]
                rw [decV_some hv, join4, hmk]
                have hval : (((((((b0.toNat - 240) * 64 + (b1.toNat - 128)) * 64 + (b2.toNat - 128)) * 64 + (b3.toNat - 128)) : Nat)) : Int) = 64 * (64 * (64 * (((b0.toNat : Nat) : Int) - 240) + ((b1.toNat : Nat) : Int) - 128) + ((b2.toNat : Nat) : Int) - 128) + ((b3.toNat : Nat) : Int) - 128 := by omega
                rw [hval]
                exact refDec_good3 s b0.toNat b1.toNat b2.toNat b3.toNat (low2 k) (high2 k) hne hrow a0 a1 a2 a3 hd hM (decide_eq_false (show ¬ b1.toNat < low2 k by omega)) (decide_eq_false (show ¬ high2 k < b1.toNat by omega)) (decide_eq_false (show ¬ ((b1.toNat : Nat) : Int) < 128 by omega)) (decide_eq_false (show ¬ (191 : Int) < ((b1.toNat : Nat) : Int) by omega)) ⟨by omega, by omega⟩ (decide_eq_false (show ¬ ((b2.toNat : Nat) : Int) < 128 by omega)) (decide_eq_false (show ¬ (191 : Int) < ((b2.toNat : Nat) : Int) by omega)) ⟨by omega, by omega⟩ (decide_eq_false (show ¬ ((b3.toNat : Nat) : Int) < 128 by omega)) (decide_eq_false (show ¬ (191 : Int) < ((b3.toNat : Nat) : Int) by omega)) ⟨by omega, by omega⟩ w
  · rw [decV_none (dec_short hk hz hlen)]
    exact refDec_short3 s b0.toNat (low2 k) (high2 k) hne hrow a0 (by rw [hsz]; simp only [decide_eq_true_eq]; omega) w

theorem refDecode_any (s : ByteArray) (w : World) :
    Calls Tryd.prog 21 #[.string s] w fun e w' => e = .returned (decV s.data.toList) ∧ w = w' := by
  cases hs : s.data.toList with
  | nil => exact refDec_empty s (by rw [Lib.toList_data, hs]; rfl) w
  | cons b u =>
    rw [← hs]
    by_cases h9 : rowIx b.toNat < 9
    · rcases below9 h9 with h | h | h | h | h | h | h | h | h
      · exact refDecode_row0 s b u 0 hs h (by omega) rfl rfl rfl w
      · exact refDecode_row1 s b u 1 hs h (by omega) rfl rfl rfl rfl (by decide) (by decide) w
      · exact refDecode_row2 s b u 2 hs h (by omega) rfl rfl rfl rfl (by decide) (by decide) w
      · exact refDecode_row2 s b u 3 hs h (by omega) rfl rfl rfl rfl (by decide) (by decide) w
      · exact refDecode_row2 s b u 4 hs h (by omega) rfl rfl rfl rfl (by decide) (by decide) w
      · exact refDecode_row2 s b u 5 hs h (by omega) rfl rfl rfl rfl (by decide) (by decide) w
      · exact refDecode_row3 s b u 6 hs h (by omega) rfl rfl rfl rfl (by decide) (by decide) w
      · exact refDecode_row3 s b u 7 hs h (by omega) rfl rfl rfl rfl (by decide) (by decide) w
      · exact refDecode_row3 s b u 8 hs h (by omega) rfl rfl rfl rfl (by decide) (by decide) w
    · have h : rowIx b.toNat = 9 := by have := rowIx_le b.toNat; omega
      have hv : decL s.data.toList = none := by rw [hs, decL_cons, if_neg (fun hh => h9 hh.1)]
      rw [decV_none hv]
      exact refDec_neg s b.toNat 0 0 (not_empty hs) (by show _ = _; rw [h]; rfl) (at_of (i := 0) (by rw [hs]; rfl)) w
end Go.Proofs.YthnfekilmiodpaaDoor

namespace Go.Proofs.YthnfekilmiodpaaDoor
open Go.RowKit

theorem empty_yes {s : ByteArray} (h : s.data.toList = []) : s.toList.isEmpty = true := by rw [Lib.toList_data, h]; rfl
theorem empty_no {s : ByteArray} {b : UInt8} {u : List UInt8} (h : s.data.toList = b :: u) : s.toList.isEmpty = false := by rw [Lib.toList_data, h]; rfl
theorem strCells_eq (s : ByteArray) : Lib.strCells s = s.data.toList.map fun b => (.int .u8 (b.toNat : Nat) : Value) := rfl

theorem evs_good_valid {l : List UInt8} {pre : List Nat} (h : evs l = pre.map fun r => (r, false)) : validL l = true ∧ scL l = pre := by
  have hv : validL l = true := by unfold validL; rw [h]; simp
  refine ⟨hv, ?_⟩
  rw [scL_valid hv, h, List.map_map]
  exact List.map_id pre
theorem evs_bad_valid {l : List UInt8} {pre : List (Nat × Bool)} (h : evs l = pre ++ [(0, true)]) : validL l = false := by
  unfold validL; rw [h]; simp

end Go.Proofs.YthnfekilmiodpaaDoor

