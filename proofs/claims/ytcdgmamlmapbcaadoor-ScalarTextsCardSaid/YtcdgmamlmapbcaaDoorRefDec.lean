/- The document's own answers: Decode: the walks. -/
import Derived.Test.YtcdgmamlmapbcaaDoorRefRow
import Derived.LoopN
import Derived.Deep.LoopGhost
namespace Go.Proofs.YtcdgmamlmapbcaaDoor
open Go.RowKit

/-- Place i of s holds b. -/
def At (s : ByteArray) (i : Int) (b : Nat) : Prop := b < 256 ∧ ∀ W, (Instr.index 9 (.string s) (.int .i64 i)).run Tryd.prog W = .ok (.int .u8 (b : Nat)) W

theorem refDec_empty (s : ByteArray) (hz : s.toList.isEmpty = true) (w : World) :
    Calls Tryd.prog 41 #[.string s] w fun e w' => e = .returned (.tuple #[.int .i64 0, .int .i64 0, .bool false]) ∧ w = w' := by
  go_enter Tryd.func41, Tryd.ntmps41
  go_wp2
  go_ret3
  exact ⟨rfl, rfl⟩
set_option maxRecDepth 100000 in
set_option maxHeartbeats 1000000 in
theorem refDec_neg (s : ByteArray) (b0 L H : Nat) (hz : s.toList.isEmpty = false) (hrow : Hid ((.tuple #[.int .i64 (behind (rowIx b0)), .int .u8 (low2 (rowIx b0) : Nat), .int .u8 (high2 (rowIx b0) : Nat)] : Value) = .tuple #[.int .i64 (-1), .int .u8 (L : Nat), .int .u8 (H : Nat)])) (a0 : At s 0 b0)  (w : World) :
    Calls Tryd.prog 41 #[.string s] w fun e w' => e = .returned (.tuple #[.int .i64 0, .int .i64 0, .bool false]) ∧ w = w' := by
  have i0 := a0.2
  have c0 := a0.1
  clear a0
  go_enter Tryd.func41, Tryd.ntmps41
  go_wp2_with fail
  refine (refRow_any b0 c0 w).mono ?_
  rintro e w' ⟨rfl, rfl⟩
  rw [hrow.out]
  go_wp2
  go_ret3
  exact ⟨rfl, rfl⟩
set_option maxRecDepth 100000 in
set_option maxHeartbeats 1000000 in
theorem refDec_good0 (s : ByteArray) (b0 L H : Nat) (hz : s.toList.isEmpty = false) (hrow : Hid ((.tuple #[.int .i64 (behind (rowIx b0)), .int .u8 (low2 (rowIx b0) : Nat), .int .u8 (high2 (rowIx b0) : Nat)] : Value) = .tuple #[.int .i64 0, .int .u8 (L : Nat), .int .u8 (H : Nat)])) (a0 : At s 0 b0) (hsz : ¬ s.size = 0) (w : World) :
    Calls Tryd.prog 41 #[.string s] w fun e w' => e = .returned (.tuple #[.int .i64 (((b0 : Nat) : Int)), .int .i64 1, .bool true]) ∧ w = w' := by
  have i0 := a0.2
  have c0 := a0.1
  clear a0
  go_enter Tryd.func41, Tryd.ntmps41
  go_wp2_with fail
  refine (refRow_any b0 c0 w).mono ?_
  rintro e w' ⟨rfl, rfl⟩
  rw [hrow.out]
  go_wp2_with fail
  refine wp_loop_rounds 1 ?_
  rw [rounds_succ]
  go_wp2
  go_ret3
  exact ⟨rfl, rfl⟩
set_option maxRecDepth 100000 in
set_option maxHeartbeats 1000000 in
theorem refDec_short1 (s : ByteArray) (b0 L H : Nat) (hz : s.toList.isEmpty = false) (hrow : Hid ((.tuple #[.int .i64 (behind (rowIx b0)), .int .u8 (low2 (rowIx b0) : Nat), .int .u8 (high2 (rowIx b0) : Nat)] : Value) = .tuple #[.int .i64 1, .int .u8 (L : Nat), .int .u8 (H : Nat)])) (a0 : At s 0 b0) (hsz : decide (((s.size : Nat) : Int) ≤ 1) = true) (w : World) :
    Calls Tryd.prog 41 #[.string s] w fun e w' => e = .returned (.tuple #[.int .i64 0, .int .i64 0, .bool false]) ∧ w = w' := by
  have i0 := a0.2
  have c0 := a0.1
  clear a0
  go_enter Tryd.func41, Tryd.ntmps41
  go_wp2_with fail
  refine (refRow_any b0 c0 w).mono ?_
  rintro e w' ⟨rfl, rfl⟩
  rw [hrow.out]
  go_wp2
  go_ret3
  exact ⟨rfl, rfl⟩
set_option maxRecDepth 100000 in
set_option maxHeartbeats 1000000 in
theorem refDec_bad1_1_0 (s : ByteArray) (b0 b1 L H : Nat) (hz : s.toList.isEmpty = false) (hrow : Hid ((.tuple #[.int .i64 (behind (rowIx b0)), .int .u8 (low2 (rowIx b0) : Nat), .int .u8 (high2 (rowIx b0) : Nat)] : Value) = .tuple #[.int .i64 1, .int .u8 (L : Nat), .int .u8 (H : Nat)])) (a0 : At s 0 b0) (a1 : At s 1 b1) (hsz : decide (((s.size : Nat) : Int) ≤ 1) = false) (hm : 192 ≤ b0) (l1 : decide (b1 < L) = true) (w : World) :
    Calls Tryd.prog 41 #[.string s] w fun e w' => e = .returned (.tuple #[.int .i64 0, .int .i64 0, .bool false]) ∧ w = w' := by
  have i0 := a0.2
  have c0 := a0.1
  have i1 := a1.2
  have c1 := a1.1
  clear a0 a1
  go_enter Tryd.func41, Tryd.ntmps41
  go_wp2_with fail
  refine (refRow_any b0 c0 w).mono ?_
  rintro e w' ⟨rfl, rfl⟩
  rw [hrow.out]
  go_wp2_with fail
  refine wp_loop_rounds 1 ?_
  rw [rounds_succ]
  go_wp2
  go_ret3
  exact ⟨rfl, rfl⟩
set_option maxRecDepth 100000 in
set_option maxHeartbeats 1000000 in
theorem refDec_bad1_1_1 (s : ByteArray) (b0 b1 L H : Nat) (hz : s.toList.isEmpty = false) (hrow : Hid ((.tuple #[.int .i64 (behind (rowIx b0)), .int .u8 (low2 (rowIx b0) : Nat), .int .u8 (high2 (rowIx b0) : Nat)] : Value) = .tuple #[.int .i64 1, .int .u8 (L : Nat), .int .u8 (H : Nat)])) (a0 : At s 0 b0) (a1 : At s 1 b1) (hsz : decide (((s.size : Nat) : Int) ≤ 1) = false) (hm : 192 ≤ b0) (l1 : decide (b1 < L) = false) (h1 : decide (H < b1) = true) (w : World) :
    Calls Tryd.prog 41 #[.string s] w fun e w' => e = .returned (.tuple #[.int .i64 0, .int .i64 0, .bool false]) ∧ w = w' := by
  have i0 := a0.2
  have c0 := a0.1
  have i1 := a1.2
  have c1 := a1.1
  clear a0 a1
  go_enter Tryd.func41, Tryd.ntmps41
  go_wp2_with fail
  refine (refRow_any b0 c0 w).mono ?_
  rintro e w' ⟨rfl, rfl⟩
  rw [hrow.out]
  go_wp2_with fail
  refine wp_loop_rounds 1 ?_
  rw [rounds_succ]
  go_wp2
  go_ret3
  exact ⟨rfl, rfl⟩
set_option maxRecDepth 100000 in
set_option maxHeartbeats 1000000 in
theorem refDec_good1 (s : ByteArray) (b0 b1 L H : Nat) (hz : s.toList.isEmpty = false) (hrow : Hid ((.tuple #[.int .i64 (behind (rowIx b0)), .int .u8 (low2 (rowIx b0) : Nat), .int .u8 (high2 (rowIx b0) : Nat)] : Value) = .tuple #[.int .i64 1, .int .u8 (L : Nat), .int .u8 (H : Nat)])) (a0 : At s 0 b0) (a1 : At s 1 b1) (hsz : decide (((s.size : Nat) : Int) ≤ 1) = false) (hm : 192 ≤ b0) (l1 : decide (b1 < L) = false) (h1 : decide (H < b1) = false) (x1 : decide (((b1 : Nat) : Int) < 128) = false) (y1 : decide (191 < ((b1 : Nat) : Int)) = false) (z1 : 128 ≤ b1 ∧ b1 ≤ 191) (w : World) :
    Calls Tryd.prog 41 #[.string s] w fun e w' => e = .returned (.tuple #[.int .i64 (64 * (((b0 : Nat) : Int) - 192) + ((b1 : Nat) : Int) - 128), .int .i64 2, .bool true]) ∧ w = w' := by
  have i0 := a0.2
  have c0 := a0.1
  have i1 := a1.2
  have c1 := a1.1
  clear a0 a1
  go_enter Tryd.func41, Tryd.ntmps41
  go_wp2_with fail
  refine (refRow_any b0 c0 w).mono ?_
  rintro e w' ⟨rfl, rfl⟩
  rw [hrow.out]
  go_wp2_with fail
  refine wp_loop_rounds 2 ?_
  rw [rounds_succ]
  go_wp2
  rw [rounds_succ]
  go_wp2
  go_ret3
  exact ⟨rfl, rfl⟩
set_option maxRecDepth 100000 in
set_option maxHeartbeats 1000000 in
theorem refDec_short2 (s : ByteArray) (b0 L H : Nat) (hz : s.toList.isEmpty = false) (hrow : Hid ((.tuple #[.int .i64 (behind (rowIx b0)), .int .u8 (low2 (rowIx b0) : Nat), .int .u8 (high2 (rowIx b0) : Nat)] : Value) = .tuple #[.int .i64 2, .int .u8 (L : Nat), .int .u8 (H : Nat)])) (a0 : At s 0 b0) (hsz : decide (((s.size : Nat) : Int) ≤ 2) = true) (w : World) :
    Calls Tryd.prog 41 #[.string s] w fun e w' => e = .returned (.tuple #[.int .i64 0, .int .i64 0, .bool false]) ∧ w = w' := by
  have i0 := a0.2
  have c0 := a0.1
  clear a0
  go_enter Tryd.func41, Tryd.ntmps41
  go_wp2_with fail
  refine (refRow_any b0 c0 w).mono ?_
  rintro e w' ⟨rfl, rfl⟩
  rw [hrow.out]
  go_wp2
  go_ret3
  exact ⟨rfl, rfl⟩
set_option maxRecDepth 100000 in
set_option maxHeartbeats 1000000 in
theorem refDec_bad2_1_0 (s : ByteArray) (b0 b1 L H : Nat) (hz : s.toList.isEmpty = false) (hrow : Hid ((.tuple #[.int .i64 (behind (rowIx b0)), .int .u8 (low2 (rowIx b0) : Nat), .int .u8 (high2 (rowIx b0) : Nat)] : Value) = .tuple #[.int .i64 2, .int .u8 (L : Nat), .int .u8 (H : Nat)])) (a0 : At s 0 b0) (a1 : At s 1 b1) (hsz : decide (((s.size : Nat) : Int) ≤ 2) = false) (hm : 224 ≤ b0) (l1 : decide (b1 < L) = true) (w : World) :
    Calls Tryd.prog 41 #[.string s] w fun e w' => e = .returned (.tuple #[.int .i64 0, .int .i64 0, .bool false]) ∧ w = w' := by
  have i0 := a0.2
  have c0 := a0.1
  have i1 := a1.2
  have c1 := a1.1
  clear a0 a1
  go_enter Tryd.func41, Tryd.ntmps41
  go_wp2_with fail
  refine (refRow_any b0 c0 w).mono ?_
  rintro e w' ⟨rfl, rfl⟩
  rw [hrow.out]
  go_wp2_with fail
  refine wp_loop_rounds 1 ?_
  rw [rounds_succ]
  go_wp2
  go_ret3
  exact ⟨rfl, rfl⟩
set_option maxRecDepth 100000 in
set_option maxHeartbeats 1000000 in
theorem refDec_bad2_1_1 (s : ByteArray) (b0 b1 L H : Nat) (hz : s.toList.isEmpty = false) (hrow : Hid ((.tuple #[.int .i64 (behind (rowIx b0)), .int .u8 (low2 (rowIx b0) : Nat), .int .u8 (high2 (rowIx b0) : Nat)] : Value) = .tuple #[.int .i64 2, .int .u8 (L : Nat), .int .u8 (H : Nat)])) (a0 : At s 0 b0) (a1 : At s 1 b1) (hsz : decide (((s.size : Nat) : Int) ≤ 2) = false) (hm : 224 ≤ b0) (l1 : decide (b1 < L) = false) (h1 : decide (H < b1) = true) (w : World) :
    Calls Tryd.prog 41 #[.string s] w fun e w' => e = .returned (.tuple #[.int .i64 0, .int .i64 0, .bool false]) ∧ w = w' := by
  have i0 := a0.2
  have c0 := a0.1
  have i1 := a1.2
  have c1 := a1.1
  clear a0 a1
  go_enter Tryd.func41, Tryd.ntmps41
  go_wp2_with fail
  refine (refRow_any b0 c0 w).mono ?_
  rintro e w' ⟨rfl, rfl⟩
  rw [hrow.out]
  go_wp2_with fail
  refine wp_loop_rounds 1 ?_
  rw [rounds_succ]
  go_wp2
  go_ret3
  exact ⟨rfl, rfl⟩
set_option maxRecDepth 100000 in
set_option maxHeartbeats 1000000 in
theorem refDec_bad2_2_0 (s : ByteArray) (b0 b1 b2 L H : Nat) (hz : s.toList.isEmpty = false) (hrow : Hid ((.tuple #[.int .i64 (behind (rowIx b0)), .int .u8 (low2 (rowIx b0) : Nat), .int .u8 (high2 (rowIx b0) : Nat)] : Value) = .tuple #[.int .i64 2, .int .u8 (L : Nat), .int .u8 (H : Nat)])) (a0 : At s 0 b0) (a1 : At s 1 b1) (a2 : At s 2 b2) (hsz : decide (((s.size : Nat) : Int) ≤ 2) = false) (hm : 224 ≤ b0) (l1 : decide (b1 < L) = false) (h1 : decide (H < b1) = false) (x1 : decide (((b1 : Nat) : Int) < 128) = false) (y1 : decide (191 < ((b1 : Nat) : Int)) = false) (z1 : 128 ≤ b1 ∧ b1 ≤ 191) (x2 : decide (((b2 : Nat) : Int) < 128) = true) (w : World) :
    Calls Tryd.prog 41 #[.string s] w fun e w' => e = .returned (.tuple #[.int .i64 0, .int .i64 0, .bool false]) ∧ w = w' := by
  have i0 := a0.2
  have c0 := a0.1
  have i1 := a1.2
  have c1 := a1.1
  have i2 := a2.2
  have c2 := a2.1
  clear a0 a1 a2
  go_enter Tryd.func41, Tryd.ntmps41
  go_wp2_with fail
  refine (refRow_any b0 c0 w).mono ?_
  rintro e w' ⟨rfl, rfl⟩
  rw [hrow.out]
  go_wp2_with fail
  refine wp_loop_rounds 2 ?_
  rw [rounds_succ]
  go_wp2
  rw [rounds_succ]
  go_wp2
  go_ret3
  exact ⟨rfl, rfl⟩
set_option maxRecDepth 100000 in
set_option maxHeartbeats 1000000 in
theorem refDec_bad2_2_1 (s : ByteArray) (b0 b1 b2 L H : Nat) (hz : s.toList.isEmpty = false) (hrow : Hid ((.tuple #[.int .i64 (behind (rowIx b0)), .int .u8 (low2 (rowIx b0) : Nat), .int .u8 (high2 (rowIx b0) : Nat)] : Value) = .tuple #[.int .i64 2, .int .u8 (L : Nat), .int .u8 (H : Nat)])) (a0 : At s 0 b0) (a1 : At s 1 b1) (a2 : At s 2 b2) (hsz : decide (((s.size : Nat) : Int) ≤ 2) = false) (hm : 224 ≤ b0) (l1 : decide (b1 < L) = false) (h1 : decide (H < b1) = false) (x1 : decide (((b1 : Nat) : Int) < 128) = false) (y1 : decide (191 < ((b1 : Nat) : Int)) = false) (z1 : 128 ≤ b1 ∧ b1 ≤ 191) (x2 : decide (((b2 : Nat) : Int) < 128) = false) (y2 : decide (191 < ((b2 : Nat) : Int)) = true) (w : World) :
    Calls Tryd.prog 41 #[.string s] w fun e w' => e = .returned (.tuple #[.int .i64 0, .int .i64 0, .bool false]) ∧ w = w' := by
  have i0 := a0.2
  have c0 := a0.1
  have i1 := a1.2
  have c1 := a1.1
  have i2 := a2.2
  have c2 := a2.1
  clear a0 a1 a2
  go_enter Tryd.func41, Tryd.ntmps41
  go_wp2_with fail
  refine (refRow_any b0 c0 w).mono ?_
  rintro e w' ⟨rfl, rfl⟩
  rw [hrow.out]
  go_wp2_with fail
  refine wp_loop_rounds 2 ?_
  rw [rounds_succ]
  go_wp2
  rw [rounds_succ]
  go_wp2
  go_ret3
  exact ⟨rfl, rfl⟩
set_option maxRecDepth 100000 in
set_option maxHeartbeats 1000000 in
theorem refDec_good2 (s : ByteArray) (b0 b1 b2 L H : Nat) (hz : s.toList.isEmpty = false) (hrow : Hid ((.tuple #[.int .i64 (behind (rowIx b0)), .int .u8 (low2 (rowIx b0) : Nat), .int .u8 (high2 (rowIx b0) : Nat)] : Value) = .tuple #[.int .i64 2, .int .u8 (L : Nat), .int .u8 (H : Nat)])) (a0 : At s 0 b0) (a1 : At s 1 b1) (a2 : At s 2 b2) (hsz : decide (((s.size : Nat) : Int) ≤ 2) = false) (hm : 224 ≤ b0) (l1 : decide (b1 < L) = false) (h1 : decide (H < b1) = false) (x1 : decide (((b1 : Nat) : Int) < 128) = false) (y1 : decide (191 < ((b1 : Nat) : Int)) = false) (z1 : 128 ≤ b1 ∧ b1 ≤ 191) (x2 : decide (((b2 : Nat) : Int) < 128) = false) (y2 : decide (191 < ((b2 : Nat) : Int)) = false) (z2 : 128 ≤ b2 ∧ b2 ≤ 191) (w : World) :
    Calls Tryd.prog 41 #[.string s] w fun e w' => e = .returned (.tuple #[.int .i64 (64 * (64 * (((b0 : Nat) : Int) - 224) + ((b1 : Nat) : Int) - 128) + ((b2 : Nat) : Int) - 128), .int .i64 3, .bool true]) ∧ w = w' := by
  have i0 := a0.2
  have c0 := a0.1
  have i1 := a1.2
  have c1 := a1.1
  have i2 := a2.2
  have c2 := a2.1
  clear a0 a1 a2
  go_enter Tryd.func41, Tryd.ntmps41
  go_wp2_with fail
  refine (refRow_any b0 c0 w).mono ?_
  rintro e w' ⟨rfl, rfl⟩
  rw [hrow.out]
  go_wp2_with fail
  refine wp_loop_rounds 3 ?_
  rw [rounds_succ]
  go_wp2
  rw [rounds_succ]
  go_wp2
  rw [rounds_succ]
  go_wp2
  go_ret3
  exact ⟨rfl, rfl⟩
set_option maxRecDepth 100000 in
set_option maxHeartbeats 1000000 in
theorem refDec_short3 (s : ByteArray) (b0 L H : Nat) (hz : s.toList.isEmpty = false) (hrow : Hid ((.tuple #[.int .i64 (behind (rowIx b0)), .int .u8 (low2 (rowIx b0) : Nat), .int .u8 (high2 (rowIx b0) : Nat)] : Value) = .tuple #[.int .i64 3, .int .u8 (L : Nat), .int .u8 (H : Nat)])) (a0 : At s 0 b0) (hsz : decide (((s.size : Nat) : Int) ≤ 3) = true) (w : World) :
    Calls Tryd.prog 41 #[.string s] w fun e w' => e = .returned (.tuple #[.int .i64 0, .int .i64 0, .bool false]) ∧ w = w' := by
  have i0 := a0.2
  have c0 := a0.1
  clear a0
  go_enter Tryd.func41, Tryd.ntmps41
  go_wp2_with fail
  refine (refRow_any b0 c0 w).mono ?_
  rintro e w' ⟨rfl, rfl⟩
  rw [hrow.out]
  go_wp2
  go_ret3
  exact ⟨rfl, rfl⟩
set_option maxRecDepth 100000 in
set_option maxHeartbeats 1000000 in
theorem refDec_bad3_1_0 (s : ByteArray) (b0 b1 L H : Nat) (hz : s.toList.isEmpty = false) (hrow : Hid ((.tuple #[.int .i64 (behind (rowIx b0)), .int .u8 (low2 (rowIx b0) : Nat), .int .u8 (high2 (rowIx b0) : Nat)] : Value) = .tuple #[.int .i64 3, .int .u8 (L : Nat), .int .u8 (H : Nat)])) (a0 : At s 0 b0) (a1 : At s 1 b1) (hsz : decide (((s.size : Nat) : Int) ≤ 3) = false) (hm : 240 ≤ b0) (l1 : decide (b1 < L) = true) (w : World) :
    Calls Tryd.prog 41 #[.string s] w fun e w' => e = .returned (.tuple #[.int .i64 0, .int .i64 0, .bool false]) ∧ w = w' := by
  have i0 := a0.2
  have c0 := a0.1
  have i1 := a1.2
  have c1 := a1.1
  clear a0 a1
  go_enter Tryd.func41, Tryd.ntmps41
  go_wp2_with fail
  refine (refRow_any b0 c0 w).mono ?_
  rintro e w' ⟨rfl, rfl⟩
  rw [hrow.out]
  go_wp2_with fail
  refine wp_loop_rounds 1 ?_
  rw [rounds_succ]
  go_wp2
  go_ret3
  exact ⟨rfl, rfl⟩
set_option maxRecDepth 100000 in
set_option maxHeartbeats 1000000 in
theorem refDec_bad3_1_1 (s : ByteArray) (b0 b1 L H : Nat) (hz : s.toList.isEmpty = false) (hrow : Hid ((.tuple #[.int .i64 (behind (rowIx b0)), .int .u8 (low2 (rowIx b0) : Nat), .int .u8 (high2 (rowIx b0) : Nat)] : Value) = .tuple #[.int .i64 3, .int .u8 (L : Nat), .int .u8 (H : Nat)])) (a0 : At s 0 b0) (a1 : At s 1 b1) (hsz : decide (((s.size : Nat) : Int) ≤ 3) = false) (hm : 240 ≤ b0) (l1 : decide (b1 < L) = false) (h1 : decide (H < b1) = true) (w : World) :
    Calls Tryd.prog 41 #[.string s] w fun e w' => e = .returned (.tuple #[.int .i64 0, .int .i64 0, .bool false]) ∧ w = w' := by
  have i0 := a0.2
  have c0 := a0.1
  have i1 := a1.2
  have c1 := a1.1
  clear a0 a1
  go_enter Tryd.func41, Tryd.ntmps41
  go_wp2_with fail
  refine (refRow_any b0 c0 w).mono ?_
  rintro e w' ⟨rfl, rfl⟩
  rw [hrow.out]
  go_wp2_with fail
  refine wp_loop_rounds 1 ?_
  rw [rounds_succ]
  go_wp2
  go_ret3
  exact ⟨rfl, rfl⟩
set_option maxRecDepth 100000 in
set_option maxHeartbeats 1000000 in
theorem refDec_bad3_2_0 (s : ByteArray) (b0 b1 b2 L H : Nat) (hz : s.toList.isEmpty = false) (hrow : Hid ((.tuple #[.int .i64 (behind (rowIx b0)), .int .u8 (low2 (rowIx b0) : Nat), .int .u8 (high2 (rowIx b0) : Nat)] : Value) = .tuple #[.int .i64 3, .int .u8 (L : Nat), .int .u8 (H : Nat)])) (a0 : At s 0 b0) (a1 : At s 1 b1) (a2 : At s 2 b2) (hsz : decide (((s.size : Nat) : Int) ≤ 3) = false) (hm : 240 ≤ b0) (l1 : decide (b1 < L) = false) (h1 : decide (H < b1) = false) (x1 : decide (((b1 : Nat) : Int) < 128) = false) (y1 : decide (191 < ((b1 : Nat) : Int)) = false) (z1 : 128 ≤ b1 ∧ b1 ≤ 191) (x2 : decide (((b2 : Nat) : Int) < 128) = true) (w : World) :
    Calls Tryd.prog 41 #[.string s] w fun e w' => e = .returned (.tuple #[.int .i64 0, .int .i64 0, .bool false]) ∧ w = w' := by
  have i0 := a0.2
  have c0 := a0.1
  have i1 := a1.2
  have c1 := a1.1
  have i2 := a2.2
  have c2 := a2.1
  clear a0 a1 a2
  go_enter Tryd.func41, Tryd.ntmps41
  go_wp2_with fail
  refine (refRow_any b0 c0 w).mono ?_
  rintro e w' ⟨rfl, rfl⟩
  rw [hrow.out]
  go_wp2_with fail
  refine wp_loop_rounds 2 ?_
  rw [rounds_succ]
  go_wp2
  rw [rounds_succ]
  go_wp2
  go_ret3
  exact ⟨rfl, rfl⟩
set_option maxRecDepth 100000 in
set_option maxHeartbeats 1000000 in
theorem refDec_bad3_2_1 (s : ByteArray) (b0 b1 b2 L H : Nat) (hz : s.toList.isEmpty = false) (hrow : Hid ((.tuple #[.int .i64 (behind (rowIx b0)), .int .u8 (low2 (rowIx b0) : Nat), .int .u8 (high2 (rowIx b0) : Nat)] : Value) = .tuple #[.int .i64 3, .int .u8 (L : Nat), .int .u8 (H : Nat)])) (a0 : At s 0 b0) (a1 : At s 1 b1) (a2 : At s 2 b2) (hsz : decide (((s.size : Nat) : Int) ≤ 3) = false) (hm : 240 ≤ b0) (l1 : decide (b1 < L) = false) (h1 : decide (H < b1) = false) (x1 : decide (((b1 : Nat) : Int) < 128) = false) (y1 : decide (191 < ((b1 : Nat) : Int)) = false) (z1 : 128 ≤ b1 ∧ b1 ≤ 191) (x2 : decide (((b2 : Nat) : Int) < 128) = false) (y2 : decide (191 < ((b2 : Nat) : Int)) = true) (w : World) :
    Calls Tryd.prog 41 #[.string s] w fun e w' => e = .returned (.tuple #[.int .i64 0, .int .i64 0, .bool false]) ∧ w = w' := by
  have i0 := a0.2
  have c0 := a0.1
  have i1 := a1.2
  have c1 := a1.1
  have i2 := a2.2
  have c2 := a2.1
  clear a0 a1 a2
  go_enter Tryd.func41, Tryd.ntmps41
  go_wp2_with fail
  refine (refRow_any b0 c0 w).mono ?_
  rintro e w' ⟨rfl, rfl⟩
  rw [hrow.out]
  go_wp2_with fail
  refine wp_loop_rounds 2 ?_
  rw [rounds_succ]
  go_wp2
  rw [rounds_succ]
  go_wp2
  go_ret3
  exact ⟨rfl, rfl⟩
set_option maxRecDepth 100000 in
set_option maxHeartbeats 1000000 in
theorem refDec_bad3_3_0 (s : ByteArray) (b0 b1 b2 b3 L H : Nat) (hz : s.toList.isEmpty = false) (hrow : Hid ((.tuple #[.int .i64 (behind (rowIx b0)), .int .u8 (low2 (rowIx b0) : Nat), .int .u8 (high2 (rowIx b0) : Nat)] : Value) = .tuple #[.int .i64 3, .int .u8 (L : Nat), .int .u8 (H : Nat)])) (a0 : At s 0 b0) (a1 : At s 1 b1) (a2 : At s 2 b2) (a3 : At s 3 b3) (hsz : decide (((s.size : Nat) : Int) ≤ 3) = false) (hm : 240 ≤ b0) (l1 : decide (b1 < L) = false) (h1 : decide (H < b1) = false) (x1 : decide (((b1 : Nat) : Int) < 128) = false) (y1 : decide (191 < ((b1 : Nat) : Int)) = false) (z1 : 128 ≤ b1 ∧ b1 ≤ 191) (x2 : decide (((b2 : Nat) : Int) < 128) = false) (y2 : decide (191 < ((b2 : Nat) : Int)) = false) (z2 : 128 ≤ b2 ∧ b2 ≤ 191) (x3 : decide (((b3 : Nat) : Int) < 128) = true) (w : World) :
    Calls Tryd.prog 41 #[.string s] w fun e w' => e = .returned (.tuple #[.int .i64 0, .int .i64 0, .bool false]) ∧ w = w' := by
  have i0 := a0.2
  have c0 := a0.1
  have i1 := a1.2
  have c1 := a1.1
  have i2 := a2.2
  have c2 := a2.1
  have i3 := a3.2
  have c3 := a3.1
  clear a0 a1 a2 a3
  go_enter Tryd.func41, Tryd.ntmps41
  go_wp2_with fail
  refine (refRow_any b0 c0 w).mono ?_
  rintro e w' ⟨rfl, rfl⟩
  rw [hrow.out]
  go_wp2_with fail
  refine wp_loop_rounds 3 ?_
  rw [rounds_succ]
  go_wp2
  rw [rounds_succ]
  go_wp2
  rw [rounds_succ]
  go_wp2
  go_ret3
  exact ⟨rfl, rfl⟩
set_option maxRecDepth 100000 in
set_option maxHeartbeats 1000000 in
theorem refDec_bad3_3_1 (s : ByteArray) (b0 b1 b2 b3 L H : Nat) (hz : s.toList.isEmpty = false) (hrow : Hid ((.tuple #[.int .i64 (behind (rowIx b0)), .int .u8 (low2 (rowIx b0) : Nat), .int .u8 (high2 (rowIx b0) : Nat)] : Value) = .tuple #[.int .i64 3, .int .u8 (L : Nat), .int .u8 (H : Nat)])) (a0 : At s 0 b0) (a1 : At s 1 b1) (a2 : At s 2 b2) (a3 : At s 3 b3) (hsz : decide (((s.size : Nat) : Int) ≤ 3) = false) (hm : 240 ≤ b0) (l1 : decide (b1 < L) = false) (h1 : decide (H < b1) = false) (x1 : decide (((b1 : Nat) : Int) < 128) = false) (y1 : decide (191 < ((b1 : Nat) : Int)) = false) (z1 : 128 ≤ b1 ∧ b1 ≤ 191) (x2 : decide (((b2 : Nat) : Int) < 128) = false) (y2 : decide (191 < ((b2 : Nat) : Int)) = false) (z2 : 128 ≤ b2 ∧ b2 ≤ 191) (x3 : decide (((b3 : Nat) : Int) < 128) = false) (y3 : decide (191 < ((b3 : Nat) : Int)) = true) (w : World) :
    Calls Tryd.prog 41 #[.string s] w fun e w' => e = .returned (.tuple #[.int .i64 0, .int .i64 0, .bool false]) ∧ w = w' := by
  have i0 := a0.2
  have c0 := a0.1
  have i1 := a1.2
  have c1 := a1.1
  have i2 := a2.2
  have c2 := a2.1
  have i3 := a3.2
  have c3 := a3.1
  clear a0 a1 a2 a3
  go_enter Tryd.func41, Tryd.ntmps41
  go_wp2_with fail
  refine (refRow_any b0 c0 w).mono ?_
  rintro e w' ⟨rfl, rfl⟩
  rw [hrow.out]
  go_wp2_with fail
  refine wp_loop_rounds 3 ?_
  rw [rounds_succ]
  go_wp2
  rw [rounds_succ]
  go_wp2
  rw [rounds_succ]
  go_wp2
  go_ret3
  exact ⟨rfl, rfl⟩
set_option maxRecDepth 100000 in
set_option maxHeartbeats 1000000 in
theorem refDec_good3 (s : ByteArray) (b0 b1 b2 b3 L H : Nat) (hz : s.toList.isEmpty = false) (hrow : Hid ((.tuple #[.int .i64 (behind (rowIx b0)), .int .u8 (low2 (rowIx b0) : Nat), .int .u8 (high2 (rowIx b0) : Nat)] : Value) = .tuple #[.int .i64 3, .int .u8 (L : Nat), .int .u8 (H : Nat)])) (a0 : At s 0 b0) (a1 : At s 1 b1) (a2 : At s 2 b2) (a3 : At s 3 b3) (hsz : decide (((s.size : Nat) : Int) ≤ 3) = false) (hm : 240 ≤ b0) (l1 : decide (b1 < L) = false) (h1 : decide (H < b1) = false) (x1 : decide (((b1 : Nat) : Int) < 128) = false) (y1 : decide (191 < ((b1 : Nat) : Int)) = false) (z1 : 128 ≤ b1 ∧ b1 ≤ 191) (x2 : decide (((b2 : Nat) : Int) < 128) = false) (y2 : decide (191 < ((b2 : Nat) : Int)) = false) (z2 : 128 ≤ b2 ∧ b2 ≤ 191) (x3 : decide (((b3 : Nat) : Int) < 128) = false) (y3 : decide (191 < ((b3 : Nat) : Int)) = false) (z3 : 128 ≤ b3 ∧ b3 ≤ 191) (w : World) :
    Calls Tryd.prog 41 #[.string s] w fun e w' => e = .returned (.tuple #[.int .i64 (64 * (64 * (64 * (((b0 : Nat) : Int) - 240) + ((b1 : Nat) : Int) - 128) + ((b2 : Nat) : Int) - 128) + ((b3 : Nat) : Int) - 128), .int .i64 4, .bool true]) ∧ w = w' := by
  have i0 := a0.2
  have c0 := a0.1
  have i1 := a1.2
  have c1 := a1.1
  have i2 := a2.2
  have c2 := a2.1
  have i3 := a3.2
  have c3 := a3.1
  clear a0 a1 a2 a3
  go_enter Tryd.func41, Tryd.ntmps41
  go_wp2_with fail
  refine (refRow_any b0 c0 w).mono ?_
  rintro e w' ⟨rfl, rfl⟩
  rw [hrow.out]
  go_wp2_with fail
  refine wp_loop_rounds 4 ?_
  rw [rounds_succ]
  go_wp2
  rw [rounds_succ]
  go_wp2
  rw [rounds_succ]
  go_wp2
  rw [rounds_succ]
  go_wp2
  go_ret3
  exact ⟨rfl, rfl⟩
end Go.Proofs.YtcdgmamlmapbcaaDoor
