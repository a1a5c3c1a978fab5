/- Decode. -/
import Derived.Test.YtcdgmamlmapbcaaDoorNext
namespace Go.Proofs.YtcdgmamlmapbcaaDoor
open Go.RowKit

def decV (l : List UInt8) : Value :=
  match decL l with
  | some (r, n) => .tuple #[.int .i64 (r : Nat), .int .i64 (n : Nat), .bool true]
  | none => .tuple #[.int .i64 0, .int .i64 0, .bool false]

theorem decV_none {l : List UInt8} (h : decL l = none) : decV l = .tuple #[.int .i64 0, .int .i64 0, .bool false] := by unfold decV; rw [h]
theorem decV_some {l : List UInt8} {r n : Nat} (h : decL l = some (r, n)) : decV l = .tuple #[.int .i64 (r : Nat), .int .i64 (n : Nat), .bool true] := by unfold decV; rw [h]

set_option maxHeartbeats 400000 in
theorem decode_any (s : ByteArray) (w : World) (aU aS : Addr) (hG : Glob w aU aS) :
    Calls Tryd.prog 36 #[.string s] w fun e w' => e = .returned (decV s.data.toList) ∧ Below w.heap.size w w' := by
  cases hd : decL s.data.toList with
  | none =>
    rw [decV_none hd]
    have HN := Lib.hid (nextV_none (aU := aU) hd)
    clear hd
    go_enter Tryd.func36, Tryd.ntmps36
    go_wp2_with fail
    have hr : Rd (w.alloc (.cells #[.string s, .map none] 80)) w.heap.size s none := ⟨heap_alloc_new _ _, fun m e => by cases e⟩
    have hg : Glob (w.alloc (.cells #[.string s, .map none] 80)) aU aS := hG.below ((Below.refl _ _).alloc (Nat.le_refl _) _)
    refine (next_any _ s none _ hr aU aS hg).mono ?_
    rintro e w1 ⟨rfl, h1, hm1⟩
    have hb : Below w.heap.size w w1 := Moves.below ((Below.refl _ _).alloc (Nat.le_refl _) _) (by simp) hm1 (fun j e => by cases e)
    rw [HN.out]
    go_wp2
    go_region
    all_goals
      go_wp2
      go_ret3
      exact ⟨rfl, hb.drew⟩
  | some x =>
    obtain ⟨r, n⟩ := x
    rw [decV_some hd]
    have HN := Lib.hid (nextV_some (aU := aU) hd)
    clear hd
    go_enter Tryd.func36, Tryd.ntmps36
    go_wp2_with fail
    have hr : Rd (w.alloc (.cells #[.string s, .map none] 80)) w.heap.size s none := ⟨heap_alloc_new _ _, fun m e => by cases e⟩
    have hg : Glob (w.alloc (.cells #[.string s, .map none] 80)) aU aS := hG.below ((Below.refl _ _).alloc (Nat.le_refl _) _)
    refine (next_any _ s none _ hr aU aS hg).mono ?_
    rintro e w1 ⟨rfl, h1, hm1⟩
    have hb : Below w.heap.size w w1 := Moves.below ((Below.refl _ _).alloc (Nat.le_refl _) _) (by simp) hm1 (fun j e => by cases e)
    rw [HN.out]
    go_wp2
    go_region
    all_goals
      go_wp2
      go_ret3
      exact ⟨rfl, hb.drew⟩
end Go.Proofs.YtcdgmamlmapbcaaDoor
