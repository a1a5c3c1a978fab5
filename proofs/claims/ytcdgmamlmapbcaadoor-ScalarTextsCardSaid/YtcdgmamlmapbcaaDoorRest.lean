/- rest: left, head, drop. -/
import Derived.Test.YtcdgmamlmapbcaaDoorProg
import Derived.Test.YtcdgmamlmapbcaaDoorMem
import Derived.BigQuiet
import Derived.Deep.QuietTactic
import Derived.Deep.RegionWith
import Derived.Lib.Strings
namespace Go.Proofs.YtcdgmamlmapbcaaDoor
open Go.RowKit

theorem left_any (p : Nat) (s : ByteArray) (w : World) (hc : w.cell? ⟨p, 0, none⟩ = some (.string s)) :
    Calls Tryd.prog 56 #[.pointer (some ⟨p, 0, none⟩)] w fun e w' => e = .returned (.int .i64 s.size) ∧ w = w' := by
  go_enter Tryd.func56, Tryd.ntmps56
  go_wp2
  go_ret
  exact ⟨rfl, rfl⟩

set_option maxHeartbeats 400000 in
theorem drop_any (p : Nat) (s : ByteArray) (n : Nat) (w : World) (hc : w.cell? ⟨p, 0, none⟩ = some (.string s)) (hf : w.frozen? ⟨p, 0, none⟩ = false) (hn : n ≤ s.size) :
    Calls Tryd.prog 57 #[.pointer (some ⟨p, 0, none⟩), .int .i64 (n : Nat)] w fun e w' => e = .returned (.tuple #[]) ∧ w.setCell ⟨p, 0, none⟩ (.string (s.extract n s.size)) = w' := by
  go_enter Tryd.func57, Tryd.ntmps57
  go_wp2
  go_end0
  exact ⟨rfl, rfl⟩

/-- v is a slice of just the bytes bs. -/
def IsBytes (w : World) (v : Value) (bs : List UInt8) : Prop :=
  ∃ g cap, v = .slice (some ⟨g, 0, none⟩) bs.length cap ∧ ∀ i, i < bs.length → w.cell? ⟨g, i, none⟩ = some (.int .u8 ((bs.getD i 0).toNat : Nat))

theorem isBytes_row (w : World) (x : ByteArray) (t : TypeId) (cap : Nat) (fr : Nat × Nat) {bs : List UInt8} (hx : x.data.toList = bs) {n : Nat} (hn : n = bs.length) :
    IsBytes ((w.alloc (.cells (bytesRow x cap) t fr)).drew.drew) (.slice (some ⟨w.heap.size, 0, none⟩) n cap) bs := by
  subst hn
  refine ⟨w.heap.size, cap, rfl, fun i hi => ?_⟩
  have hb : ((w.alloc (.cells (bytesRow x cap) t fr)).drew.drew).heap[w.heap.size]? = some (.cells (bytesRow x cap) t fr) := heap_alloc_new w _
  rw [cell_of_row _ _ i _ t fr hb]
  subst hx
  have hi' : i < x.data.size := by simpa using hi
  simp only [bytesRow, Array.getElem?_append, Array.size_map, hi', if_true, Array.getElem?_map, Array.getElem?_eq_getElem hi', Option.map_some, List.getD, Array.getElem?_toList, Option.getD_some]
theorem below_row (w : World) (o : Obj) : Below w.heap.size w ((w.alloc o).drew.drew) := ((Below.refl _ _).alloc (Nat.le_refl _) _).drew.drew

set_option maxHeartbeats 400000 in
theorem head_any (p : Nat) (s : ByteArray) (n : Nat) (w : World) (hc : w.cell? ⟨p, 0, none⟩ = some (.string s)) :
    Calls Tryd.prog 70 #[.pointer (some ⟨p, 0, none⟩), .int .i64 (n : Nat)] w fun e w' => (∃ v, e = .returned v ∧ IsBytes w' v (s.data.toList.take n)) ∧ Below w.heap.size w w' := by
  have hcv := fun (W : World) (x : ByteArray) => run_bytes_of_string (P := Tryd.prog) W 9 54 5 x Tryd.underlying9 Tryd.underlying54 Tryd.underlying5
  by_cases h : n ≤ s.size
  · have h1 : ¬ s.size < n := by omega
    go_enter Tryd.func70, Tryd.ntmps70
    go_wp2
    go_region_with (go_at_call 56; refine Calls.mono (left_any p s _ (by exact hc)) ?_; rintro e w' ⟨rfl, rfl⟩)
    all_goals
      go_wp2
      go_ret
      exact ⟨⟨_, rfl, isBytes_row w _ _ _ _ (by rw [Lib.extract_data]; simp) (by simp; omega)⟩, below_row _ _⟩
  · have h1 : s.size < n := by omega
    go_enter Tryd.func70, Tryd.ntmps70
    go_wp2
    go_region_with (go_at_call 56; refine Calls.mono (left_any p s _ (by exact hc)) ?_; rintro e w' ⟨rfl, rfl⟩)
    all_goals
      go_wp2
      go_ret
      exact ⟨⟨_, rfl, isBytes_row w _ _ _ _ (List.take_of_length_le (by simp; omega)).symm (by simp; omega)⟩, below_row _ _⟩
end Go.Proofs.YtcdgmamlmapbcaaDoor
