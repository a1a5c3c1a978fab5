/- The walks of the small functions of package scalar that know the table. -/
import Derived.Test.YtcdgmamlmapbcaaDoorProg
import Derived.Test.YtcdgmamlmapbcaaDoorTab
import Derived.Test.YtcdgmamlmapbcaaDoorMem
namespace Go.Proofs.YtcdgmamlmapbcaaDoor
open Go.RowKit

theorem tail_any (w : World) : Calls Tryd.prog 77 #[] w fun e w' => e = .returned (.agg #[.int .u8 128, .int .u8 191]) ∧ w.alloc (.cells #[.int .u8 128, .int .u8 191] 90) = w' := by
  go_enter Tryd.func77, Tryd.ntmps77
  go_wp2
  exact bodyPost_ret (v := .agg #[.int .u8 128, .int .u8 191]) (by simp [results, Tryd.results77, go_sem]) rfl ⟨rfl, rfl⟩

theorem has_any (a b c : Int) (w : World) : Calls Tryd.prog 78 #[.agg #[.int .u8 a, .int .u8 b], .int .u8 c] w fun e w' => e = .returned (.bool (decide (a ≤ c ∧ c ≤ b))) ∧ w.alloc (.cells #[.int .u8 a, .int .u8 b] 90) = w' := by
  by_cases h1 : a ≤ c <;> by_cases h2 : c ≤ b
  all_goals
    go_enter Tryd.func78, Tryd.ntmps78
    go_wp2
    go_ret
    exact ⟨by simp [h1, h2], rfl⟩

/-- The whole table, as an array's value. -/
def tabV : Array Value := ((List.range 9).flatMap fun k => (rowV k).cells.toList).toArray

theorem heap5 (w : World) (A B C D E : Obj) : (((((w.alloc A).alloc B).alloc C).alloc D).alloc E).heap[w.heap.size]? = some A := by
  rw [Below.heap_alloc _ _ _ (by simp; omega), Below.heap_alloc _ _ _ (by simp; omega), Below.heap_alloc _ _ _ (by simp; omega), Below.heap_alloc _ _ _ (by simp), heap_alloc_new]

set_option maxHeartbeats 1000000 in
theorem table_any (w : World) : Calls Tryd.prog 73 #[] w fun e w' => e = .returned (.agg tabV) ∧ Below w.heap.size w w' := by
  go_enter Tryd.func73, Tryd.ntmps73
  go_wp2_with fail
  refine (tail_any _).mono ?_
  rintro e w1 ⟨rfl, rfl⟩
  go_wp2_with fail
  refine (tail_any _).mono ?_
  rintro e w1 ⟨rfl, rfl⟩
  go_wp2_with fail
  refine (tail_any _).mono ?_
  rintro e w1 ⟨rfl, rfl⟩
  go_wp2_with fail
  refine (tail_any _).mono ?_
  rintro e w1 ⟨rfl, rfl⟩
  go_wp2_with (refine wpList_store_row rfl 120 _ _ rfl w.heap.size tabV rfl ?hy 120 _ (heap5 w _ _ _ _ _) ?hi ?hs ?h1 ?_)
  case hy => rfl
  case hi => kernel_rfl
  case hs => rfl
  case h1 => kernel_rfl
  refine bodyPost_ret (v := .agg tabV) ?_ rfl ⟨rfl, ?_⟩
  · exact results_cell_row rfl _ _ w.heap.size 120 tabV (0, 0) _ rfl (setRow_heap _ _ _ _ _ _ (heap5 w _ _ _ _ _)) Tryd.underlying120 rfl (by kernel_rfl)
  · exact below_setRow (((((((Below.refl _ _).alloc (Nat.le_refl _) _).alloc (by simp) _).alloc (by simp; omega) _).alloc (by simp; omega) _).alloc (by simp; omega) _)) (Nat.le_refl _) _
end Go.Proofs.YtcdgmamlmapbcaaDoor
