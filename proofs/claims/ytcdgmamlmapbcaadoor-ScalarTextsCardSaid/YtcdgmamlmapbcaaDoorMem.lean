/- Small laws on memory that the kit's walk does not bring: a complex number stored; a variable of a struct laid whole. -/
import Derived.WalkKit
import Derived.WalkSpells
import Derived.WalkLawsBesides
import Derived.Laws.CopyOwn
import Derived.Lib.Hide
namespace Go.Proofs.YtcdgmamlmapbcaaDoor
open Go.RowKit
section
variable {P : Program} (w : World) (a : Addr) (m : Mode)
@[go_sem] theorem run_store_complex (k : FloatKind) (x y : Nat) : (store a (.complex k x y) m).run P w = stored P w a (.complex k x y) m := run_store P w a _ m rfl
end
/-- The block laid ahead of what came later. -/
theorem later_row {w wr : World} {t : TypeId} {c : Array Value} (hb : Below (w.heap.size + 1) (w.alloc (.cells c t)) wr) : wr.heap[w.heap.size]? = some (.cells c t (0, 0)) :=
  (hb.block _ (by omega)).trans (heap_alloc_new _ _)
end Go.Proofs.YtcdgmamlmapbcaaDoor
