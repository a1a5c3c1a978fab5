/- put: the bytes of a scalar behind those of a list. -/
import Derived.Test.YtcdgmamlmapbcaaDoorNe
import Derived.Test.YtcdgmamlmapbcaaDoorIs
import Derived.Test.YtcdgmamlmapbcaaDoorBits2
import Derived.Test.YtcdgmamlmapbcaaDoorRowWalk
import Derived.OneCell
import Derived.RangeFuncBox
import Derived.Deep.AppendLies
namespace Go.Proofs.YtcdgmamlmapbcaaDoor
open Go.RowKit

set_option maxHeartbeats 400000 in
theorem put_no (v : Value) (r : Int) (hr : In64 r) (h9 : rowR r = 9) (w : World) (aU aS : Addr) (hG : Glob w aU aS) :
    Calls Tryd.prog 42 #[v, .int .i64 r] w fun e w' => e = .returned (.tuple #[.slice none 0 0, errV aS]) ∧ Below w.heap.size w w' := by
  have hez := eq_zero
  have H9 := Lib.hid h9
  clear h9
  go_enter Tryd.func42, Tryd.ntmps42
  go_wp2_with fail
  refine (rowOf_any r hr _).mono ?_
  rintro e w1 ⟨rfl, hb1⟩
  have hg1 := hG.below hb1
  have hs := hg1.sca
  have hlt := hg1.ltS
  rw [H9.out, row9]
  go_wp2
  go_region
  all_goals
    go_wp2
    go_ret2
    exact ⟨rfl, (hb1.alloc hb1.size _).drew⟩

theorem mark_is (k : Nat) (z : Int) (hz : ((sz k : Nat) : Int) = z) (m : Int) (hm : ((mk k : Nat) : Int) = m) (w : World) :
    Calls Tryd.prog 61 #[.agg #[.complex .f64 (lob k) (hib k), .int .i64 z, .int .u8 (fl k : Nat), .int .u8 (fh k : Nat), .int .u8 (sl k : Nat), .int .u8 (sh k : Nat)]] w fun e w' => e = .returned (.int .u8 m) ∧ Below w.heap.size w w' := by
  subst hz
  subst hm
  exact mark_any k w

theorem grown_of_below {w w' : World} (h : Below w.heap.size w w') (row : Option Nat) : w.grownBy w' row := ⟨h.os, h.tape, h.output, h.size, fun k hk _ => h.block k hk⟩
theorem own_below {w w' : World} {base : Nat} {e : TypeId} {size : Nat} {v : Value} {n : Nat} {xs : List Value} (h : w.ownsRow base e size v n xs) (hb : Below w.heap.size w w') : w'.ownsRow base e size v n xs :=
  h.kept (grown_of_below hb none) (by cases v.ownBlock <;> simp)
theorem grown_trans {a b c : World} {row : Option Nat} (h : a.grownBy b row) (k : b.grownBy c row) : a.grownBy c row :=
  ⟨k.os.trans h.os, k.tape.trans h.tape, k.output.trans h.output, Nat.le_trans h.size k.size, fun i hi hr => (k.block i (Nat.lt_of_lt_of_le hi h.size) hr).trans (h.block i hi hr)⟩

/-- What put leaves: the list longer by the bytes bs. -/
def PutPost (base : Nat) (v : Value) (n : Nat) (xs : List Value) (bs : List Value) (w : World) (e : Ending) (w' : World) : Prop :=
  ∃ g cap, e = .returned (.tuple #[.slice (some ⟨g, 0, none⟩) (n + bs.length) cap, .nilIface]) ∧ w'.ownsRow base 5 1 (.slice (some ⟨g, 0, none⟩) (n + bs.length) cap) (n + bs.length) (xs ++ bs) ∧
    w.grownBy w' v.ownBlock ∧ (v.ownBlock = some g ∨ w.heap.size ≤ g)

theorem infoByte : (Tryd.prog.info? 5).map (fun i => (i.zero, i.size, i.bytes)) = some (some (.int .u8 0), 1, 1) := by kernel_rfl

/-- Behind the call of mark: the first byte is laid, and all are appended. -/
theorem put_end {w w1 w2 : World} {A : Obj} {cs : Array Value} (hb1 : Below w.heap.size w w1) (hb2 : Below ((w1.alloc A).alloc (.cells cs 94)).heap.size ((w1.alloc A).alloc (.cells cs 94)) w2) :
    w2.heap[w1.heap.size + 1]? = some (.cells cs 94 (0, 0)) ∧ Below w.heap.size w w2 ∧ w.heap.size ≤ w1.heap.size ∧ w1.heap.size + 2 ≤ w2.heap.size := by
  refine ⟨(hb2.block _ (by simp)).trans (heap_alloc2_new _ _ _), ?_, hb1.size, by have := hb2.size; simpa using this⟩
  exact ((hb1.alloc hb1.size _).alloc (by simp; have := hb1.size; omega) _).trans (hb2.mono (by simp; have := hb1.size; omega))

theorem put_more {w w2 : World} {base : Nat} {v : Value} {n : Nat} {xs : List Value} {q : Nat} {t : TypeId} {X Y : Value} {cs news rest : List Value} (hown : w.ownsRow base 5 1 v n xs) (hq : w2.heap[q]? = some (.cells (Y :: cs).toArray t (0, 0)))
    (hb : Below w.heap.size w w2) (hlt : w.heap.size ≤ q) (hn : X :: cs = news ++ rest) :
    (w2.setCell ⟨q, 0, none⟩ X).ownsRow base 5 1 v n xs ∧ (∀ j u, news[j]? = some u → (w2.setCell ⟨q, 0, none⟩ X).cell? ((⟨q, 0, none⟩ : Addr).add j) = some u) ∧ Below w.heap.size w (w2.setCell ⟨q, 0, none⟩ X) ∧ w.heap.size ≤ (w2.setCell ⟨q, 0, none⟩ X).heap.size := by
  have hb3 : Below w.heap.size w (w2.setCell ⟨q, 0, none⟩ X) := hb.setCell (p := ⟨q, 0, none⟩) hlt _
  refine ⟨own_below hown hb3, fun j u hu => ?_, hb3, hb3.size⟩
  have hq3 := heap_setCell_same w2 q 0 _ t X hq
  refine World.news_of_block hq3 j u ?_
  have : (((Y :: cs).toArray.setIfInBounds 0 X)).toList = news ++ rest := by rw [← hn]; simp
  rw [this, List.getElem?_append_left (List.getElem?_eq_some_iff.1 hu).1]
  exact hu

end Go.Proofs.YtcdgmamlmapbcaaDoor
