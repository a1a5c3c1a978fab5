/- reader.scalars: what goes through a text: the pairs that come; the contract of the function that yields them. -/
import Derived.Test.YtcdgmamlmapbcaaDoorNext
import Derived.Test.YtcdgmamlmapbcaaDoorPure
import Derived.RangeFuncNested
import Derived.RangeFuncBound
import Derived.RangeFuncCalls
import Derived.RangeFuncLeaves
import Derived.Shelf.Abstract
import Derived.Shelf.RegionOpen
import Derived.WalkKit
import Derived.OwnWalkIn
import Derived.TacticsInMore
import Derived.LoopNIn
import Derived.LoopIn
import Derived.Sort.LoopGhostIn
namespace Go.Proofs.YtcdgmamlmapbcaaDoor
open Go.RowKit Go.Shelf
attribute [local go_sem] Oper.semAt_some

/-- The pairs that come of what is left: a scalar, and whether it is wrong there. -/
def evs (l : List UInt8) : List (Nat × Bool) :=
  match l with
  | [] => []
  | b :: t =>
    match _h : decL (b :: t) with
    | some (r, n) => (r, false) :: evs ((b :: t).drop n)
    | none => [(0, true)]
termination_by l.length
decreasing_by
  have := decL_len (by assumption)
  simp only [List.length_drop]
  omega

theorem evs_nil : evs [] = [] := by unfold evs; rfl
theorem evs_some {l : List UInt8} {r n : Nat} (h : decL l = some (r, n)) : evs l = (r, false) :: evs (l.drop n) := by
  cases l with
  | nil => cases h
  | cons b t =>
    rw [evs]
    split
    · rename_i r' n' h'
      rw [h] at h'
      cases h'
      rfl
    · rename_i h'
      rw [h] at h'
      cases h'
theorem evs_none {l : List UInt8} (h : decL l = none) (h0 : l ≠ []) : evs l = [(0, true)] := by
  cases l with
  | nil => exact absurd rfl h0
  | cons b t =>
    rw [evs]
    split
    · rename_i r' n' h'
      rw [h] at h'
      cases h'
    · rfl

/-- What is yielded. -/
def encs (aU : Addr) (x : Nat × Bool) : Array Value := #[.int .i64 (x.1 : Nat), if x.2 then errV aU else .nilIface]

/-- What the reader's steps turn. -/
abbrev Own (p : Nat) (mb : Option Nat) (k : Nat) : Prop := k = p ∨ mb = some k

/-- What a round must leave: all that the reader leans on. -/
structure Apart (Sc : Nat → Prop) (p : Nat) (mb : Option Nat) (b : Nat) (aU aS : Addr) : Prop where
  p : ¬ Sc p
  m : ∀ m, mb = some m → ¬ Sc m
  b : ¬ Sc b
  gU : ¬ Sc 0
  gS : ¬ Sc 1
  aU : ¬ Sc aU.block
  aS : ¬ Sc aS.block

theorem Glob.apart {w w' : World} {aU aS : Addr} (h : Glob w aU aS) {Sc : Nat → Prop} (hm : Moves Sc w w') (h1 : ¬ Sc 0) (h2 : ¬ Sc 1) (h3 : ¬ Sc aU.block) (h4 : ¬ Sc aS.block) : Glob w' aU aS where
  utf := (World.cell?_of_block (w := w) (hm.block _ h.ltU h1)).trans h.utf
  sca := (World.cell?_of_block (w := w) (hm.block _ h.ltS h2)).trans h.sca
  ne := h.ne
  rowU := by obtain ⟨c, t, hc⟩ := h.rowU; exact ⟨c, t, (hm.block _ h.lt_aU h3).trans hc⟩
  rowS := by obtain ⟨c, t, hc⟩ := h.rowS; exact ⟨c, t, (hm.block _ h.lt_aS h4).trans hc⟩
  ltU := Nat.lt_of_lt_of_le h.ltU hm.size
  ltS := Nat.lt_of_lt_of_le h.ltS hm.size

theorem Glob.ne_cells {w : World} {aU aS : Addr} (h : Glob w aU aS) {p : Nat} {s : ByteArray} {mb : Option Nat} (hr : Rd w p s mb) (hp : p ≠ 0 ∧ p ≠ 1 ∧ p ≠ aU.block ∧ p ≠ aS.block) :
    ∀ k, Own p mb k → k ≠ 0 ∧ k ≠ 1 ∧ k ≠ aU.block ∧ k ≠ aS.block := by
  rintro k (rfl | e)
  · exact hp
  · obtain ⟨es, c, hh, _⟩ := hr.good k e
    exact h.ne_map hh

/-- The pairs come, one by one; the last one, where there is no scalar. -/
structure Sit (w : World) (p : Nat) (s : ByteArray) (mb : Option Nat) (b : Nat) (aU aS : Addr) : Prop where
  rd : Rd w p s mb
  gl : Glob w aU aS
  box : ∃ t, w.heap[b]? = some (.cells #[.pointer (some ⟨p, 0, none⟩)] t (0, 0))
  far : p ≠ 0 ∧ p ≠ 1 ∧ p ≠ aU.block ∧ p ≠ aS.block ∧ p ≠ b

theorem Sit.cellb {w : World} {p : Nat} {s : ByteArray} {mb : Option Nat} {b : Nat} {aU aS : Addr} (h : Sit w p s mb b aU aS) : w.cell? ⟨b, 0, none⟩ = some (.pointer (some ⟨p, 0, none⟩)) := by
  obtain ⟨t, hb⟩ := h.box
  rw [cell_of_row _ _ 0 _ _ _ hb]; rfl
theorem Sit.apart {w w' : World} {p : Nat} {s : ByteArray} {mb : Option Nat} {b : Nat} {aU aS : Addr} (h : Sit w p s mb b aU aS) {Sc : Nat → Prop} (hS : Apart Sc p mb b aU aS) (hm : Moves Sc w w') : Sit w' p s mb b aU aS where
  rd := h.rd.keep (hm.block _ h.rd.lt hS.p) fun m e => by subst e; exact hm.block _ h.rd.ltm (hS.m m rfl)
  gl := h.gl.apart hm hS.gU hS.gS hS.aU hS.aS
  box := by obtain ⟨t, hb⟩ := h.box; exact ⟨t, (hm.block _ (Array.getElem?_eq_some_iff.1 hb).1 hS.b).trans hb⟩
  far := h.far
theorem Sit.map_ne {w : World} {p m : Nat} {s : ByteArray} {b : Nat} {aU aS : Addr} (h : Sit w p s (some m) b aU aS) : m ≠ b := by
  rintro rfl
  obtain ⟨es, c, hh, _⟩ := h.rd.good m rfl
  obtain ⟨t, hb⟩ := h.box
  rw [hh] at hb
  cases hb
/-- next has been called. -/
theorem Sit.next {w w' : World} {p : Nat} {s : ByteArray} {mb : Option Nat} {b : Nat} {aU aS : Addr} (h : Sit w p s mb b aU aS) (hr : Rd w' p s mb) (hm : Moves (fun k => mb = some k) w w') : Sit w' p s mb b aU aS where
  rd := hr
  gl := h.gl.moves h.rd hm
  box := by
    obtain ⟨t, hb⟩ := h.box
    refine ⟨t, (hm.block _ (Array.getElem?_eq_some_iff.1 hb).1 ?_).trans hb⟩
    intro e
    subst e
    exact h.map_ne rfl
  far := h.far
/-- Some bytes have been dropped. -/
theorem Sit.drop {w : World} {p : Nat} {s s' : ByteArray} {mb : Option Nat} {b : Nat} {aU aS : Addr} (h : Sit w p s mb b aU aS) : Sit (w.setCell ⟨p, 0, none⟩ (.string s')) p s' mb b aU aS where
  rd := by
    refine ⟨?_, fun m e => ?_⟩
    · have := h.rd.blk
      rw [heap_setCell_same _ _ 0 _ _ _ this]
      rfl
    · obtain ⟨es, c, hh, hg⟩ := h.rd.good m e
      refine ⟨es, c, ?_, hg⟩
      subst e
      exact (heap_setCell_other _ _ _ _ h.rd.ne).trans hh
  gl := h.gl.apart (Sc := fun k => k = p) (Moves.setCell rfl) (Ne.symm h.far.1) (Ne.symm h.far.2.1) (Ne.symm h.far.2.2.1) (Ne.symm h.far.2.2.2.1)
  box := by
    obtain ⟨t, hb⟩ := h.box
    exact ⟨t, (heap_setCell_other _ _ _ _ (Ne.symm h.far.2.2.2.2)).trans hb⟩
  far := h.far
end Go.Proofs.YtcdgmamlmapbcaaDoor
