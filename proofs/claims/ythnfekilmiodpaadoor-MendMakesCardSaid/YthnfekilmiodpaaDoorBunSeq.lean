/- reader.scalars: what goes through a text: the pairs that come; the contract of the function that yields them. reader.scalars: the walk of the function that yields the pairs. A range over what goes through a text: the law of the statement, at the contract of XSeqWalk. read, reader.scalars, Valid. Which texts are well-formed: one behind the other; parts of a scalar's bytes. Plain words on texts of scalars: what the laws of stage 1 and 2 share. -/
import Derived.Test.YthnfekilmiodpaaDoorBunNext
import Derived.Test.YthnfekilmiodpaaDoorBunEnc
import Derived.RangeFuncNested
import Derived.RangeFuncBound
import Derived.RangeFuncCalls
import Derived.RangeFuncLeaves
import Derived.Shelf.Abstract
import Derived.Shelf.RegionOpen
import Derived.WalkKit
import Derived.OwnWalkIn
import Derived.TacticsInMore
import Derived.LoopNIn
import Derived.LoopIn
import Derived.Sort.LoopGhostIn
import Derived.Test.YthnfekilmiodpaaDoorBunPut
namespace Go.Proofs.YthnfekilmiodpaaDoor
open Go.RowKit Go.Shelf
attribute [local go_sem] Oper.semAt_some

/-- The pairs that come of what is left: a scalar, and whether it is wrong there. -/
def evs (l : List UInt8) : List (Nat × Bool) :=
  match l with
  | [] => []
  | b :: t =>
    match _h : decL (b :: t) with
    | some (r, n) => (r, false) :: evs ((b :: t).drop n)
    | none => [(0, true)]
termination_by l.length
decreasing_by
  have := decL_len (by assumption)
  simp only [List.length_drop]
  omega

theorem evs_nil : evs [] = [] := by unfold evs; rfl
theorem evs_some {l : List UInt8} {r n : Nat} (h : decL l = some (r, n)) : evs l = (r, false) :: evs (l.drop n) := by
  cases l with
  | nil => cases h
  | cons b t =>
    rw [evs]
    split
    · rename_i r' n' h'
      rw [h] at h'
      cases h'
      rfl
    · rename_i h'
      rw [h] at h'
      cases h'
theorem evs_none {l : List UInt8} (h : decL l = none) (h0 : l ≠ []) : evs l = [(0, true)] := by
  cases l with
  | nil => exact absurd rfl h0
  | cons b t =>
    rw [evs]
    split
    · rename_i r' n' h'
      rw [h] at h'
      cases h'
    · rfl

/-- What is yielded. -/
def encs (aU : Addr) (x : Nat × Bool) : Array Value := #[.int .i64 (x.1 : Nat), if x.2 then errV aU else .nilIface]

/-- What the reader's steps turn. -/
abbrev Own (p : Nat) (mb : Option Nat) (k : Nat) : Prop := k = p ∨ mb = some k

/-- What a round must leave: all that the reader leans on. -/
structure Apart (Sc : Nat → Prop) (p : Nat) (mb : Option Nat) (b : Nat) (aU aS : Addr) : Prop where
  p : ¬ Sc p
  m : ∀ m, mb = some m → ¬ Sc m
  b : ¬ Sc b
  gU : ¬ Sc 1
  gS : ¬ Sc 2
  aU : ¬ Sc aU.block
  aS : ¬ Sc aS.block

theorem Glob.apart {w w' : World} {aU aS : Addr} (h : Glob w aU aS) {Sc : Nat → Prop} (hm : Moves Sc w w') (h1 : ¬ Sc 1) (h2 : ¬ Sc 2) (h3 : ¬ Sc aU.block) (h4 : ¬ Sc aS.block) : Glob w' aU aS where
  utf := (World.cell?_of_block (w := w) (hm.block _ h.ltU h1)).trans h.utf
  sca := (World.cell?_of_block (w := w) (hm.block _ h.ltS h2)).trans h.sca
  ne := h.ne
  rowU := by obtain ⟨c, t, hc⟩ := h.rowU; exact ⟨c, t, (hm.block _ h.lt_aU h3).trans hc⟩
  rowS := by obtain ⟨c, t, hc⟩ := h.rowS; exact ⟨c, t, (hm.block _ h.lt_aS h4).trans hc⟩
  ltU := Nat.lt_of_lt_of_le h.ltU hm.size
  ltS := Nat.lt_of_lt_of_le h.ltS hm.size

theorem Glob.ne_cells {w : World} {aU aS : Addr} (h : Glob w aU aS) {p : Nat} {s : ByteArray} {mb : Option Nat} (hr : Rd w p s mb) (hp : p ≠ 1 ∧ p ≠ 2 ∧ p ≠ aU.block ∧ p ≠ aS.block) :
    ∀ k, Own p mb k → k ≠ 1 ∧ k ≠ 2 ∧ k ≠ aU.block ∧ k ≠ aS.block := by
  rintro k (rfl | e)
  · exact hp
  · obtain ⟨es, c, hh, _⟩ := hr.good k e
    exact h.ne_map hh

/-- The pairs come, one by one; the last one, where there is no scalar. -/
structure Sit (w : World) (p : Nat) (s : ByteArray) (mb : Option Nat) (b : Nat) (aU aS : Addr) : Prop where
  rd : Rd w p s mb
  gl : Glob w aU aS
  box : ∃ t, w.heap[b]? = some (.cells #[.pointer (some ⟨p, 0, none⟩)] t (0, 0))
  far : p ≠ 1 ∧ p ≠ 2 ∧ p ≠ aU.block ∧ p ≠ aS.block ∧ p ≠ b

theorem Sit.cellb {w : World} {p : Nat} {s : ByteArray} {mb : Option Nat} {b : Nat} {aU aS : Addr} (h : Sit w p s mb b aU aS) : w.cell? ⟨b, 0, none⟩ = some (.pointer (some ⟨p, 0, none⟩)) := by
  obtain ⟨t, hb⟩ := h.box
  rw [cell_of_row _ _ 0 _ _ _ hb]; rfl
theorem Sit.apart {w w' : World} {p : Nat} {s : ByteArray} {mb : Option Nat} {b : Nat} {aU aS : Addr} (h : Sit w p s mb b aU aS) {Sc : Nat → Prop} (hS : Apart Sc p mb b aU aS) (hm : Moves Sc w w') : Sit w' p s mb b aU aS where
  rd := h.rd.keep (hm.block _ h.rd.lt hS.p) fun m e => by subst e; exact hm.block _ h.rd.ltm (hS.m m rfl)
  gl := h.gl.apart hm hS.gU hS.gS hS.aU hS.aS
  box := by obtain ⟨t, hb⟩ := h.box; exact ⟨t, (hm.block _ (Array.getElem?_eq_some_iff.1 hb).1 hS.b).trans hb⟩
  far := h.far
theorem Sit.map_ne {w : World} {p m : Nat} {s : ByteArray} {b : Nat} {aU aS : Addr} (h : Sit w p s (some m) b aU aS) : m ≠ b := by
  rintro rfl
  obtain ⟨es, c, hh, _⟩ := h.rd.good m rfl
  obtain ⟨t, hb⟩ := h.box
  rw [hh] at hb
  cases hb
/-- next has been called. -/
theorem Sit.next {w w' : World} {p : Nat} {s : ByteArray} {mb : Option Nat} {b : Nat} {aU aS : Addr} (h : Sit w p s mb b aU aS) (hr : Rd w' p s mb) (hm : Moves (fun k => mb = some k) w w') : Sit w' p s mb b aU aS where
  rd := hr
  gl := h.gl.moves h.rd hm
  box := by
    obtain ⟨t, hb⟩ := h.box
    refine ⟨t, (hm.block _ (Array.getElem?_eq_some_iff.1 hb).1 ?_).trans hb⟩
    intro e
    subst e
    exact h.map_ne rfl
  far := h.far
/-- Some bytes have been dropped. -/
theorem Sit.drop {w : World} {p : Nat} {s s' : ByteArray} {mb : Option Nat} {b : Nat} {aU aS : Addr} (h : Sit w p s mb b aU aS) : Sit (w.setCell ⟨p, 0, none⟩ (.string s')) p s' mb b aU aS where
  rd := by
    refine ⟨?_, fun m e => ?_⟩
    · have := h.rd.blk
      rw [heap_setCell_same _ _ 0 _ _ _ this]
      rfl
    · obtain ⟨es, c, hh, hg⟩ := h.rd.good m e
      refine ⟨es, c, ?_, hg⟩
      subst e
      exact (heap_setCell_other _ _ _ _ h.rd.ne).trans hh
  gl := h.gl.apart (Sc := fun k => k = p) (Moves.setCell rfl) (Ne.symm h.far.1) (Ne.symm h.far.2.1) (Ne.symm h.far.2.2.1) (Ne.symm h.far.2.2.2.1)
  box := by
    obtain ⟨t, hb⟩ := h.box
    exact ⟨t, (heap_setCell_other _ _ _ _ (Ne.symm h.far.2.2.2.2)).trans hb⟩
  far := h.far
end Go.Proofs.YthnfekilmiodpaaDoor

namespace Go.Proofs.YthnfekilmiodpaaDoor
open Go.RowKit Go.Shelf
attribute [local go_sem] Oper.semAt_some

theorem ne_nil_of_size {s : ByteArray} (h : 0 < s.size) : s.data.toList ≠ [] := by
  intro e
  have h0 : s.data.toList.length = s.size := by simp
  rw [e] at h0
  simp at h0
  omega
theorem drop_toList (s : ByteArray) (n : Nat) : (s.extract n s.size).data.toList = s.data.toList.drop n := by
  rw [Lib.extract_data]
  apply List.ext_getElem?
  intro i
  simp [List.getElem?_take, List.getElem?_drop]
  omega

end Go.Proofs.YthnfekilmiodpaaDoor

namespace Go.Proofs.YthnfekilmiodpaaDoor
open Go.RowKit Go.Shelf
attribute [local go_sem] Oper.semAt_some

/-- How the body of a round may be left. -/
def roundEnd (Sc : Nat → Prop) (I : List (Nat × Bool) → World → Prop) (Ix : Code → List (Nat × Bool) → World → Prop) (xs : List (Nat × Bool)) (W : World) : Exit → Act → World → Prop
  | .normal, _, W' => Moves Sc W W' ∧ I xs W'
  | .ret, _, W' => Moves Sc W W' ∧ Ix .ret xs W'
  | .exit id, _, W' => Moves Sc W W' ∧ Ix (.exit id) xs W'
  | .goto t, _, W' => Moves Sc W W' ∧ Ix (.goto t) xs W'
  | .panic _, _, _ => False
  | .outgrown, _, _ => False

/-- What turns beside the body's own: the reader's blocks, and whatever has been laid since. -/
abbrev Beside (p : Nat) (mb : Option Nat) (n : Nat) (k : Nat) : Prop := Own p mb k ∨ n ≤ k

end Go.Proofs.YthnfekilmiodpaaDoor

namespace Go.Proofs.YthnfekilmiodpaaDoor
open Go.RowKit Go.Shelf
attribute [local go_sem] Oper.semAt_some

/-- A block of one cell. -/
def Box (w : World) (c : Nat) (v : Value) : Prop := ∃ t, w.heap[c]? = some (.cells #[v] t (0, 0))
theorem Box.lt {w : World} {c : Nat} {v : Value} (h : Box w c v) : c < w.heap.size := by obtain ⟨t, h⟩ := h; exact (Array.getElem?_eq_some_iff.1 h).1
theorem Box.cell {w : World} {c : Nat} {v : Value} (h : Box w c v) : w.cell? ⟨c, 0, none⟩ = some v := by obtain ⟨t, h⟩ := h; rw [cell_of_row _ _ 0 _ _ _ h]; rfl
theorem Box.froz {w : World} {c : Nat} {v : Value} (h : Box w c v) : w.frozen? ⟨c, 0, none⟩ = false := by obtain ⟨t, h⟩ := h; exact frozen_of_row _ _ _ _ _ h
theorem Box.moves {w w' : World} {c : Nat} {v : Value} {S : Nat → Prop} (h : Box w c v) (hm : Moves S w w') (hc : ¬ S c) : Box w' c v := by obtain ⟨t, hb⟩ := h; exact ⟨t, (hm.block _ (Box.lt ⟨t, hb⟩) hc).trans hb⟩
theorem Box.set {w : World} {c : Nat} {v : Value} (h : Box w c v) (v' : Value) : Box (w.setCell ⟨c, 0, none⟩ v') c v' := by
  obtain ⟨t, h⟩ := h
  exact ⟨t, by rw [heap_setCell_same _ _ 0 _ _ _ h]; rfl⟩
theorem Box.new (w : World) (v : Value) (t : TypeId) : Box (w.alloc (.cells #[v] t)) w.heap.size v := ⟨t, heap_alloc_new _ _⟩

/-- Is there no scalar somewhere? -/
def validL (l : List UInt8) : Bool := (evs l).all fun x => !x.2

end Go.Proofs.YthnfekilmiodpaaDoor

namespace Go.Proofs.YthnfekilmiodpaaDoor

theorem validL_nil : validL [] = true := by unfold validL; rw [evs_nil]; rfl
theorem validL_some {l : List UInt8} {r n : Nat} (h : decL l = some (r, n)) : validL l = validL (l.drop n) := by
  unfold validL
  rw [evs_some h]
  simp
theorem validL_none {l : List UInt8} (h : decL l = none) (h0 : l ≠ []) : validL l = false := by
  unfold validL
  rw [evs_none h h0]
  rfl
theorem evs_enc {r : Nat} (h : rowR r < 9) (t : List UInt8) : evs (encB r ++ t) = (r, false) :: evs t := by
  rw [evs_some (decL_enc h t), List.drop_left]
theorem validL_enc {r : Nat} (h : rowR r < 9) (t : List UInt8) : validL (encB r ++ t) = validL t := by
  rw [validL_some (decL_enc h t), List.drop_left]

/-- A byte of a scalar that is not its first one. -/
theorem enc_tail {r : Nat} (h : rowR r < 9) {i : Nat} (h0 : 0 < i) (hi : i < (encB r).length) : 128 ≤ ((encB r).getD i 0).toNat ∧ ((encB r).getD i 0).toNat ≤ 191 :=
  tail_of_fits h (known_row h).fits h0 hi
/-- With such a byte no scalar begins. -/
theorem decL_tail {b : UInt8} {t : List UInt8} (h : 128 ≤ b.toNat ∧ b.toNat ≤ 191) : decL (b :: t) = none := by
  rw [decL_cons]
  have := rowIx_cases b.toNat
  rw [if_neg (by omega)]

theorem split_some {l : List UInt8} {r n : Nat} (h : decL l = some (r, n)) : l = encB r ++ l.drop n ∧ rowR r < 9 := by
  obtain ⟨h9, ht, _⟩ := decL_some h
  exact ⟨by rw [← ht, List.take_append_drop], h9⟩

theorem validL_append (n : Nat) : ∀ (s t : List UInt8), s.length ≤ n → validL s = true → validL (s ++ t) = validL t := by
  induction n with
  | zero =>
    intro s t hn _
    obtain rfl : s = [] := List.eq_nil_of_length_eq_zero (by omega)
    rfl
  | succ n ih =>
    intro s t hn hs
    cases hd : decL s with
    | none =>
      by_cases h0 : s = []
      · subst h0; rfl
      · rw [validL_none hd h0] at hs; cases hs
    | some x =>
      obtain ⟨r, k⟩ := x
      obtain ⟨e, h9⟩ := split_some hd
      have hl := decL_len hd
      rw [validL_some hd] at hs
      have := ih (s.drop k) t (by simp only [List.length_drop]; omega) hs
      rw [e, List.append_assoc, validL_enc h9, this]

theorem validL_head {t : List UInt8} (h : validL t = true) (h0 : t ≠ []) : ¬ (128 ≤ (t.getD 0 0).toNat ∧ (t.getD 0 0).toNat ≤ 191) := by
  intro hb
  cases t with
  | nil => exact h0 rfl
  | cons b t =>
    rw [validL_none (decL_tail (by simpa using hb)) (by simp)] at h
    cases h

theorem validL_front (n : Nat) : ∀ (s t : List UInt8), s.length ≤ n → validL t = true → validL (s ++ t) = validL s := by
  induction n with
  | zero =>
    intro s t hn ht
    obtain rfl : s = [] := List.eq_nil_of_length_eq_zero (by omega)
    rw [List.nil_append, ht, validL_nil]
  | succ n ih =>
    intro s t hn ht
    by_cases h0 : s = []
    · subst h0
      rw [List.nil_append, ht, validL_nil]
    cases hd : decL s with
    | some x =>
      obtain ⟨r, k⟩ := x
      obtain ⟨e, h9⟩ := split_some hd
      have hl := decL_len hd
      have := ih (s.drop k) t (by simp only [List.length_drop]; omega) ht
      rw [validL_some hd]
      conv => lhs; rw [e, List.append_assoc, validL_enc h9, this]
    | none =>
      rw [validL_none hd h0]
      cases hst : decL (s ++ t) with
      | none => exact validL_none hst (by simp [h0])
      | some x =>
        exfalso
        obtain ⟨r, k⟩ := x
        obtain ⟨h9, hk, hlen⟩ := decL_some hst
        rcases Nat.lt_or_ge s.length k with hlt | hge
        · have hl := decL_len hst
          have htn : t ≠ [] := by
            rintro rfl
            simp at hl
            omega
          have hp : 0 < s.length := List.length_pos_iff.2 h0
          have hc := enc_tail h9 hp (by omega)
          refine validL_head ht htn ?_
          have eg : (encB r).getD s.length 0 = t.getD 0 0 := by
            rw [← hk]
            simp only [List.getD, List.getElem?_take, hlt, if_true]
            rw [List.getElem?_append_right (Nat.le_refl _), Nat.sub_self]
          rw [eg] at hc
          exact hc
        · have e : s = encB r ++ s.drop k := by
            have := congrArg (List.take k) (List.take_append_drop k s).symm
            rw [← hk, List.take_append_of_le_length hge, List.take_append_drop]
          rw [e, decL_enc h9] at hd
          cases hd

/-- A part of a scalar's bytes, at its beginning, that is not all of them. -/
theorem validL_take {r i : Nat} (h : rowR r < 9) (h0 : 0 < i) (hi : i < (encB r).length) : validL ((encB r).take i) = false := by
  have K := known_row h
  obtain ⟨b, t, e, hb⟩ := K.head
  have e2 : (encB r).take i = b :: t.take (i - 1) := by
    rw [e]
    obtain ⟨j, rfl⟩ : ∃ j, i = j + 1 := ⟨i - 1, by omega⟩
    simp
  have hl : ((encB r).take i).length = i := by rw [List.length_take]; omega
  rw [e2] at hl ⊢
  refine validL_none ?_ (by simp)
  rw [decL_cons, hb, if_neg]
  rintro ⟨_, hf⟩
  have hs := K.len
  simp only [fitsB, Bool.and_eq_true, decide_eq_true_eq, List.length_take] at hf
  omega
/-- At its end. -/
theorem validL_drop {r i : Nat} (h : rowR r < 9) (h0 : 0 < i) (hi : i < (encB r).length) : validL ((encB r).drop i) = false := by
  have ht := enc_tail h h0 hi
  have e : (encB r).drop i = (encB r).getD i 0 :: (encB r).drop (i + 1) := by
    rw [List.drop_eq_getElem_cons hi]
    simp [List.getD, hi]
  rw [e]
  exact validL_none (decL_tail ht) (by simp)
end Go.Proofs.YthnfekilmiodpaaDoor

namespace Go.Proofs.YthnfekilmiodpaaDoor
open Go.RowKit

theorem strR_list (r : Int) : (strR r).data.toList = encB r.toNat := rfl
theorem strR_size (r : Int) : (strR r).size = (encB r.toNat).length := by simp [strR, ByteArray.size]
theorem rowR_toNat {r : Int} (h : rowR r < 9) : rowR ((r.toNat : Nat) : Int) < 9 := by have := scalar_lt h; rwa [Int.toNat_of_nonneg this.1]
theorem piece_take {r : Int} (h : rowR r < 9) {i : Nat} (h0 : 0 < i) (hi : i < (strR r).size) : validL ((strR r).extract 0 i).data.toList = false := by
  rw [Lib.extract_data, strR_list]
  rw [strR_size] at hi
  simpa using validL_take (rowR_toNat h) h0 hi
theorem piece_drop {r : Int} (h : rowR r < 9) {i : Nat} (h0 : 0 < i) (hi : i < (strR r).size) : validL ((strR r).extract i (strR r).size).data.toList = false := by
  rw [drop_toList, strR_list]
  rw [strR_size] at hi
  exact validL_drop (rowR_toNat h) h0 hi
theorem strR_ne {r : Int} : (strR r).toList.isEmpty = false := by
  rw [Lib.toList_data, strR_list]
  have := encB_length r.toNat
  cases h : encB r.toNat with
  | nil => rw [h] at this; simp at this
  | cons b t => rfl

theorem append_list (s t : ByteArray) : (s ++ t).data.toList = s.data.toList ++ t.data.toList := by
  rw [ByteArray.data_append, Array.toList_append]
theorem joins_back (s t : ByteArray) (h : validL s.data.toList = true) : validL (s ++ t).data.toList = validL t.data.toList := by
  rw [append_list]; exact validL_append _ _ _ (Nat.le_refl _) h
theorem joins_front (s t : ByteArray) (h : validL t.data.toList = true) : validL (s ++ t).data.toList = validL s.data.toList := by
  rw [append_list]; exact validL_front _ _ _ (Nat.le_refl _) h
theorem valid_empty : validL (⟨#[]⟩ : ByteArray).data.toList = true := validL_nil

theorem head_list {s : ByteArray} {r n : Nat} (h : decL s.data.toList = some (r, n)) : (s.extract 0 n).data.toList = encB r := by
  rw [Lib.extract_data]
  simpa using (decL_some h).2.1
theorem first_more {s : ByteArray} {r n : Nat} (h : decL s.data.toList = some (r, n)) (t : ByteArray) : decV (s.extract 0 n ++ t).data.toList = .tuple #[.int .i64 (r : Nat), .int .i64 (n : Nat), .bool true] := by
  obtain ⟨h9, _, hn⟩ := decL_some h
  rw [append_list, head_list h]
  have := decL_enc h9 t.data.toList
  rw [← hn] at this
  exact decV_some this
theorem first_alone {s : ByteArray} {r n : Nat} (h : decL s.data.toList = some (r, n)) : decV (s.extract 0 n).data.toList = .tuple #[.int .i64 (r : Nat), .int .i64 (n : Nat), .bool true] := by
  obtain ⟨h9, _, hn⟩ := decL_some h
  rw [head_list h]
  have := decL_enc h9 []
  rw [← hn, List.append_nil] at this
  exact decV_some this

end Go.Proofs.YthnfekilmiodpaaDoor

