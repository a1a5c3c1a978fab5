/- The map of rows that a reader knows; reader.row. reader.row: the row of a first byte, known or looked up, and known from then on. errors.Is at the two sentinels, at nil; number. reader.next: the scalar that what is left begins with. Decode. -/
import Derived.Test.YthnfekilmiodpaaDoorBunRow
import Derived.RangeFuncRecord
import Derived.BigQuiet
import Derived.Deep.QuietTactic
import Derived.Test.YthnfekilmiodpaaDoorChecked
import Derived.WalkKit
import Derived.LaidEql
import Derived.Stop.Asserts
import Derived.RowKitTokens
import Derived.Test.YthnfekilmiodpaaDoorBunPlain
namespace Go.Proofs.YthnfekilmiodpaaDoor
open Go.RowKit

/-- Every entry tells the row of its byte. -/
def GoodMap (es : Array MapEntry) : Prop := ∀ e ∈ es.toList, ∃ b : Nat, e.key = .int .u8 (b : Nat) ∧ e.val = rowV (rowIx b)

theorem findNow_good (b : Nat) : ∀ (l : List MapEntry) (i : Nat), (∀ e ∈ l, ∃ b : Nat, e.key = .int .u8 (b : Nat) ∧ e.val = rowV (rowIx b)) →
    (Instr.findNow (.int .u8) (.int .u8 (b : Nat)) l i = some none) ∨ (∃ j e, Instr.findNow (.int .u8) (.int .u8 (b : Nat)) l i = some (some (j, rowV (rowIx b))) ∧ l[j - i]? = some e ∧ i ≤ j ∧ e.key = .int .u8 (b : Nat))
  | [], i, _ => .inl rfl
  | e :: l, i, h => by
    obtain ⟨c, hk, hv⟩ := h e (by simp)
    by_cases hc : b = c
    · subst hc
      refine .inr ⟨i, e, ?_, by simp, Nat.le_refl _, hk⟩
      simp [Instr.findNow, hk, hv, Instr.sameNow]
    · have hne : (((b : Nat) : Int) == ((c : Nat) : Int)) = false := by simp; omega
      rcases findNow_good b l (i + 1) (fun x hx => h x (by simp [hx])) with h1 | ⟨j, e', h1, h2, h3, h4⟩
      · exact .inl (by simp [Instr.findNow, hk, Instr.sameNow, hne, h1])
      · refine .inr ⟨j, e', by simp [Instr.findNow, hk, Instr.sameNow, hne, h1], ?_, by omega, h4⟩
        rw [show j - i = (j - (i + 1)) + 1 from by omega, List.getElem?_cons_succ]
        exact h2

theorem ck_byte (e : Bool) (n : Nat) (b : Nat) (w : World) : (Instr.checkKey e (n + 1) 5 (.int .u8 (b : Nat))).run Tryd.prog w = .ok () w := by
  simp [Instr.checkKey, Sem.run_bind, run_underlying Tryd.underlying5 w]
theorem findKey_byte {b : Nat} {l : List MapEntry} {r : Option (Nat × Value)} (h : Instr.findNow (.int .u8) (.int .u8 (b : Nat)) l 0 = some r) (w : World) :
    (Instr.findKey 5 (.int .u8 (b : Nat)) l).run Tryd.prog w = .ok r w := by
  simp [Instr.findKey, Sem.run_bind, run_underlying Tryd.underlying5 w, h]

/-- 'known[b]', known nil or not. -/
theorem run_known (w : World) (mb : Option Nat) (b : Nat) (h : ∀ m, mb = some m → ∃ es clock, w.heap[m]? = some (.map es clock) ∧ GoodMap es) :
    ∃ k, (k = rowIx b ∨ k = 9) ∧ (Instr.lookup 71 (.map mb) (.int .u8 (b : Nat)) false).run Tryd.prog w = .ok (rowV k) w := by
  have hk := fun e w => ck_byte e 9999 b w
  have hm : ∀ w : World, (underlying 71).run Tryd.prog w = .ok (.map 5 88) w := fun w => run_underlying Tryd.underlying71 w
  cases mb with
  | none =>
    refine ⟨9, .inr rfl, ?_⟩
    have hf := findKey_byte (b := b) (l := []) (r := none) rfl w
    simp [Instr.lookup, Sem.run_bind, hm, Result.andThen, hk, hf]
    exact ⟨⟨rfl, rfl⟩, rfl, rfl, rfl, rfl, rfl⟩
  | some m =>
    obtain ⟨es, clock, hh, hg⟩ := h m rfl
    have ho : (getObj m).run Tryd.prog w = .ok (.map es clock) w := by simp [getObj, Sem.run, hh]
    rcases findNow_good b es.toList 0 hg with h1 | ⟨j, e, h1, _⟩
    · refine ⟨9, .inr rfl, ?_⟩
      simp [Instr.lookup, Sem.run_bind, hm, ho, Result.andThen, hk, findKey_byte h1]
      exact ⟨⟨rfl, rfl⟩, rfl, rfl, rfl, rfl, rfl⟩
    · refine ⟨rowIx b, .inl rfl, ?_⟩
      simp [Instr.lookup, Sem.run_bind, hm, ho, Result.andThen, hk, findKey_byte h1]

/-- 'known[b] = row'. -/
theorem run_know (w : World) (m : Nat) (b : Nat) (es : Array MapEntry) (clock : Nat) (hh : w.heap[m]? = some (.map es clock)) (hg : GoodMap es) :
    ∃ es' clock', GoodMap es' ∧ (Instr.mapUpdate 71 (.map (some m)) (.int .u8 (b : Nat)) (rowV (rowIx b))).run Tryd.prog w = .ok () (w.putObj m (.map es' clock')) := by
  have hk := fun e w => ck_byte e 9999 b w
  have hm : ∀ w : World, (underlying 71).run Tryd.prog w = .ok (.map 5 88) w := fun w => run_underlying Tryd.underlying71 w
  have ho : (getObj m).run Tryd.prog w = .ok (.map es clock) w := by simp [getObj, Sem.run, hh]
  have hs : ∀ o, (setObj m o).run Tryd.prog w = .ok () (w.putObj m o) := fun o => by simp [setObj, Sem.run, hh, World.putObj]
  rcases findNow_good b es.toList 0 hg with h1 | ⟨j, e, h1, h2, _, h4⟩
  · refine ⟨es.push { key := .int .u8 (b : Nat), val := rowV (rowIx b), born := clock }, clock + 1, ?_, ?_⟩
    · intro e he
      simp at he
      rcases he with he | rfl
      · exact hg e (by simpa using he)
      · exact ⟨b, rfl, rfl⟩
    · simp [Instr.mapUpdate, Sem.run_bind, hm, ho, hs, Result.andThen, hk, findKey_byte h1]
  · have hj : es[j]? = some e := by simpa using h2
    refine ⟨es.modify j fun e => { e with key := .int .u8 (b : Nat), val := rowV (rowIx b) }, clock, ?_, ?_⟩
    · intro x hx
      obtain ⟨i, hi, rfl⟩ := List.getElem_of_mem hx
      simp at hi ⊢
      rw [List.getElem_modify]
      split
      · exact ⟨b, rfl, rfl⟩
      · exact hg _ (by simp)
    · simp [Instr.mapUpdate, Sem.run_bind, hm, ho, hs, Result.andThen, hk, findKey_byte h1, hj, h4, Instr.keyThatStays, Instr.sameBits]

/-- A reader lies in block p: what of the text is left, and the rows that it knows. -/
structure Rd (w : World) (p : Nat) (s : ByteArray) (mb : Option Nat) : Prop where
  blk : w.heap[p]? = some (.cells #[.string s, .map mb] 73 (0, 0))
  good : ∀ m, mb = some m → ∃ es clock, w.heap[m]? = some (.map es clock) ∧ GoodMap es

theorem Rd.lt {w : World} {p : Nat} {s : ByteArray} {mb : Option Nat} (h : Rd w p s mb) : p < w.heap.size := (Array.getElem?_eq_some_iff.1 h.blk).1
theorem Rd.ltm {w : World} {p m : Nat} {s : ByteArray} (h : Rd w p s (some m)) : m < w.heap.size := by
  obtain ⟨es, clock, hh, _⟩ := h.good m rfl
  exact (Array.getElem?_eq_some_iff.1 hh).1
theorem Rd.ne {w : World} {p m : Nat} {s : ByteArray} (h : Rd w p s (some m)) : m ≠ p := by
  rintro rfl
  obtain ⟨es, clock, hh, _⟩ := h.good m rfl
  have := h.blk
  rw [hh] at this
  cases this
theorem Rd.keep {w w' : World} {p : Nat} {s : ByteArray} {mb : Option Nat} (h : Rd w p s mb) (hp : w'.heap[p]? = w.heap[p]?) (hm : ∀ m, mb = some m → w'.heap[m]? = w.heap[m]?) : Rd w' p s mb :=
  ⟨hp.trans h.blk, fun m e => by obtain ⟨es, clock, hh, hg⟩ := h.good m e; exact ⟨es, clock, (hm m e).trans hh, hg⟩⟩
theorem Rd.below {w w' : World} {p : Nat} {s : ByteArray} {mb : Option Nat} (h : Rd w p s mb) (hb : Below w.heap.size w w') : Rd w' p s mb :=
  h.keep (hb.block _ h.lt) fun m e => by subst e; exact hb.block _ h.ltm
theorem Rd.cell0 {w : World} {p : Nat} {s : ByteArray} {mb : Option Nat} (h : Rd w p s mb) : w.cell? ⟨p, 0, none⟩ = some (.string s) := by rw [cell_of_row _ _ 0 _ _ _ h.blk]; rfl
theorem Rd.cell1 {w : World} {p : Nat} {s : ByteArray} {mb : Option Nat} (h : Rd w p s mb) : w.cell? ⟨p, 1, none⟩ = some (.map mb) := by rw [cell_of_row _ _ 1 _ _ _ h.blk]; rfl
theorem Rd.froz {w : World} {p : Nat} {s : ByteArray} {mb : Option Nat} (h : Rd w p s mb) (i : Nat) : w.frozen? ⟨p, i, none⟩ = false := frozen_of_row _ _ _ _ _ h.blk

/-- Nothing that was there has turned, but for the blocks that S says. -/
structure Moves (S : Nat → Prop) (w w' : World) : Prop where
  os : w'.os = w.os
  tape : w'.tape = w.tape
  output : w'.output = w.output
  size : w.heap.size ≤ w'.heap.size
  block : ∀ k, k < w.heap.size → ¬ S k → w'.heap[k]? = w.heap[k]?
theorem Moves.refl (S : Nat → Prop) (w : World) : Moves S w w := ⟨rfl, rfl, rfl, Nat.le_refl _, fun _ _ _ => rfl⟩
theorem Moves.trans {S : Nat → Prop} {a b c : World} (h : Moves S a b) (k : Moves S b c) : Moves S a c :=
  ⟨k.os.trans h.os, k.tape.trans h.tape, k.output.trans h.output, Nat.le_trans h.size k.size, fun i hi hs => (k.block i (Nat.lt_of_lt_of_le hi h.size) hs).trans (h.block i hi hs)⟩
theorem Moves.of_below {S : Nat → Prop} {w w' : World} (h : Below w.heap.size w w') : Moves S w w' := ⟨h.os, h.tape, h.output, h.size, fun k hk _ => h.block k hk⟩
theorem Moves.below {S : Nat → Prop} {B : Nat} {w0 w w' : World} (h : Below B w0 w) (hB : B ≤ w.heap.size) (k : Moves S w w') (hS : ∀ j, S j → B ≤ j) : Below B w0 w' :=
  h.trans ⟨k.os, k.tape, k.output, k.size, fun i hi => k.block i (Nat.lt_of_lt_of_le hi hB) (fun hs => by have := hS i hs; omega)⟩
theorem Moves.putObj {S : Nat → Prop} {w : World} {m : Nat} {o : Obj} (hS : S m) : Moves S w (w.putObj m o) :=
  ⟨rfl, rfl, rfl, by simp, fun k _ hk => World.putObj_heap_other (fun e => hk (e ▸ hS))⟩
theorem Moves.setCell {S : Nat → Prop} {w : World} {a : Addr} {v : Value} (hS : S a.block) : Moves S w (w.setCell a v) :=
  ⟨rfl, rfl, rfl, by simp [World.setCell], fun k _ hk => heap_setCell_other _ _ _ _ (fun e => hk (e ▸ hS))⟩
theorem Moves.drew {S : Nat → Prop} {w w' : World} (h : Moves S w w') : Moves S w w'.drew := ⟨h.os, h.tape, h.output, h.size, h.block⟩
theorem Moves.mono {S T : Nat → Prop} {w w' : World} (h : Moves S w w') (hS : ∀ k, S k → T k) : Moves T w w' := ⟨h.os, h.tape, h.output, h.size, fun k hk hn => h.block k hk fun hs => hn (hS k hs)⟩
end Go.Proofs.YthnfekilmiodpaaDoor

namespace Go.Proofs.YthnfekilmiodpaaDoor
open Go.RowKit

/-- Cells of a block that is known whole. -/
theorem six {w : World} {g : Nat} {k : Nat} (h : w.heap[g]? = some (.cells (rowV k).cells 88 (0, 0))) :
    w.cell? ⟨g, 0, none⟩ = some (.complex .f64 (lob k) (hib k)) ∧ w.cell? ⟨g, 1, none⟩ = some (.int .i64 (sz k : Nat)) ∧ w.cell? ⟨g, 2, none⟩ = some (.int .u8 (fl k : Nat)) ∧
    w.cell? ⟨g, 3, none⟩ = some (.int .u8 (fh k : Nat)) ∧ w.cell? ⟨g, 4, none⟩ = some (.int .u8 (sl k : Nat)) ∧ w.cell? ⟨g, 5, none⟩ = some (.int .u8 (sh k : Nat)) := by
  refine ⟨?_, ?_, ?_, ?_, ?_, ?_⟩
  · rw [cell_of_row _ _ 0 _ _ _ h]; rfl
  · rw [cell_of_row _ _ 1 _ _ _ h]; rfl
  · rw [cell_of_row _ _ 2 _ _ _ h]; rfl
  · rw [cell_of_row _ _ 3 _ _ _ h]; rfl
  · rw [cell_of_row _ _ 4 _ _ _ h]; rfl
  · rw [cell_of_row _ _ 5 _ _ _ h]; rfl

/-- A row stored into a variable that is known whole; the world behind it by its name. -/
theorem store_row {ops : Array Oper} {rest : List Oper} {o : Oper} {a : Act} {w w3 : World} {Q : Exit → Act → World → Prop} (hgd : o.guard = none) (x y : Operand) (ho : o.op = .store 88 x y)
    (g k : Nat) (hx : a.eval x = .pointer (some ⟨g, 0, none⟩)) (hy : a.eval y = rowV k) {old : Array Value} (hold : old.size = 6) (hg : w.heap[g]? = some (.cells old 88 (0, 0)))
    (hw : w.setRow g (rowV k).cells = w3) (h : wpList Tryd.prog ops Q rest (a.put o.dst undef) w3) : wpList Tryd.prog ops Q (o :: rest) a w :=
  wpList_store_row hgd _ x y ho g (rowV k).cells hx hy _ old hg (by kernel_rfl) (by rw [hold]; rfl) (rowV_one k) (by rw [hw]; exact h)

abbrev zeroC : Array Value := #[.complex .f64 0 0, .int .i64 0, .int .u8 0, .int .u8 0, .int .u8 0, .int .u8 0]

theorem moves_setRow {S : Nat → Prop} {w w' : World} {g : Nat} {cs : Array Value} (h : Moves S w w') (hg : w.heap.size ≤ g) : Moves S w (w'.setRow g cs) :=
  ⟨h.os, h.tape, h.output, by simpa using h.size, fun k hk hs => (setRow_other _ _ _ _ (by omega)).trans (h.block k hk hs)⟩

def RowPost (p : Nat) (s : ByteArray) (mb : Option Nat) (b : Nat) (w : World) (e : Ending) (w' : World) : Prop :=
  e = .returned (rowV (rowIx b)) ∧ Rd w' p s mb ∧ Moves (fun k => mb = some k) w w'

set_option maxHeartbeats 1000000 in
/-- The row was known. -/
theorem row_known (p : Nat) (s : ByteArray) (mb : Option Nat) (b : Nat) (w : World) (h : Rd w p s mb) (hk : rowIx b < 9)
    (hl : (Instr.lookup 71 (.map mb) (.int .u8 (b : Nat)) false).run Tryd.prog (w.alloc (.cells zeroC 88)) = .ok (rowV (rowIx b)) (w.alloc (.cells zeroC 88))) :
    Calls Tryd.prog 47 #[.pointer (some ⟨p, 0, none⟩), .int .u8 (b : Nat)] w (RowPost p s mb b w) := by
  have hn := ne_row hk
  have hp := h.lt
  have c1 := h.cell1
  go_enter Tryd.func47, Tryd.ntmps47
  go_wp2
  refine bodyPost_ret (v := rowV (rowIx b)) ?_ rfl ⟨rfl, ?_, ?_⟩
  · exact results_cell_row rfl _ _ w.heap.size 88 (rowV (rowIx b)).cells (0, 0) _ rfl ((Below.heap_alloc _ _ _ (by simp)).trans (heap_alloc_new _ _)) Tryd.underlying88 rfl (by kernel_rfl)
  · exact h.below (((Below.refl _ _).alloc (Nat.le_refl _) _).alloc (by simp) _)
  · exact Moves.of_below (((Below.refl _ _).alloc (Nat.le_refl _) _).alloc (by simp) _)

set_option maxHeartbeats 1000000 in
set_option maxRecDepth 100000 in
/-- It was not. -/
theorem row_new (p : Nat) (s : ByteArray) (mb : Option Nat) (b : Nat) (w : World) (h : Rd w p s mb)
    (hl : (Instr.lookup 71 (.map mb) (.int .u8 (b : Nat)) false).run Tryd.prog (w.alloc (.cells zeroC 88)) = .ok (.agg zeroC) (w.alloc (.cells zeroC 88))) :
    Calls Tryd.prog 47 #[.pointer (some ⟨p, 0, none⟩), .int .u8 (b : Nat)] w (RowPost p s mb b w) := by
  have hn := ne_zero
  have hp := h.lt
  have c1 := h.cell1
  go_enter Tryd.func47, Tryd.ntmps47
  go_wp2_with fail
  refine (rowFrom_any b _).mono ?_
  rintro e w2 ⟨rfl, hb2⟩
  have hb3 : Below (w.heap.size + 1 + 1) ((w.alloc (.cells zeroC 88)).alloc (.cells zeroC 88)) w2 := by simpa using hb2
  clear hb2
  have hz := hb3.size
  simp at hz
  have g4 : w2.heap[w.heap.size]? = some (.cells zeroC 88 (0, 0)) := (hb3.block _ (by omega)).trans ((Below.heap_alloc _ _ _ (by simp)).trans (heap_alloc_new _ _))
  have g5 : w2.heap[w.heap.size + 1]? = some (.cells zeroC 88 (0, 0)) := (hb3.block _ (by omega)).trans (by have := heap_alloc_new (w.alloc (.cells zeroC 88)) (.cells zeroC 88); simpa using this)
  have hbw : Below w.heap.size w w2 := (((Below.refl w.heap.size w).alloc (Nat.le_refl _) _).alloc (by simp) _).trans (hb3.mono (by omega))
  have h2 : Rd w2 p s mb := h.below hbw
  have G4 := Lib.hid g4
  have G5 := Lib.hid g5
  clear g4 g5 c1
  obtain ⟨w3, hw3⟩ : ∃ w3, w2.setRow (w.heap.size + 1) (rowV (rowIx b)).cells = w3 := ⟨_, rfl⟩
  have h35 : w3.heap[w.heap.size + 1]? = some (.cells (rowV (rowIx b)).cells 88 (0, 0)) := by rw [← hw3]; exact setRow_heap _ _ _ _ _ _ G5.out
  have h3o : ∀ k, k ≠ w.heap.size + 1 → w3.heap[k]? = w2.heap[k]? := fun k hk => by rw [← hw3]; exact setRow_other _ _ _ _ hk
  have h34 : w3.heap[w.heap.size]? = some (.cells zeroC 88 (0, 0)) := (h3o _ (by omega)).trans G4.out
  have hs3 : w3.heap.size = w2.heap.size := by rw [← hw3]; simp
  have hbw3 : Below w.heap.size w w3 := by rw [← hw3]; exact below_setRow hbw (by omega) _
  have h3 : Rd w3 p s mb := h.below hbw3
  have HW := Lib.hid hw3
  have H35 := Lib.hid h35
  have H34 := Lib.hid h34
  have H3O := Lib.hid h3o
  clear hw3 h34 h3o
  obtain ⟨d0, d1, d2, d3, d4, d5⟩ := six H35.out
  have c3 := h3.cell1
  clear h35
  cases mb with
  | none =>
    have hmn : ∀ w, (binOp .neq 71 (.map none) (.map none)).run Tryd.prog w = .ok (.bool false) w := fun w => run_neq_map_nil w _ _ _ none Tryd.underlying71
    go_wp2_with (first | (refine store_row rfl (.tmp 5) _ rfl (w.heap.size + 1) (rowIx b) rfl rfl rfl G5.out HW.out ?_) | (refine store_row rfl (.tmp 4) _ rfl w.heap.size (rowIx b) rfl rfl rfl H34.out rfl ?_))
    refine bodyPost_ret (v := rowV (rowIx b)) ?_ rfl ⟨rfl, ?_, ?_⟩
    · exact results_cell_row rfl _ _ w.heap.size 88 (rowV (rowIx b)).cells (0, 0) _ rfl (setRow_heap _ _ _ _ _ _ H34.out) Tryd.underlying88 rfl (by kernel_rfl)
    · exact h.below (below_setRow hbw3 (Nat.le_refl _) _)
    · exact Moves.of_below (below_setRow hbw3 (Nat.le_refl _) _)
  | some m =>
    have hmn : ∀ w, (binOp .neq 71 (.map (some m)) (.map none)).run Tryd.prog w = .ok (.bool true) w := fun w => run_neq_map_nil w _ _ _ (some m) Tryd.underlying71
    by_cases hk : rowIx b < 9
    · have hne := ne_row hk
      clear hk
      go_wp2_with (first | (refine store_row rfl (.tmp 5) _ rfl (w.heap.size + 1) (rowIx b) rfl rfl rfl G5.out HW.out ?_) | (refine store_row rfl (.tmp 4) _ rfl w.heap.size (rowIx b) rfl rfl rfl H34.out rfl ?_))
      obtain ⟨es, clock, hh, hg⟩ := h3.good m rfl
      obtain ⟨es', clock', hg', hup⟩ := run_know w3.drew m b es clock hh hg
      have hm := h.ltm
      obtain ⟨w4, hw4⟩ : ∃ w4, w3.drew.putObj m (.map es' clock') = w4 := ⟨_, rfl⟩
      rw [hw4] at hup
      have h44 : w4.heap[w.heap.size]? = some (.cells zeroC 88 (0, 0)) := by rw [← hw4]; exact (World.putObj_heap_other (by omega)).trans H34.out
      have h4m : w4.heap[m]? = some (.map es' clock') := by rw [← hw4]; exact World.putObj_heap_same (by show m < w3.heap.size; omega)
      have h45 : w4.heap[w.heap.size + 1]? = some (.cells (rowV (rowIx b)).cells 88 (0, 0)) := by rw [← hw4]; exact (World.putObj_heap_other (by omega)).trans H35.out
      have h4p : w4.heap[p]? = some (.cells #[.string s, .map (some m)] 73 (0, 0)) := by rw [← hw4]; exact (World.putObj_heap_other (by have := h.ne; omega)).trans h3.blk
      have hM : Moves (fun k => some m = some k) w w4 := by
        rw [← hw4]
        exact (Moves.drew (Moves.of_below hbw3)).trans (Moves.putObj rfl)
      have H44 := Lib.hid h44
      have H4M := Lib.hid h4m
      have H4P := Lib.hid h4p
      have HM := Lib.hid hM
      obtain ⟨f0, f1, f2, f3, f4, f5⟩ := six h45
      clear hw4 h44 h4m h45 h4p hM hh hg hne hl hmn
      go_region
      all_goals
        go_wp2_with (refine store_row rfl (.tmp 4) _ rfl w.heap.size (rowIx b) rfl rfl rfl H44.out rfl ?_)
        refine bodyPost_ret (v := rowV (rowIx b)) ?_ rfl ⟨rfl, ⟨?_, ?_⟩, ?_⟩
        · exact results_cell_row rfl _ _ w.heap.size 88 (rowV (rowIx b)).cells (0, 0) _ rfl (setRow_heap _ _ _ _ _ _ H44.out) Tryd.underlying88 rfl (by kernel_rfl)
        · exact (setRow_other _ _ _ _ (by omega)).trans H4P.out
        · rintro m' e
          cases e
          exact ⟨es', clock', (setRow_other _ _ _ _ (by omega)).trans H4M.out, hg'⟩
        · exact moves_setRow HM.out (by omega)
    · have hne : ∀ w, (binOp .neq 88 (rowV (rowIx b)) zeroV).run Tryd.prog w = .ok (.bool false) w := by
        have : rowIx b = 9 := by have := rowIx_le b; omega
        rw [this]
        exact ne_zero
      clear hk
      go_wp2_with (first | (refine store_row rfl (.tmp 5) _ rfl (w.heap.size + 1) (rowIx b) rfl rfl rfl G5.out HW.out ?_) | (refine store_row rfl (.tmp 4) _ rfl w.heap.size (rowIx b) rfl rfl rfl H34.out rfl ?_))
      refine bodyPost_ret (v := rowV (rowIx b)) ?_ rfl ⟨rfl, ?_, ?_⟩
      · exact results_cell_row rfl _ _ w.heap.size 88 (rowV (rowIx b)).cells (0, 0) _ rfl (setRow_heap _ _ _ _ _ _ H34.out) Tryd.underlying88 rfl (by kernel_rfl)
      · exact h.below (below_setRow hbw3 (Nat.le_refl _) _)
      · exact Moves.of_below (below_setRow hbw3 (Nat.le_refl _) _)

end Go.Proofs.YthnfekilmiodpaaDoor

namespace Go.Proofs.YthnfekilmiodpaaDoor
open Go.RowKit Go.Extern.Stop Go.Stop Go.Extern

theorem isTypeOf (v : Value) (w : World) : (callFunc 42 #[.iface 113 v]).run Tryd.prog w = .ok (.value (.iface 95 (.agg #[.pointer (some ⟨3, 113, none⟩)]))) w := by kernel_rfl
theorem isComparable (w : World) : (callFunc 77 #[.agg #[.pointer (some ⟨3, 113, none⟩)]]).run Tryd.prog w = .ok (.value (.bool true)) w := by kernel_rfl
theorem isMethodComparable (v : Value) (w : World) : (Go.method 250 95 v "Comparable").run Tryd.prog w = .ok (77, v) w := by kernel_rfl
theorem isComp : (Tryd.prog.info? 113).map (·.comparable) = some true := by kernel_rfl
theorem isSize : (Tryd.prog.info? 138).map (·.size) = some 1 := by kernel_rfl
theorem noIsE (v : Value) (xT : TypeId) (w : World) : (Instr.typeAssert (.iface 113 v) xT 97 true).run Tryd.prog w = .ok (.tuple #[.nilIface, .bool false]) w := run_typeAssert_lacksB Tryd.underlying97 (by kernel_rfl) (by kernel_rfl) v xT w
theorem noUnwrapE (v : Value) (xT : TypeId) (w : World) : (Instr.typeAssert (.iface 113 v) xT 100 true).run Tryd.prog w = .ok (.tuple #[.nilIface, .bool false]) w := run_typeAssert_lacksB Tryd.underlying100 (by kernel_rfl) (by kernel_rfl) v xT w
theorem noUnwrapsE (v : Value) (xT : TypeId) (w : World) : (Instr.typeAssert (.iface 113 v) xT 102 true).run Tryd.prog w = .ok (.tuple #[.nilIface, .bool false]) w := run_typeAssert_lacksB Tryd.underlying102 (by kernel_rfl) (by kernel_rfl) v xT w

abbrev errV (a : Addr) : Value := .iface 113 (.pointer (some a))

theorem is_same (a : Addr) (w : World) :
    Calls Tryd.prog 36 #[errV a, errV a] w fun e w' => e = .returned (.bool true) ∧ w = w' := by
  obtain ⟨i, hi, hcmp⟩ := Option.map_eq_some_iff.1 isComp
  obtain ⟨j, hj, hjs⟩ := Option.map_eq_some_iff.1 isSize
  have tT := isTypeOf
  have cT := isComparable
  have mR := isMethodComparable
  have heq := run_eql_iface_ptr_same (P := Tryd.prog) w a Tryd.underlying46 Tryd.underlying113 hi hcmp hj
  go_enter Tryd.func36, Tryd.ntmps36
  go_wp2
  refine wp_loop_rounds 1 ?_
  rw [rounds_succ]
  go_wp2
  go_ret
  exact ⟨rfl, rfl⟩

theorem is_nil (b : Addr) (w : World) :
    Calls Tryd.prog 36 #[.nilIface, errV b] w fun e w' => e = .returned (.bool false) ∧ w = w' := by
  have hn := run_eql_iface_nil_left (P := Tryd.prog) w 113 (.pointer (some b)) Tryd.underlying46
  go_enter Tryd.func36, Tryd.ntmps36
  go_wp2
  go_ret
  exact ⟨rfl, rfl⟩

theorem is_other (a b : Addr) (ca cb : Array Value) (ta tb : TypeId) (w : World) (hne : a ≠ b) (ha : w.heap[a.block]? = some (.cells ca ta (0, 0))) (hb : w.heap[b.block]? = some (.cells cb tb (0, 0))) :
    Calls Tryd.prog 36 #[errV a, errV b] w fun e w' => e = .returned (.bool false) ∧ w = w' := by
  obtain ⟨i, hi, hcmp⟩ := Option.map_eq_some_iff.1 isComp
  obtain ⟨j, hj, hjs⟩ := Option.map_eq_some_iff.1 isSize
  have tT := isTypeOf
  have cT := isComparable
  have mR := isMethodComparable
  have nE := noIsE
  have uE := noUnwrapE
  have vE := noUnwrapsE
  have heq := run_eql_iface_ptr_other (P := Tryd.prog) w Tryd.underlying46 Tryd.underlying113 hi hcmp hj (by rw [hjs]; decide) hne ha hb
  go_enter Tryd.func36, Tryd.ntmps36
  go_wp2
  refine wp_loop_rounds 1 ?_
  rw [rounds_succ]
  go_wp2
  go_ret
  exact ⟨rfl, rfl⟩

/-- The two sentinels, aS they lie from start-up on: their variables, and what these point to. -/
structure Glob (w : World) (aU aS : Addr) : Prop where
  utf : w.cell? ⟨1, 0, none⟩ = some (errV aU)
  sca : w.cell? ⟨2, 0, none⟩ = some (errV aS)
  ne : aU ≠ aS
  rowU : ∃ c t, w.heap[aU.block]? = some (.cells c t (0, 0))
  rowS : ∃ c t, w.heap[aS.block]? = some (.cells c t (0, 0))
  ltU : 1 < w.heap.size
  ltS : 2 < w.heap.size

theorem Glob.lt_aU {w : World} {aU aS : Addr} (h : Glob w aU aS) : aU.block < w.heap.size := by
  obtain ⟨c, t, hc⟩ := h.rowU
  exact (Array.getElem?_eq_some_iff.1 hc).1
theorem Glob.lt_aS {w : World} {aU aS : Addr} (h : Glob w aU aS) : aS.block < w.heap.size := by
  obtain ⟨c, t, hc⟩ := h.rowS
  exact (Array.getElem?_eq_some_iff.1 hc).1
/-- They lie so in every world that is the same below where w ends. -/
theorem Glob.keep {w w' : World} {aU aS : Addr} (h : Glob w aU aS) (hs : w.heap.size ≤ w'.heap.size) (hb : ∀ k, k < w.heap.size → w'.heap[k]? = w.heap[k]?) : Glob w' aU aS where
  utf := (World.cell?_of_block (w := w) (hb _ h.ltU)).trans h.utf
  sca := (World.cell?_of_block (w := w) (hb _ h.ltS)).trans h.sca
  ne := h.ne
  rowU := by obtain ⟨c, t, hc⟩ := h.rowU; exact ⟨c, t, (hb _ h.lt_aU).trans hc⟩
  rowS := by obtain ⟨c, t, hc⟩ := h.rowS; exact ⟨c, t, (hb _ h.lt_aS).trans hc⟩
  ltU := Nat.lt_of_lt_of_le h.ltU hs
  ltS := Nat.lt_of_lt_of_le h.ltS hs
theorem Glob.below {w w' : World} {aU aS : Addr} (h : Glob w aU aS) (hb : Below w.heap.size w w') : Glob w' aU aS := h.keep hb.size hb.block
theorem Glob.drew {w : World} {aU aS : Addr} (h : Glob w aU aS) : Glob w.drew aU aS := h.keep (Nat.le_refl _) fun _ _ => rfl

theorem is_us {w : World} {aU aS : Addr} (h : Glob w aU aS) : Calls Tryd.prog 36 #[errV aU, errV aS] w fun e w' => e = .returned (.bool false) ∧ w = w' := by
  obtain ⟨c, t, hc⟩ := h.rowU
  obtain ⟨d, u, hd⟩ := h.rowS
  exact is_other aU aS c d t u w h.ne hc hd

theorem number_nil {w : World} {aU aS : Addr} (h : Glob w aU aS) : Calls Tryd.prog 45 #[.nilIface] w fun e w' => e = .returned (.int .i64 0) ∧ w = w' := by
  have hu := h.utf
  have hs := h.sca
  go_enter Tryd.func45, Tryd.ntmps45
  go_wp2_with fail
  refine (is_nil aS _).mono ?_
  rintro e w' ⟨rfl, rfl⟩
  go_wp2_with fail
  refine (is_nil aU _).mono ?_
  rintro e w' ⟨rfl, rfl⟩
  go_wp2
  go_ret
  exact ⟨rfl, rfl⟩
theorem number_sca {w : World} {aU aS : Addr} (h : Glob w aU aS) : Calls Tryd.prog 45 #[errV aS] w fun e w' => e = .returned (.int .i64 10) ∧ w = w' := by
  have hu := h.utf
  have hs := h.sca
  go_enter Tryd.func45, Tryd.ntmps45
  go_wp2_with fail
  refine (is_same aS _).mono ?_
  rintro e w' ⟨rfl, rfl⟩
  go_wp2
  go_ret
  exact ⟨rfl, rfl⟩
theorem number_utf {w : World} {aU aS : Addr} (h : Glob w aU aS) : Calls Tryd.prog 45 #[errV aU] w fun e w' => e = .returned (.int .i64 11) ∧ w = w' := by
  have hu := h.utf
  have hs := h.sca
  go_enter Tryd.func45, Tryd.ntmps45
  go_wp2_with fail
  refine (is_us h).mono ?_
  rintro e w' ⟨rfl, rfl⟩
  go_wp2_with fail
  refine (is_same aU _).mono ?_
  rintro e w' ⟨rfl, rfl⟩
  go_wp2
  go_ret
  exact ⟨rfl, rfl⟩
end Go.Proofs.YthnfekilmiodpaaDoor

namespace Go.Proofs.YthnfekilmiodpaaDoor
open Go.RowKit

theorem row_any (p : Nat) (s : ByteArray) (mb : Option Nat) (b : Nat) (w : World) (h : Rd w p s mb) :
    Calls Tryd.prog 47 #[.pointer (some ⟨p, 0, none⟩), .int .u8 (b : Nat)] w (RowPost p s mb b w) := by
  have hb : Rd (w.alloc (.cells zeroC 88)) p s mb := h.below ((Below.refl _ _).alloc (Nat.le_refl _) _)
  obtain ⟨k, hk, hl⟩ := run_known (w.alloc (.cells zeroC 88)) mb b hb.good
  by_cases h9 : k < 9
  · obtain rfl : k = rowIx b := by omega
    exact row_known p s mb b w h h9 hl
  · have : k = 9 := by have := rowIx_le b; omega
    subst this
    exact row_new p s mb b w h hl

theorem Glob.ne_map {w : World} {aU aS : Addr} (h : Glob w aU aS) {m : Nat} {es : Array MapEntry} {c : Nat} (hm : w.heap[m]? = some (.map es c)) :
    m ≠ 1 ∧ m ≠ 2 ∧ m ≠ aU.block ∧ m ≠ aS.block := by
  refine ⟨?_, ?_, ?_, ?_⟩
  · rintro rfl
    have := h.utf
    simp [World.cell?, hm] at this
  · rintro rfl
    have := h.sca
    simp [World.cell?, hm] at this
  · rintro rfl
    obtain ⟨c, t, hc⟩ := h.rowU
    rw [hm] at hc
    cases hc
  · rintro rfl
    obtain ⟨c, t, hc⟩ := h.rowS
    rw [hm] at hc
    cases hc
/-- The sentinels lie as they lay, where a reader's map alone has turned. -/
theorem Glob.moves {w w' : World} {aU aS : Addr} {p : Nat} {s : ByteArray} {mb : Option Nat} (h : Glob w aU aS) (hr : Rd w p s mb) (hm : Moves (fun k => mb = some k) w w') : Glob w' aU aS := by
  have hk : ∀ k, k < w.heap.size → (k = 1 ∨ k = 2 ∨ k = aU.block ∨ k = aS.block) → w'.heap[k]? = w.heap[k]? := by
    intro k hk hor
    refine hm.block k hk ?_
    intro e
    obtain ⟨es, c, hh, _⟩ := hr.good k e
    have := h.ne_map hh
    omega
  exact {
    utf := (World.cell?_of_block (w := w) (hk _ h.ltU (by simp))).trans h.utf
    sca := (World.cell?_of_block (w := w) (hk _ h.ltS (by simp))).trans h.sca
    ne := h.ne
    rowU := by obtain ⟨c, t, hc⟩ := h.rowU; exact ⟨c, t, (hk _ h.lt_aU (by simp)).trans hc⟩
    rowS := by obtain ⟨c, t, hc⟩ := h.rowS; exact ⟨c, t, (hk _ h.lt_aS (by simp)).trans hc⟩
    ltU := Nat.lt_of_lt_of_le h.ltU hm.size
    ltS := Nat.lt_of_lt_of_le h.ltS hm.size }

/-- What next answers. -/
def nextV (aU : Addr) (l : List UInt8) : Value :=
  match decL l with
  | some (r, n) => .tuple #[.int .i64 (r : Nat), .int .i64 (n : Nat), .nilIface]
  | none => .tuple #[.int .i64 0, .int .i64 0, errV aU]
def NextPost (p : Nat) (s : ByteArray) (mb : Option Nat) (aU : Addr) (w : World) (e : Ending) (w' : World) : Prop :=
  e = .returned (nextV aU s.data.toList) ∧ Rd w' p s mb ∧ Moves (fun k => mb = some k) w w'

theorem nextV_none {aU : Addr} {l : List UInt8} (h : decL l = none) : nextV aU l = .tuple #[.int .i64 0, .int .i64 0, errV aU] := by
  unfold nextV; rw [h]

theorem nextV_some {aU : Addr} {l : List UInt8} {r n : Nat} (h : decL l = some (r, n)) : nextV aU l = .tuple #[.int .i64 (r : Nat), .int .i64 (n : Nat), .nilIface] := by
  unfold nextV; rw [h]

set_option maxHeartbeats 400000 in
theorem next_end (p : Nat) (s : ByteArray) (mb : Option Nat) (w : World) (h : Rd w p s mb) (aU aS : Addr) (hG : Glob w aU aS) (hs : s.size = 0) :
    Calls Tryd.prog 39 #[.pointer (some ⟨p, 0, none⟩)] w (NextPost p s mb aU w) := by
  have c0 := h.cell0
  have hp := h.lt
  have hu := hG.utf
  have hltu := hG.ltU
  have e0 : (((s.size : Nat) : Int) == 0) = true := by rw [hs]; rfl
  have hd : decL s.data.toList = none := by
    have : s.data.toList = [] := List.eq_nil_of_length_eq_zero (by simpa using hs)
    rw [this]; rfl
  have HD := Lib.hid hd
  clear hs hd
  go_enter Tryd.func39, Tryd.ntmps39
  go_wp2_with fail
  refine wp_scope_forth 0 (by simp [findLabel]; rfl) ?_
  go_wp2_with (go_at_call 46; refine (left_any p s _ (h.below ((Below.refl _ _).alloc (Nat.le_refl _) _)).cell0).mono ?_; rintro e w' ⟨rfl, rfl⟩)
  refine wp_goto ?_
  simp only [Exit.then]
  show Exit.jump _ _ _ _ _ _
  simp only [Exit.jump, true_and]
  go_wp2
  go_region
  all_goals
    go_wp2
    rw [Exit.noGoto_ret]
    go_ret3
    refine ⟨?_, h.below ((Below.refl _ _).alloc (Nat.le_refl _) _).drew, Moves.of_below ((Below.refl _ _).alloc (Nat.le_refl _) _).drew⟩
    rw [nextV_none HD.out]
    rfl

theorem head_is (p : Nat) (s : ByteArray) (n : Nat) (w : World) (hc : w.cell? ⟨p, 0, none⟩ = some (.string s)) {bs : List UInt8} {len : Nat} (hb : s.data.toList.take n = bs) (hl : bs.length = len) :
    Calls Tryd.prog 48 #[.pointer (some ⟨p, 0, none⟩), .int .i64 (n : Nat)] w fun e w' => ∃ g cap, e = .returned (.slice (some ⟨g, 0, none⟩) len cap) ∧
      (∀ i, i < bs.length → w'.cell? ⟨g, i, none⟩ = some (.int .u8 ((bs.getD i 0).toNat : Nat))) ∧ Below w.heap.size w w' := by
  subst hb
  subst hl
  exact (head_any p s n w hc).mono fun e w' h => by
    obtain ⟨⟨v, he, g, cap, hv, hc⟩, hb⟩ := h
    exact ⟨g, cap, by rw [he, hv], hc, hb⟩
theorem fits_is (k : Nat) {bs : List UInt8} {len : Nat} (hl : bs.length = len) (h4 : bs.length ≤ 4) (g cap : Nat) (w : World) (hc : ∀ i, i < bs.length → w.cell? ⟨g, i, none⟩ = some (.int .u8 ((bs.getD i 0).toNat : Nat))) {r : Bool} (hr : fitsB k bs = r) :
    Calls Tryd.prog 49 #[rowV k, .slice (some ⟨g, 0, none⟩) len cap] w fun e w' => e = .returned (.bool r) ∧ Below w.heap.size w w' := by
  subst hl
  subst hr
  exact fits_any k bs g cap w hc h4
theorem join_is (k : Nat) {bs : List UInt8} {len : Nat} (hl : bs.length = len) (h4 : bs.length ≤ 4) (g cap : Nat) (w : World) (hc : ∀ i, i < bs.length → w.cell? ⟨g, i, none⟩ = some (.int .u8 ((bs.getD i 0).toNat : Nat))) (hk : k < 9) (hf : fitsB k bs = true) {r : Nat} (hr : joinB k bs = r) :
    Calls Tryd.prog 50 #[rowV k, .slice (some ⟨g, 0, none⟩) len cap] w fun e w' => e = .returned (.int .i64 (r : Nat)) ∧ Below w.heap.size w w' := by
  subst hl
  subst hr
  exact join_any k bs g cap w hc h4 hk hf
theorem cells_below {w w' : World} {g : Nat} {bs : List UInt8} (hc : ∀ i, i < bs.length → w.cell? ⟨g, i, none⟩ = some (.int .u8 ((bs.getD i 0).toNat : Nat))) (hb : Below w.heap.size w w') :
    ∀ i, i < bs.length → w'.cell? ⟨g, i, none⟩ = some (.int .u8 ((bs.getD i 0).toNat : Nat)) := fun i hi =>
  (hb.cell (p := ⟨g, i, none⟩) (block_lt_of_cell (hc i hi))).trans (hc i hi)
/-- What a text begins with, told by its first byte. -/
theorem decL_more {s : ByteArray} (hs : 0 < s.size) {k : Nat} (hk : rowIx s[0].toNat = k) {bs : List UInt8} (hb : s.data.toList.take (sz k) = bs) :
    decL s.data.toList = if k < 9 ∧ fitsB k bs = true then some (joinB k bs, sz k) else none := by
  have he : s.data.toList = s[0] :: s.data.toList.tail := by
    have h0 : s.data.toList ≠ [] := by
      intro e
      have h1 : s.data.toList.length = 0 := by rw [e]; rfl
      have h2 : s.data.toList.length = s.size := by simp
      omega
    obtain ⟨a, t, ht⟩ := List.exists_cons_of_ne_nil h0
    have ha : s[0] = a := by
      have : s.data.toList[0]? = some a := by rw [ht]; rfl
      rw [Array.getElem?_toList, Array.getElem?_eq_getElem (by simpa using hs)] at this
      exact Option.some.inj this
    rw [ht, ha]; rfl
  subst hk
  subst hb
  generalize s.data.toList = l at *
  rw [he]
  rfl

/-- What the walk knows from when the row has been found and stored in its variable, block q. -/
structure Mid (w w3 : World) (q p : Nat) (s : ByteArray) (mb : Option Nat) (k : Nat) (aU aS : Addr) : Prop where
  rd : Rd w3 p s mb
  mv : Moves (fun j => mb = some j) w w3
  row : w3.heap[q]? = some (.cells (rowV k).cells 88 (0, 0))
  gl : Glob w3 aU aS
theorem Mid.below {w w3 w4 : World} {q p : Nat} {s : ByteArray} {mb : Option Nat} {k : Nat} {aU aS : Addr} (h : Mid w w3 q p s mb k aU aS) (hb : Below w3.heap.size w3 w4) : Mid w w4 q p s mb k aU aS :=
  ⟨h.rd.below hb, h.mv.trans (Moves.of_below hb), (hb.block _ (Array.getElem?_eq_some_iff.1 h.row).1).trans h.row, h.gl.below hb⟩
theorem Mid.drew {w w3 : World} {q p : Nat} {s : ByteArray} {mb : Option Nat} {k : Nat} {aU aS : Addr} (h : Mid w w3 q p s mb k aU aS) : Mid w w3.drew q p s mb k aU aS :=
  h.below (Below.refl _ _).drew
theorem mid_of {w w3 : World} {p : Nat} {s : ByteArray} {mb : Option Nat} {k : Nat} {aU aS : Addr} (h : Rd w p s mb) (hG : Glob w aU aS) (h3 : Rd w3 p s mb) (hm : Moves (fun j => mb = some j) (w.alloc (.cells zeroC 88)) w3) :
    Mid w (w3.setRow w.heap.size (rowV k).cells) w.heap.size p s mb k aU aS ∧ w3.heap[w.heap.size]? = some (.cells zeroC 88 (0, 0)) := by
  have hq : w3.heap[w.heap.size]? = some (.cells zeroC 88 (0, 0)) := (hm.block _ (by simp) (fun e => by subst e; have := h.ltm; omega)).trans (heap_alloc_new _ _)
  have hmw : Moves (fun j => mb = some j) w w3 := (Moves.of_below ((Below.refl _ _).alloc (Nat.le_refl _) _)).trans hm
  have hp := h.lt
  have h4 : Rd (w3.setRow w.heap.size (rowV k).cells) p s mb := h3.keep (setRow_other _ _ _ _ (by omega)) fun m e => setRow_other _ _ _ _ (by subst e; have := h.ltm; omega)
  have hm4 : Moves (fun j => mb = some j) w (w3.setRow w.heap.size (rowV k).cells) := moves_setRow hmw (Nat.le_refl _)
  exact ⟨⟨h4, hm4, setRow_heap _ _ _ _ _ _ hq, hG.moves h hm4⟩, hq⟩

set_option maxHeartbeats 1000000 in
theorem next_more (p : Nat) (s : ByteArray) (mb : Option Nat) (w : World) (h : Rd w p s mb) (aU aS : Addr) (hG : Glob w aU aS) (hs : 0 < s.size) :
    Calls Tryd.prog 39 #[.pointer (some ⟨p, 0, none⟩)] w (NextPost p s mb aU w) := by
  have c0 := h.cell0
  have hp := h.lt
  have e0 : (((s.size : Nat) : Int) == 0) = false := by simpa using Nat.ne_of_gt hs
  go_enter Tryd.func39, Tryd.ntmps39
  go_wp2_with fail
  refine wp_scope_forth 0 (by simp [findLabel]; rfl) ?_
  go_wp2_with (go_at_call 46; refine (left_any p s _ (h.below ((Below.refl _ _).alloc (Nat.le_refl _) _)).cell0).mono ?_; rintro e w' ⟨rfl, rfl⟩)
  refine (row_any p s mb _ _ (h.below ((Below.refl _ _).alloc (Nat.le_refl _) _))).mono ?_
  rintro e w3 ⟨rfl, h3, hm3⟩
  generalize hk : rowIx s[0].toNat = k
  obtain ⟨hmid, hq⟩ := mid_of (k := k) (aU := aU) (aS := aS) h hG h3 hm3
  obtain ⟨w4, hw4⟩ : ∃ w4, w3.setRow w.heap.size (rowV k).cells = w4 := ⟨_, rfl⟩
  rw [hw4] at hmid
  obtain ⟨d0, d1, d2, d3, d4, d5⟩ := six hmid.row
  have c4 := hmid.rd.cell0
  obtain ⟨bs, hbs⟩ : ∃ bs, s.data.toList.take (sz k) = bs := ⟨_, rfl⟩
  obtain ⟨len, hlen⟩ : ∃ n, bs.length = n := ⟨_, rfl⟩
  have hl4 : bs.length ≤ 4 := by
    have := sz_le k
    rw [← hbs, List.length_take]
    omega
  have hD := decL_more hs hk hbs
  have HD := Lib.hid hD
  have HL4 := Lib.hid hl4
  have HLEN := Lib.hid hlen
  have HBS := Lib.hid hbs
  have HK := Lib.hid hk
  have HQ := Lib.hid hq
  have HW4 := Lib.hid hw4
  clear hk hq hw4 hm3 h3 c0 hbs hlen hl4 hD
  go_wp2_with (refine store_row rfl (.tmp 5) _ rfl w.heap.size k rfl rfl rfl HQ.out HW4.out ?_)
  go_region_with (go_at_call 48; refine Calls.mono (head_is p s (sz k) _ (by exact c4) HBS.out HLEN.out) ?_; rintro e w5 ⟨g, cap, rfl, hc5, hb5⟩)
  have hm5 := hmid.drew.below hb5
  have HC5 := Lib.hid hc5
  clear hb5 hmid c4 d0 d1 d2 d3 d4 d5 hc5
  obtain ⟨d0, d1, d2, d3, d4, d5⟩ := six hm5.row
  by_cases hk9 : k < 9
  · have he := eq_row hk9
    cases hf : fitsB k bs
    · have HF := Lib.hid hf
      have HDN : Hid (decL s.data.toList = none) := by rw [HD.out, hf]; exact Lib.hid (by simp)
      clear hf HD
      go_wp2_with (go_at_call 49; refine (fits_is k HLEN.out HL4.out g cap _ HC5.out HF.out).mono ?_; rintro e w6 ⟨rfl, hb6⟩)
      have hm6 := hm5.below hb6
      have hu := hm6.gl.utf
      clear d0 d1 d2 d3 d4 d5
      refine wp_goto ?_
      simp only [Exit.then]
      show Exit.jump _ _ _ _ _ _
      simp only [Exit.jump, true_and]
      go_wp2
      go_region
      all_goals
        go_wp2
        rw [Exit.noGoto_ret]
        go_ret3
        refine ⟨?_, hm6.drew.rd, hm6.drew.mv⟩
        rw [nextV_none HDN.out]
        rfl
    · have HF := Lib.hid hf
      have HDN : Hid (decL s.data.toList = some (joinB k bs, sz k)) := by rw [HD.out, hf]; exact Lib.hid (by simp [hk9])
      clear hf HD
      generalize hj : joinB k bs = r at HDN
      have HJ := Lib.hid hj
      clear hj
      go_wp2_with (go_at_call 49; refine (fits_is k HLEN.out HL4.out g cap _ HC5.out HF.out).mono ?_; rintro e w6 ⟨rfl, hb6⟩)
      have hm6 := hm5.below hb6
      have HC6 := Lib.hid (cells_below HC5.out hb6)
      clear d0 d1 d2 d3 d4 d5 hb6
      obtain ⟨d0, d1, d2, d3, d4, d5⟩ := six hm6.row
      go_region_with (go_at_call 50; refine Calls.mono (join_is k HLEN.out HL4.out g cap _ (by exact HC6.out) hk9 HF.out HJ.out) ?_; rintro e w7 ⟨rfl, hb7⟩; have hm7 := hm6.drew.below hb7; have j1 := (six hm7.row).2.1; have j0 := (six hm7.row).1)
      all_goals
        go_wp2
        show Exit.jump _ _ _ _ _ _
        simp only [Exit.jump]
        go_ret3
        refine ⟨?_, hm7.rd, hm7.mv⟩
        rw [nextV_some HDN.out]
        rfl
  · have hk : k = 9 := by have := rowIx_le s[0].toNat; rw [HK.out] at this; omega
    have he : ∀ w, (binOp .eql 88 (rowV k) zeroV).run Tryd.prog w = .ok (.bool true) w := by
      rw [hk]
      exact eq_zero
    have HDN : Hid (decL s.data.toList = none) := by rw [HD.out]; exact Lib.hid (by simp [hk9])
    clear hk hk9 HD
    go_wp2
    have hm6 := hm5
    have hu := hm6.gl.utf
    clear d0 d1 d2 d3 d4 d5
    refine wp_goto ?_
    simp only [Exit.then]
    show Exit.jump _ _ _ _ _ _
    simp only [Exit.jump, true_and]
    go_wp2
    go_region
    all_goals
      go_wp2
      rw [Exit.noGoto_ret]
      go_ret3
      refine ⟨?_, hm6.drew.rd, hm6.drew.mv⟩
      rw [nextV_none HDN.out]
      rfl

theorem next_any (p : Nat) (s : ByteArray) (mb : Option Nat) (w : World) (h : Rd w p s mb) (aU aS : Addr) (hG : Glob w aU aS) :
    Calls Tryd.prog 39 #[.pointer (some ⟨p, 0, none⟩)] w (NextPost p s mb aU w) := by
  rcases Nat.eq_zero_or_pos s.size with h0 | h0
  · exact next_end p s mb w h aU aS hG h0
  · exact next_more p s mb w h aU aS hG h0
end Go.Proofs.YthnfekilmiodpaaDoor

namespace Go.Proofs.YthnfekilmiodpaaDoor
open Go.RowKit

def decV (l : List UInt8) : Value :=
  match decL l with
  | some (r, n) => .tuple #[.int .i64 (r : Nat), .int .i64 (n : Nat), .bool true]
  | none => .tuple #[.int .i64 0, .int .i64 0, .bool false]

theorem decV_none {l : List UInt8} (h : decL l = none) : decV l = .tuple #[.int .i64 0, .int .i64 0, .bool false] := by unfold decV; rw [h]
theorem decV_some {l : List UInt8} {r n : Nat} (h : decL l = some (r, n)) : decV l = .tuple #[.int .i64 (r : Nat), .int .i64 (n : Nat), .bool true] := by unfold decV; rw [h]

set_option maxHeartbeats 400000 in
theorem decode_any (s : ByteArray) (w : World) (aU aS : Addr) (hG : Glob w aU aS) :
    Calls Tryd.prog 31 #[.string s] w fun e w' => e = .returned (decV s.data.toList) ∧ Below w.heap.size w w' := by
  cases hd : decL s.data.toList with
  | none =>
    rw [decV_none hd]
    have HN := Lib.hid (nextV_none (aU := aU) hd)
    clear hd
    go_enter Tryd.func31, Tryd.ntmps31
    go_wp2_with fail
    have hr : Rd (w.alloc (.cells #[.string s, .map none] 73)) w.heap.size s none := ⟨heap_alloc_new _ _, fun m e => by cases e⟩
    have hg : Glob (w.alloc (.cells #[.string s, .map none] 73)) aU aS := hG.below ((Below.refl _ _).alloc (Nat.le_refl _) _)
    refine (next_any _ s none _ hr aU aS hg).mono ?_
    rintro e w1 ⟨rfl, h1, hm1⟩
    have hb : Below w.heap.size w w1 := Moves.below ((Below.refl _ _).alloc (Nat.le_refl _) _) (by simp) hm1 (fun j e => by cases e)
    rw [HN.out]
    go_wp2
    go_region
    all_goals
      go_wp2
      go_ret3
      exact ⟨rfl, hb.drew⟩
  | some x =>
    obtain ⟨r, n⟩ := x
    rw [decV_some hd]
    have HN := Lib.hid (nextV_some (aU := aU) hd)
    clear hd
    go_enter Tryd.func31, Tryd.ntmps31
    go_wp2_with fail
    have hr : Rd (w.alloc (.cells #[.string s, .map none] 73)) w.heap.size s none := ⟨heap_alloc_new _ _, fun m e => by cases e⟩
    have hg : Glob (w.alloc (.cells #[.string s, .map none] 73)) aU aS := hG.below ((Below.refl _ _).alloc (Nat.le_refl _) _)
    refine (next_any _ s none _ hr aU aS hg).mono ?_
    rintro e w1 ⟨rfl, h1, hm1⟩
    have hb : Below w.heap.size w w1 := Moves.below ((Below.refl _ _).alloc (Nat.le_refl _) _) (by simp) hm1 (fun j e => by cases e)
    rw [HN.out]
    go_wp2
    go_region
    all_goals
      go_wp2
      go_ret3
      exact ⟨rfl, hb.drew⟩
end Go.Proofs.YthnfekilmiodpaaDoor

