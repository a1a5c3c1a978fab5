/- The map of rows that a reader knows; reader.row. -/
import Derived.Test.YtcdgmamlmapbcaaDoorNe
import Derived.RangeFuncRecord
import Derived.BigQuiet
import Derived.Deep.QuietTactic
namespace Go.Proofs.YtcdgmamlmapbcaaDoor
open Go.RowKit

/-- Every entry tells the row of its byte. -/
def GoodMap (es : Array MapEntry) : Prop := ∀ e ∈ es.toList, ∃ b : Nat, e.key = .int .u8 (b : Nat) ∧ e.val = rowV (rowIx b)

theorem findNow_good (b : Nat) : ∀ (l : List MapEntry) (i : Nat), (∀ e ∈ l, ∃ b : Nat, e.key = .int .u8 (b : Nat) ∧ e.val = rowV (rowIx b)) →
    (Instr.findNow (.int .u8) (.int .u8 (b : Nat)) l i = some none) ∨ (∃ j e, Instr.findNow (.int .u8) (.int .u8 (b : Nat)) l i = some (some (j, rowV (rowIx b))) ∧ l[j - i]? = some e ∧ i ≤ j ∧ e.key = .int .u8 (b : Nat))
  | [], i, _ => .inl rfl
  | e :: l, i, h => by
    obtain ⟨c, hk, hv⟩ := h e (by simp)
    by_cases hc : b = c
    · subst hc
      refine .inr ⟨i, e, ?_, by simp, Nat.le_refl _, hk⟩
      simp [Instr.findNow, hk, hv, Instr.sameNow]
    · have hne : (((b : Nat) : Int) == ((c : Nat) : Int)) = false := by simp; omega
      rcases findNow_good b l (i + 1) (fun x hx => h x (by simp [hx])) with h1 | ⟨j, e', h1, h2, h3, h4⟩
      · exact .inl (by simp [Instr.findNow, hk, Instr.sameNow, hne, h1])
      · refine .inr ⟨j, e', by simp [Instr.findNow, hk, Instr.sameNow, hne, h1], ?_, by omega, h4⟩
        rw [show j - i = (j - (i + 1)) + 1 from by omega, List.getElem?_cons_succ]
        exact h2

theorem ck_byte (e : Bool) (n : Nat) (b : Nat) (w : World) : (Instr.checkKey e (n + 1) 5 (.int .u8 (b : Nat))).run Tryd.prog w = .ok () w := by
  simp [Instr.checkKey, Sem.run_bind, run_underlying Tryd.underlying5 w]
theorem findKey_byte {b : Nat} {l : List MapEntry} {r : Option (Nat × Value)} (h : Instr.findNow (.int .u8) (.int .u8 (b : Nat)) l 0 = some r) (w : World) :
    (Instr.findKey 5 (.int .u8 (b : Nat)) l).run Tryd.prog w = .ok r w := by
  simp [Instr.findKey, Sem.run_bind, run_underlying Tryd.underlying5 w, h]

/-- 'known[b]', known nil or not. -/
theorem run_known (w : World) (mb : Option Nat) (b : Nat) (h : ∀ m, mb = some m → ∃ es clock, w.heap[m]? = some (.map es clock) ∧ GoodMap es) :
    ∃ k, (k = rowIx b ∨ k = 9) ∧ (Instr.lookup 78 (.map mb) (.int .u8 (b : Nat)) false).run Tryd.prog w = .ok (rowV k) w := by
  have hk := fun e w => ck_byte e 9999 b w
  have hm : ∀ w : World, (underlying 78).run Tryd.prog w = .ok (.map 5 92) w := fun w => run_underlying Tryd.underlying78 w
  cases mb with
  | none =>
    refine ⟨9, .inr rfl, ?_⟩
    have hf := findKey_byte (b := b) (l := []) (r := none) rfl w
    simp [Instr.lookup, Sem.run_bind, hm, Result.andThen, hk, hf]
    exact ⟨⟨rfl, rfl⟩, rfl, rfl, rfl, rfl, rfl⟩
  | some m =>
    obtain ⟨es, clock, hh, hg⟩ := h m rfl
    have ho : (getObj m).run Tryd.prog w = .ok (.map es clock) w := by simp [getObj, Sem.run, hh]
    rcases findNow_good b es.toList 0 hg with h1 | ⟨j, e, h1, _⟩
    · refine ⟨9, .inr rfl, ?_⟩
      simp [Instr.lookup, Sem.run_bind, hm, ho, Result.andThen, hk, findKey_byte h1]
      exact ⟨⟨rfl, rfl⟩, rfl, rfl, rfl, rfl, rfl⟩
    · refine ⟨rowIx b, .inl rfl, ?_⟩
      simp [Instr.lookup, Sem.run_bind, hm, ho, Result.andThen, hk, findKey_byte h1]

/-- 'known[b] = row'. -/
theorem run_know (w : World) (m : Nat) (b : Nat) (es : Array MapEntry) (clock : Nat) (hh : w.heap[m]? = some (.map es clock)) (hg : GoodMap es) :
    ∃ es' clock', GoodMap es' ∧ (Instr.mapUpdate 78 (.map (some m)) (.int .u8 (b : Nat)) (rowV (rowIx b))).run Tryd.prog w = .ok () (w.putObj m (.map es' clock')) := by
  have hk := fun e w => ck_byte e 9999 b w
  have hm : ∀ w : World, (underlying 78).run Tryd.prog w = .ok (.map 5 92) w := fun w => run_underlying Tryd.underlying78 w
  have ho : (getObj m).run Tryd.prog w = .ok (.map es clock) w := by simp [getObj, Sem.run, hh]
  have hs : ∀ o, (setObj m o).run Tryd.prog w = .ok () (w.putObj m o) := fun o => by simp [setObj, Sem.run, hh, World.putObj]
  rcases findNow_good b es.toList 0 hg with h1 | ⟨j, e, h1, h2, _, h4⟩
  · refine ⟨es.push { key := .int .u8 (b : Nat), val := rowV (rowIx b), born := clock }, clock + 1, ?_, ?_⟩
    · intro e he
      simp at he
      rcases he with he | rfl
      · exact hg e (by simpa using he)
      · exact ⟨b, rfl, rfl⟩
    · simp [Instr.mapUpdate, Sem.run_bind, hm, ho, hs, Result.andThen, hk, findKey_byte h1]
  · have hj : es[j]? = some e := by simpa using h2
    refine ⟨es.modify j fun e => { e with key := .int .u8 (b : Nat), val := rowV (rowIx b) }, clock, ?_, ?_⟩
    · intro x hx
      obtain ⟨i, hi, rfl⟩ := List.getElem_of_mem hx
      simp at hi ⊢
      rw [List.getElem_modify]
      split
      · exact ⟨b, rfl, rfl⟩
      · exact hg _ (by simp)
    · simp [Instr.mapUpdate, Sem.run_bind, hm, ho, hs, Result.andThen, hk, findKey_byte h1, hj, h4, Instr.keyThatStays, Instr.sameBits]

/-- A reader lies in block p: what of the text is left, and the rows that it knows. -/
structure Rd (w : World) (p : Nat) (s : ByteArray) (mb : Option Nat) : Prop where
  blk : w.heap[p]? = some (.cells #[.string s, .map mb] 80 (0, 0))
  good : ∀ m, mb = some m → ∃ es clock, w.heap[m]? = some (.map es clock) ∧ GoodMap es

theorem Rd.lt {w : World} {p : Nat} {s : ByteArray} {mb : Option Nat} (h : Rd w p s mb) : p < w.heap.size := (Array.getElem?_eq_some_iff.1 h.blk).1
theorem Rd.ltm {w : World} {p m : Nat} {s : ByteArray} (h : Rd w p s (some m)) : m < w.heap.size := by
  obtain ⟨es, clock, hh, _⟩ := h.good m rfl
  exact (Array.getElem?_eq_some_iff.1 hh).1
theorem Rd.ne {w : World} {p m : Nat} {s : ByteArray} (h : Rd w p s (some m)) : m ≠ p := by
  rintro rfl
  obtain ⟨es, clock, hh, _⟩ := h.good m rfl
  have := h.blk
  rw [hh] at this
  cases this
theorem Rd.keep {w w' : World} {p : Nat} {s : ByteArray} {mb : Option Nat} (h : Rd w p s mb) (hp : w'.heap[p]? = w.heap[p]?) (hm : ∀ m, mb = some m → w'.heap[m]? = w.heap[m]?) : Rd w' p s mb :=
  ⟨hp.trans h.blk, fun m e => by obtain ⟨es, clock, hh, hg⟩ := h.good m e; exact ⟨es, clock, (hm m e).trans hh, hg⟩⟩
theorem Rd.below {w w' : World} {p : Nat} {s : ByteArray} {mb : Option Nat} (h : Rd w p s mb) (hb : Below w.heap.size w w') : Rd w' p s mb :=
  h.keep (hb.block _ h.lt) fun m e => by subst e; exact hb.block _ h.ltm
theorem Rd.cell0 {w : World} {p : Nat} {s : ByteArray} {mb : Option Nat} (h : Rd w p s mb) : w.cell? ⟨p, 0, none⟩ = some (.string s) := by rw [cell_of_row _ _ 0 _ _ _ h.blk]; rfl
theorem Rd.cell1 {w : World} {p : Nat} {s : ByteArray} {mb : Option Nat} (h : Rd w p s mb) : w.cell? ⟨p, 1, none⟩ = some (.map mb) := by rw [cell_of_row _ _ 1 _ _ _ h.blk]; rfl
theorem Rd.froz {w : World} {p : Nat} {s : ByteArray} {mb : Option Nat} (h : Rd w p s mb) (i : Nat) : w.frozen? ⟨p, i, none⟩ = false := frozen_of_row _ _ _ _ _ h.blk

/-- Nothing that was there has turned, but for the blocks that S says. -/
structure Moves (S : Nat → Prop) (w w' : World) : Prop where
  os : w'.os = w.os
  tape : w'.tape = w.tape
  output : w'.output = w.output
  size : w.heap.size ≤ w'.heap.size
  block : ∀ k, k < w.heap.size → ¬ S k → w'.heap[k]? = w.heap[k]?
theorem Moves.refl (S : Nat → Prop) (w : World) : Moves S w w := ⟨rfl, rfl, rfl, Nat.le_refl _, fun _ _ _ => rfl⟩
theorem Moves.trans {S : Nat → Prop} {a b c : World} (h : Moves S a b) (k : Moves S b c) : Moves S a c :=
  ⟨k.os.trans h.os, k.tape.trans h.tape, k.output.trans h.output, Nat.le_trans h.size k.size, fun i hi hs => (k.block i (Nat.lt_of_lt_of_le hi h.size) hs).trans (h.block i hi hs)⟩
theorem Moves.of_below {S : Nat → Prop} {w w' : World} (h : Below w.heap.size w w') : Moves S w w' := ⟨h.os, h.tape, h.output, h.size, fun k hk _ => h.block k hk⟩
theorem Moves.below {S : Nat → Prop} {B : Nat} {w0 w w' : World} (h : Below B w0 w) (hB : B ≤ w.heap.size) (k : Moves S w w') (hS : ∀ j, S j → B ≤ j) : Below B w0 w' :=
  h.trans ⟨k.os, k.tape, k.output, k.size, fun i hi => k.block i (Nat.lt_of_lt_of_le hi hB) (fun hs => by have := hS i hs; omega)⟩
theorem Moves.putObj {S : Nat → Prop} {w : World} {m : Nat} {o : Obj} (hS : S m) : Moves S w (w.putObj m o) :=
  ⟨rfl, rfl, rfl, by simp, fun k _ hk => World.putObj_heap_other (fun e => hk (e ▸ hS))⟩
theorem Moves.setCell {S : Nat → Prop} {w : World} {a : Addr} {v : Value} (hS : S a.block) : Moves S w (w.setCell a v) :=
  ⟨rfl, rfl, rfl, by simp [World.setCell], fun k _ hk => heap_setCell_other _ _ _ _ (fun e => hk (e ▸ hS))⟩
theorem Moves.drew {S : Nat → Prop} {w w' : World} (h : Moves S w w') : Moves S w w'.drew := ⟨h.os, h.tape, h.output, h.size, h.block⟩
theorem Moves.mono {S T : Nat → Prop} {w w' : World} (h : Moves S w w') (hS : ∀ k, S k → T k) : Moves T w w' := ⟨h.os, h.tape, h.output, h.size, fun k hk hn => h.block k hk fun hs => hn (hS k hs)⟩
end Go.Proofs.YtcdgmamlmapbcaaDoor
