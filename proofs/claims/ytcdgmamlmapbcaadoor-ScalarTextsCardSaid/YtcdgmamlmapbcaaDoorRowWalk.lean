/- reader.row: the row of a first byte, known or looked up, and known from then on. -/
import Derived.Test.YtcdgmamlmapbcaaDoorRow
namespace Go.Proofs.YtcdgmamlmapbcaaDoor
open Go.RowKit

/-- Cells of a block that is known whole. -/
theorem six {w : World} {g : Nat} {k : Nat} (h : w.heap[g]? = some (.cells (rowV k).cells 92 (0, 0))) :
    w.cell? ⟨g, 0, none⟩ = some (.complex .f64 (lob k) (hib k)) ∧ w.cell? ⟨g, 1, none⟩ = some (.int .i64 (sz k : Nat)) ∧ w.cell? ⟨g, 2, none⟩ = some (.int .u8 (fl k : Nat)) ∧
    w.cell? ⟨g, 3, none⟩ = some (.int .u8 (fh k : Nat)) ∧ w.cell? ⟨g, 4, none⟩ = some (.int .u8 (sl k : Nat)) ∧ w.cell? ⟨g, 5, none⟩ = some (.int .u8 (sh k : Nat)) := by
  refine ⟨?_, ?_, ?_, ?_, ?_, ?_⟩
  · rw [cell_of_row _ _ 0 _ _ _ h]; rfl
  · rw [cell_of_row _ _ 1 _ _ _ h]; rfl
  · rw [cell_of_row _ _ 2 _ _ _ h]; rfl
  · rw [cell_of_row _ _ 3 _ _ _ h]; rfl
  · rw [cell_of_row _ _ 4 _ _ _ h]; rfl
  · rw [cell_of_row _ _ 5 _ _ _ h]; rfl

/-- A row stored into a variable that is known whole; the world behind it by its name. -/
theorem store_row {ops : Array Oper} {rest : List Oper} {o : Oper} {a : Act} {w w3 : World} {Q : Exit → Act → World → Prop} (hgd : o.guard = none) (x y : Operand) (ho : o.op = .store 92 x y)
    (g k : Nat) (hx : a.eval x = .pointer (some ⟨g, 0, none⟩)) (hy : a.eval y = rowV k) {old : Array Value} (hold : old.size = 6) (hg : w.heap[g]? = some (.cells old 92 (0, 0)))
    (hw : w.setRow g (rowV k).cells = w3) (h : wpList Tryd.prog ops Q rest (a.put o.dst undef) w3) : wpList Tryd.prog ops Q (o :: rest) a w :=
  wpList_store_row hgd _ x y ho g (rowV k).cells hx hy _ old hg (by kernel_rfl) (by rw [hold]; rfl) (rowV_one k) (by rw [hw]; exact h)

abbrev zeroC : Array Value := #[.complex .f64 0 0, .int .i64 0, .int .u8 0, .int .u8 0, .int .u8 0, .int .u8 0]

theorem moves_setRow {S : Nat → Prop} {w w' : World} {g : Nat} {cs : Array Value} (h : Moves S w w') (hg : w.heap.size ≤ g) : Moves S w (w'.setRow g cs) :=
  ⟨h.os, h.tape, h.output, by simpa using h.size, fun k hk hs => (setRow_other _ _ _ _ (by omega)).trans (h.block k hk hs)⟩

def RowPost (p : Nat) (s : ByteArray) (mb : Option Nat) (b : Nat) (w : World) (e : Ending) (w' : World) : Prop :=
  e = .returned (rowV (rowIx b)) ∧ Rd w' p s mb ∧ Moves (fun k => mb = some k) w w'

set_option maxHeartbeats 1000000 in
/-- The row was known. -/
theorem row_known (p : Nat) (s : ByteArray) (mb : Option Nat) (b : Nat) (w : World) (h : Rd w p s mb) (hk : rowIx b < 9)
    (hl : (Instr.lookup 78 (.map mb) (.int .u8 (b : Nat)) false).run Tryd.prog (w.alloc (.cells zeroC 92)) = .ok (rowV (rowIx b)) (w.alloc (.cells zeroC 92))) :
    Calls Tryd.prog 69 #[.pointer (some ⟨p, 0, none⟩), .int .u8 (b : Nat)] w (RowPost p s mb b w) := by
  have hn := ne_row hk
  have hp := h.lt
  have c1 := h.cell1
  go_enter Tryd.func69, Tryd.ntmps69
  go_wp2
  refine bodyPost_ret (v := rowV (rowIx b)) ?_ rfl ⟨rfl, ?_, ?_⟩
  · exact results_cell_row rfl _ _ w.heap.size 92 (rowV (rowIx b)).cells (0, 0) _ rfl ((Below.heap_alloc _ _ _ (by simp)).trans (heap_alloc_new _ _)) Tryd.underlying92 rfl (by kernel_rfl)
  · exact h.below (((Below.refl _ _).alloc (Nat.le_refl _) _).alloc (by simp) _)
  · exact Moves.of_below (((Below.refl _ _).alloc (Nat.le_refl _) _).alloc (by simp) _)

set_option maxHeartbeats 1000000 in
set_option maxRecDepth 100000 in
/-- It was not. -/
theorem row_new (p : Nat) (s : ByteArray) (mb : Option Nat) (b : Nat) (w : World) (h : Rd w p s mb)
    (hl : (Instr.lookup 78 (.map mb) (.int .u8 (b : Nat)) false).run Tryd.prog (w.alloc (.cells zeroC 92)) = .ok (.agg zeroC) (w.alloc (.cells zeroC 92))) :
    Calls Tryd.prog 69 #[.pointer (some ⟨p, 0, none⟩), .int .u8 (b : Nat)] w (RowPost p s mb b w) := by
  have hn := ne_zero
  have hp := h.lt
  have c1 := h.cell1
  go_enter Tryd.func69, Tryd.ntmps69
  go_wp2_with fail
  refine (rowFrom_any b _).mono ?_
  rintro e w2 ⟨rfl, hb2⟩
  have hb3 : Below (w.heap.size + 1 + 1) ((w.alloc (.cells zeroC 92)).alloc (.cells zeroC 92)) w2 := by simpa using hb2
  clear hb2
  have hz := hb3.size
  simp at hz
  have g4 : w2.heap[w.heap.size]? = some (.cells zeroC 92 (0, 0)) := (hb3.block _ (by omega)).trans ((Below.heap_alloc _ _ _ (by simp)).trans (heap_alloc_new _ _))
  have g5 : w2.heap[w.heap.size + 1]? = some (.cells zeroC 92 (0, 0)) := (hb3.block _ (by omega)).trans (by have := heap_alloc_new (w.alloc (.cells zeroC 92)) (.cells zeroC 92); simpa using this)
  have hbw : Below w.heap.size w w2 := (((Below.refl w.heap.size w).alloc (Nat.le_refl _) _).alloc (by simp) _).trans (hb3.mono (by omega))
  have h2 : Rd w2 p s mb := h.below hbw
  have G4 := Lib.hid g4
  have G5 := Lib.hid g5
  clear g4 g5 c1
  obtain ⟨w3, hw3⟩ : ∃ w3, w2.setRow (w.heap.size + 1) (rowV (rowIx b)).cells = w3 := ⟨_, rfl⟩
  have h35 : w3.heap[w.heap.size + 1]? = some (.cells (rowV (rowIx b)).cells 92 (0, 0)) := by rw [← hw3]; exact setRow_heap _ _ _ _ _ _ G5.out
  have h3o : ∀ k, k ≠ w.heap.size + 1 → w3.heap[k]? = w2.heap[k]? := fun k hk => by rw [← hw3]; exact setRow_other _ _ _ _ hk
  have h34 : w3.heap[w.heap.size]? = some (.cells zeroC 92 (0, 0)) := (h3o _ (by omega)).trans G4.out
  have hs3 : w3.heap.size = w2.heap.size := by rw [← hw3]; simp
  have hbw3 : Below w.heap.size w w3 := by rw [← hw3]; exact below_setRow hbw (by omega) _
  have h3 : Rd w3 p s mb := h.below hbw3
  have HW := Lib.hid hw3
  have H35 := Lib.hid h35
  have H34 := Lib.hid h34
  have H3O := Lib.hid h3o
  clear hw3 h34 h3o
  obtain ⟨d0, d1, d2, d3, d4, d5⟩ := six H35.out
  have c3 := h3.cell1
  clear h35
  cases mb with
  | none =>
    have hmn : ∀ w, (binOp .neq 78 (.map none) (.map none)).run Tryd.prog w = .ok (.bool false) w := fun w => run_neq_map_nil w _ _ _ none Tryd.underlying78
    go_wp2_with (first | (refine store_row rfl (.tmp 5) _ rfl (w.heap.size + 1) (rowIx b) rfl rfl rfl G5.out HW.out ?_) | (refine store_row rfl (.tmp 4) _ rfl w.heap.size (rowIx b) rfl rfl rfl H34.out rfl ?_))
    refine bodyPost_ret (v := rowV (rowIx b)) ?_ rfl ⟨rfl, ?_, ?_⟩
    · exact results_cell_row rfl _ _ w.heap.size 92 (rowV (rowIx b)).cells (0, 0) _ rfl (setRow_heap _ _ _ _ _ _ H34.out) Tryd.underlying92 rfl (by kernel_rfl)
    · exact h.below (below_setRow hbw3 (Nat.le_refl _) _)
    · exact Moves.of_below (below_setRow hbw3 (Nat.le_refl _) _)
  | some m =>
    have hmn : ∀ w, (binOp .neq 78 (.map (some m)) (.map none)).run Tryd.prog w = .ok (.bool true) w := fun w => run_neq_map_nil w _ _ _ (some m) Tryd.underlying78
    by_cases hk : rowIx b < 9
    · have hne := ne_row hk
      clear hk
      go_wp2_with (first | (refine store_row rfl (.tmp 5) _ rfl (w.heap.size + 1) (rowIx b) rfl rfl rfl G5.out HW.out ?_) | (refine store_row rfl (.tmp 4) _ rfl w.heap.size (rowIx b) rfl rfl rfl H34.out rfl ?_))
      obtain ⟨es, clock, hh, hg⟩ := h3.good m rfl
      obtain ⟨es', clock', hg', hup⟩ := run_know w3.drew m b es clock hh hg
      have hm := h.ltm
      obtain ⟨w4, hw4⟩ : ∃ w4, w3.drew.putObj m (.map es' clock') = w4 := ⟨_, rfl⟩
      rw [hw4] at hup
      have h44 : w4.heap[w.heap.size]? = some (.cells zeroC 92 (0, 0)) := by rw [← hw4]; exact (World.putObj_heap_other (by omega)).trans H34.out
      have h4m : w4.heap[m]? = some (.map es' clock') := by rw [← hw4]; exact World.putObj_heap_same (by show m < w3.heap.size; omega)
      have h45 : w4.heap[w.heap.size + 1]? = some (.cells (rowV (rowIx b)).cells 92 (0, 0)) := by rw [← hw4]; exact (World.putObj_heap_other (by omega)).trans H35.out
      have h4p : w4.heap[p]? = some (.cells #[.string s, .map (some m)] 80 (0, 0)) := by rw [← hw4]; exact (World.putObj_heap_other (by have := h.ne; omega)).trans h3.blk
      have hM : Moves (fun k => some m = some k) w w4 := by
        rw [← hw4]
        exact (Moves.drew (Moves.of_below hbw3)).trans (Moves.putObj rfl)
      have H44 := Lib.hid h44
      have H4M := Lib.hid h4m
      have H4P := Lib.hid h4p
      have HM := Lib.hid hM
      obtain ⟨f0, f1, f2, f3, f4, f5⟩ := six h45
      clear hw4 h44 h4m h45 h4p hM hh hg hne hl hmn
      go_region
      all_goals
        go_wp2_with (refine store_row rfl (.tmp 4) _ rfl w.heap.size (rowIx b) rfl rfl rfl H44.out rfl ?_)
        refine bodyPost_ret (v := rowV (rowIx b)) ?_ rfl ⟨rfl, ⟨?_, ?_⟩, ?_⟩
        · exact results_cell_row rfl _ _ w.heap.size 92 (rowV (rowIx b)).cells (0, 0) _ rfl (setRow_heap _ _ _ _ _ _ H44.out) Tryd.underlying92 rfl (by kernel_rfl)
        · exact (setRow_other _ _ _ _ (by omega)).trans H4P.out
        · rintro m' e
          cases e
          exact ⟨es', clock', (setRow_other _ _ _ _ (by omega)).trans H4M.out, hg'⟩
        · exact moves_setRow HM.out (by omega)
    · have hne : ∀ w, (binOp .neq 92 (rowV (rowIx b)) zeroV).run Tryd.prog w = .ok (.bool false) w := by
        have : rowIx b = 9 := by have := rowIx_le b; omega
        rw [this]
        exact ne_zero
      clear hk
      go_wp2_with (first | (refine store_row rfl (.tmp 5) _ rfl (w.heap.size + 1) (rowIx b) rfl rfl rfl G5.out HW.out ?_) | (refine store_row rfl (.tmp 4) _ rfl w.heap.size (rowIx b) rfl rfl rfl H34.out rfl ?_))
      refine bodyPost_ret (v := rowV (rowIx b)) ?_ rfl ⟨rfl, ?_, ?_⟩
      · exact results_cell_row rfl _ _ w.heap.size 92 (rowV (rowIx b)).cells (0, 0) _ rfl (setRow_heap _ _ _ _ _ _ H34.out) Tryd.underlying92 rfl (by kernel_rfl)
      · exact h.below (below_setRow hbw3 (Nat.le_refl _) _)
      · exact Moves.of_below (below_setRow hbw3 (Nat.le_refl _) _)

end Go.Proofs.YtcdgmamlmapbcaaDoor
