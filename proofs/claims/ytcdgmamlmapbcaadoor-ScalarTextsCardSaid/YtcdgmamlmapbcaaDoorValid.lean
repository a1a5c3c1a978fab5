/- read, reader.scalars, Valid. -/
import Derived.Test.YtcdgmamlmapbcaaDoorRange
namespace Go.Proofs.YtcdgmamlmapbcaaDoor
open Go.RowKit Go.Shelf
attribute [local go_sem] Oper.semAt_some

set_option maxHeartbeats 400000 in
theorem read_any (s : ByteArray) (w : World) :
    Calls Tryd.prog 37 #[.string s] w fun e w' => e = .returned (.pointer (some ⟨w.heap.size + 1, 0, none⟩)) ∧ Rd w' (w.heap.size + 1) s (some w.heap.size) ∧ Below w.heap.size w w' := by
  have hmm := @run_makeMap Tryd.prog
  go_enter Tryd.func37, Tryd.ntmps37
  go_wp2
  go_ret
  refine ⟨rfl, ⟨?_, ?_⟩, ((Below.refl _ _).alloc (Nat.le_refl _) _).alloc (by simp) _⟩
  · have := heap_alloc_new (w.alloc (.map #[] 0)) (.cells #[.string s, .map (some w.heap.size)] 80)
    rwa [World.size_alloc] at this
  · rintro m ⟨⟩
    exact ⟨#[], 0, (Below.heap_alloc _ _ _ (by simp)).trans (heap_alloc_new _ _), fun e he => by simp at he⟩

set_option maxHeartbeats 400000 in
theorem scalars_any (p : Nat) (w : World) :
    Calls Tryd.prog 38 #[.pointer (some ⟨p, 0, none⟩)] w fun e w' => e = .returned (.func (.func 55) #[] #[.pointer (some ⟨w.heap.size, 0, none⟩)]) ∧ ∃ t, w.alloc (.cells #[.pointer (some ⟨p, 0, none⟩)] t (0, 0)) = w' := by
  go_enter Tryd.func38, Tryd.ntmps38
  go_wp2
  go_ret
  exact ⟨rfl, _, rfl⟩

/-- A block of one cell. -/
def Box (w : World) (c : Nat) (v : Value) : Prop := ∃ t, w.heap[c]? = some (.cells #[v] t (0, 0))
theorem Box.lt {w : World} {c : Nat} {v : Value} (h : Box w c v) : c < w.heap.size := by obtain ⟨t, h⟩ := h; exact (Array.getElem?_eq_some_iff.1 h).1
theorem Box.cell {w : World} {c : Nat} {v : Value} (h : Box w c v) : w.cell? ⟨c, 0, none⟩ = some v := by obtain ⟨t, h⟩ := h; rw [cell_of_row _ _ 0 _ _ _ h]; rfl
theorem Box.froz {w : World} {c : Nat} {v : Value} (h : Box w c v) : w.frozen? ⟨c, 0, none⟩ = false := by obtain ⟨t, h⟩ := h; exact frozen_of_row _ _ _ _ _ h
theorem Box.moves {w w' : World} {c : Nat} {v : Value} {S : Nat → Prop} (h : Box w c v) (hm : Moves S w w') (hc : ¬ S c) : Box w' c v := by obtain ⟨t, hb⟩ := h; exact ⟨t, (hm.block _ (Box.lt ⟨t, hb⟩) hc).trans hb⟩
theorem Box.set {w : World} {c : Nat} {v : Value} (h : Box w c v) (v' : Value) : Box (w.setCell ⟨c, 0, none⟩ v') c v' := by
  obtain ⟨t, h⟩ := h
  exact ⟨t, by rw [heap_setCell_same _ _ 0 _ _ _ h]; rfl⟩
theorem Box.new (w : World) (v : Value) (t : TypeId) : Box (w.alloc (.cells #[v] t)) w.heap.size v := ⟨t, heap_alloc_new _ _⟩

/-- Is there no scalar somewhere? -/
def validL (l : List UInt8) : Bool := (evs l).all fun x => !x.2

set_option maxRecDepth 100000 in
set_option maxHeartbeats 1000000 in
theorem valid_any (s : ByteArray) (w : World) (aU aS : Addr) (hG : Glob w aU aS) :
    Calls Tryd.prog 18 #[.string s] w fun e w' => e = .returned (.bool (validL s.data.toList)) ∧ Below w.heap.size w w' := by
  refine (callsIn_wide (n := 5)).1 ?_
  have h1 : 1 ≤ 5 := by omega
  refine callsIn_of_wp_marks Tryd.func18 rfl trivial ?_ rfl
  simp only [Tryd.ntmps18, List.size_toArray, List.length_cons, List.length_nil, Nat.reduceAdd, Nat.reduceSub, Array.replicate_succ, Array.replicate_zero, List.push_toArray, List.append_toArray, List.nil_append, List.cons_append]
  have B0 : Below w.heap.size w (w.alloc (.cells #[.bool false] 4)) := (Below.refl _ _).alloc (Nat.le_refl _) _
  have X0 : Box (w.alloc (.cells #[.bool false] 4)) w.heap.size (.bool false) := Box.new _ _ _
  have G0 := hG.below B0
  have ltU := hG.ltU
  have ltS := hG.ltS
  have lU := hG.lt_aU
  have lS := hG.lt_aS
  gi_wp2_with fail
  refine ⟨trivial, (callsIn_wide.2 (read_any s _)).mono ?_⟩
  rintro e w1 ⟨rfl, R1, B1⟩
  simp only [World.size_alloc] at R1 B1 ⊢
  gi_wp2_with fail
  refine ⟨trivial, (callsIn_wide.2 (scalars_any _ w1)).mono ?_⟩
  rintro e w2 ⟨rfl, t2, hw2⟩
  have B2 : Below w1.heap.size w1 w2 := by rw [← hw2]; exact (Below.refl _ _).alloc (Nat.le_refl _) _
  have R2 := R1.below B2
  have hb : w2.heap[w1.heap.size]? = some (.cells #[.pointer (some ⟨w.heap.size + 1 + 1, 0, none⟩)] t2 (0, 0)) := by rw [← hw2]; exact heap_alloc_new _ _
  clear hw2
  have z1 := B1.size
  have z2 := B2.size
  simp only [World.size_alloc] at z1
  have h01 : Below (w.heap.size + 1) (w.alloc (.cells #[.bool false] 4)) w2 := B1.trans (B2.mono z1)
  have G2 : Glob w2 aU aS := G0.below (by simpa using h01)
  have X2 : Box w2 w.heap.size (.bool false) := X0.moves (Moves.of_below (S := fun _ => False) (by simpa using h01)) id
  have BW : Below w.heap.size w w2 := B0.trans (h01.mono (by omega))
  have zl := R2.lt
  have e2 : ∀ k, Beside (w.heap.size + 1 + 1) (some (w.heap.size + 1)) w2.heap.size k → w.heap.size < k := by
    rintro k ((rfl | e) | e)
    · omega
    · cases e; omega
    · omega
  gi_wp2_with fail
  refine wpIn_scalars (p := w.heap.size + 1 + 1) (b := w1.heap.size) (mb := some (w.heap.size + 1)) (s := s) (aU := aU) (aS := aS) (by omega) rfl rfl ⟨R2, G2, ⟨t2, hb⟩, by have := R1.lt; omega⟩ (fun k => k = w.heap.size)
    { p := by omega, m := fun m e => by cases e; omega, b := by omega, gU := by omega, gS := by omega, aU := by omega, aS := by omega } (fun k e => by omega)
    (fun pre W => (∀ x ∈ pre, x.2 = false) ∧ Box W w.heap.size (.bool false) ∧ Glob W aU aS ∧ Below w.heap.size w W)
    (fun c pre W => c = .ret ∧ (∃ x ∈ pre, x.2 = true) ∧ Box W w.heap.size (.bool false) ∧ Below w.heap.size w W) ?hI ?hIx ⟨fun x hx => by simp at hx, X2, G2, BW⟩
    (fun x => { tmps := #[.string s, undef, .pointer (some ⟨w.heap.size, 0, none⟩), undef, if x.2 then errV aU else .nilIface, .string s, .pointer (some ⟨w.heap.size + 1 + 1, 0, none⟩), .func (.func 55) #[] #[.pointer (some ⟨w1.heap.size, 0, none⟩)], .int .i64 (x.1 : Nat), if x.2 then errV aU else .nilIface, undef, undef, undef], defers := [] }) ?assign ?body ?done ?stop
  case hI =>
    rintro xs A B ⟨hx, hc, hg, hB⟩ hm
    refine ⟨hx, hc.moves hm ?_, hg.apart hm ?_ ?_ ?_ ?_, Moves.below hB hB.size hm ?_⟩
    · intro h; have := e2 _ h; omega
    · intro h; have := e2 _ h; omega
    · intro h; have := e2 _ h; omega
    · intro h; have := e2 _ h; omega
    · intro h; have := e2 _ h; omega
    · intro k h; have := e2 _ h; omega
  case hIx =>
    rintro c xs A B ⟨rfl, hx, hc, hB⟩ hm
    exact ⟨rfl, hx, hc.moves hm fun h => by have := e2 _ h; omega, Moves.below hB hB.size hm fun k h => by have := e2 _ h; omega⟩
  case assign =>
    rintro l ⟨r, bad⟩ W K hK
    unfold encs
    cases bad
    · gi_wp2
      exact hK
    · gi_wp2
      exact hK
  case body =>
    rintro l pre ⟨r, bad⟩ W ⟨hp, hX, hg, hB⟩
    have hu := hg.utf
    have hc := hX.cell
    have hf := hX.froz
    cases bad with
    | false =>
      simp only [Bool.false_eq_true, if_false]
      gi_wp2_with fail
      refine ⟨trivial, CallsIn.inRound l ((callsIn_wide.2 (is_nil aU _)).mono ?_)⟩
      rintro e w' ⟨rfl, rfl⟩
      gi_wp2
      exact ⟨Moves.refl _ _, fun x hx => (List.mem_append.1 hx).elim (hp x) (fun e => by simp at e; subst e; rfl), hX, hg, hB⟩
    | true =>
      simp only [if_true]
      gi_wp2_with fail
      refine ⟨trivial, CallsIn.inRound l ((callsIn_wide.2 (is_same aU _)).mono ?_)⟩
      rintro e w' ⟨rfl, rfl⟩
      gi_wp2
      exact ⟨Moves.setCell rfl, rfl, ⟨_, List.mem_append.2 (.inr (List.mem_singleton.2 rfl)), rfl⟩, hX.set _, hB.setCell (p := ⟨w.heap.size, 0, none⟩) (Nat.le_refl _) _⟩
  case done =>
    rintro D W hD ⟨hp, hX, hg, hB⟩ hK
    have hc := hX.cell
    have hf := hX.froz
    gi_wp2
    have hX' := hX.set (.bool true)
    have hK' : (W.setCell ⟨w.heap.size, 0, none⟩ (.bool true)).heap[D]? = some (.deferred (some [])) := (heap_setCell_other _ _ _ _ (by show D ≠ w.heap.size; omega)).trans hK
    refine ⟨by simp, .inl ⟨_, _, rfl, run_takeDeferred hK', ?_⟩⟩
    have hc5 := (hX'.moves (Moves.putObj (S := fun k => k = D) (m := D) (o := .deferred none) rfl) (by omega)).cell
    have hv : validL s.data.toList = true := by
      unfold validL
      rw [List.all_eq_true]
      intro x hx
      rw [hp x hx]; rfl
    refine ⟨.bool true, ?_, by rw [hv], Moves.below (hB.setCell (p := ⟨w.heap.size, 0, none⟩) (Nat.le_refl _) _) (by simpa using hB.size) (Moves.putObj (S := fun k => k = D) rfl) (fun k e => by omega)⟩
    simp [results, Tryd.f18, go_sem, hc5]
  case stop =>
    rintro D c pre W hD hpre ⟨rfl, hin, hX, hB⟩ hK
    gi_wp2
    refine ⟨by simp, .inl ⟨_, _, rfl, run_takeDeferred hK, ?_⟩⟩
    have hc5 := (hX.moves (Moves.putObj (S := fun k => k = D) (m := D) (o := .deferred none) rfl) (by omega)).cell
    have hv : validL s.data.toList = false := by
      obtain ⟨x, hx, hb⟩ := hin
      unfold validL
      rw [List.all_eq_false]
      exact ⟨x, hpre.subset hx, by rw [hb]; simp⟩
    refine ⟨.bool false, ?_, by rw [hv], Moves.below hB hB.size (Moves.putObj (S := fun k => k = D) rfl) (fun k e => by omega)⟩
    simp [results, Tryd.f18, go_sem, hc5]
end Go.Proofs.YtcdgmamlmapbcaaDoor
