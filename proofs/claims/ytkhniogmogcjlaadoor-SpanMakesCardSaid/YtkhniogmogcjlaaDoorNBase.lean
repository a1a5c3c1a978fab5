/- Ranges in memory; the iterator that goes through them. -/
import Derived.Test.YtkhniogmogcjlaaDoorNPure
import Derived.Test.YtkhniogmogcjlaaDoorSeqX
import Derived.Test.YtkhniogmogcjlaaDoorProg
namespace Go.Proofs.YtkhniogmogcjlaaDoor
open Go.RowKit Go.Shelf
attribute [local go_sem] Oper.semAt_some

abbrev rngC (x : Rng) : Array Value := #[.int .i64 x.1, .int .i64 x.2.1, .int .i64 x.2.2]
abbrev rngV (x : Rng) : Value := .agg (rngC x)
abbrev rngO (x : Rng) : Obj := .cells (rngC x) 38 (0, 0)
def cellsR (l : List Rng) : List Value := l.flatMap fun x => [.int .i64 x.1, .int .i64 x.2.1, .int .i64 x.2.2]
/-- The block of an address. -/
def inB (o : Option Addr) (k : Nat) : Prop := ∃ a, o = some a ∧ a.block = k
/-- Where ranges stand. -/
def AtR (w : World) (o : Option Addr) (l : List Rng) : Prop := 0 < l.length → ∃ g off, o = some ⟨g, off, none⟩ ∧ ∀ (j : Nat) (x : Rng), l[j]? = some x →
  w.cell? ⟨g, off + j * 3, none⟩ = some (.int .i64 x.1) ∧ w.cell? ⟨g, off + j * 3 + 1, none⟩ = some (.int .i64 x.2.1) ∧ w.cell? ⟨g, off + j * 3 + 2, none⟩ = some (.int .i64 x.2.2)
theorem cell_moves {S : Nat → Prop} {w w' : World} {a : Addr} {v : Value} (hm : Moves S w w') (hs : ¬ S a.block) (h : w.cell? a = some v) : w'.cell? a = some v := by
  have hb := hm.block _ (World.block_lt_of_cell? w _ h) hs
  unfold World.cell? at h ⊢
  rw [hb]
  exact h
theorem cell_keep {w w' : World} {a : Addr} {v : Value} (hb : Below w.heap.size w w') (h : w.cell? a = some v) : w'.cell? a = some v :=
  (hb.cell (World.block_lt_of_cell? w _ h)).trans h
theorem AtR.moves {S : Nat → Prop} {w w' : World} {o : Option Addr} {l : List Rng} (h : AtR w o l) (hm : Moves S w w') (hs : 0 < l.length → ∀ k, inB o k → ¬ S k) : AtR w' o l := fun hn => by
  obtain ⟨g, off, rfl, hc⟩ := h hn
  have hg : ¬ S g := hs hn g ⟨_, rfl, rfl⟩
  refine ⟨g, off, rfl, fun j x hx => ?_⟩
  obtain ⟨h0, h1, h2⟩ := hc j x hx
  exact ⟨cell_moves hm hg h0, cell_moves hm hg h1, cell_moves hm hg h2⟩
theorem AtR.lt {w : World} {o : Option Addr} {l : List Rng} (h : AtR w o l) (hn : 0 < l.length) {k : Nat} (hk : inB o k) : k < w.heap.size := by
  obtain ⟨g, off, rfl, hc⟩ := h hn
  obtain ⟨a, ha, rfl⟩ := hk
  cases ha
  exact World.block_lt_of_cell? w _ (hc 0 _ (List.getElem?_eq_getElem hn)).1
theorem AtR.below {w w' : World} {o : Option Addr} {l : List Rng} (h : AtR w o l) (hb : Below w.heap.size w w') : AtR w' o l := fun hn => by
  obtain ⟨g, off, ho, hc⟩ := h hn
  refine ⟨g, off, ho, fun j x hx => ?_⟩
  obtain ⟨h0, h1, h2⟩ := hc j x hx
  exact ⟨cell_keep hb h0, cell_keep hb h1, cell_keep hb h2⟩
theorem AtR.take {w : World} {o : Option Addr} {l : List Rng} (h : AtR w o l) (n : Nat) : AtR w o (l.take n) := fun hn => by
  obtain ⟨g, off, ho, hc⟩ := h (by rw [List.length_take] at hn; omega)
  refine ⟨g, off, ho, fun j x hx => hc j x ?_⟩
  rw [List.getElem?_take] at hx
  split at hx
  · exact hx
  · cases hx
theorem rng_cells {w : World} {k : Nat} {x : Rng} (h : w.heap[k]? = some (rngO x)) :
    w.cell? ⟨k, 0, none⟩ = some (.int .i64 x.1) ∧ w.cell? ⟨k, 1, none⟩ = some (.int .i64 x.2.1) ∧ w.cell? ⟨k, 2, none⟩ = some (.int .i64 x.2.2) ∧ w.frozen? ⟨k, 0, none⟩ = false := by
  refine ⟨?_, ?_, ?_, frozen_of_row _ _ _ _ _ h⟩
  · rw [cell_of_row _ _ 0 _ _ _ h]; rfl
  · rw [cell_of_row _ _ 1 _ _ _ h]; rfl
  · rw [cell_of_row _ _ 2 _ _ _ h]; rfl

/-- What an iterator over ranges yields: each with its place. -/
abbrev encR (x : Rng × Nat) : Array Value := #[.int .i64 (x.2 : Nat), rngV x.1]
theorem zip_pre {α : Type} {l : List α} {pre : List (α × Nat)} {x : α} {n : Nat} (h : pre ++ [(x, n)] <+: l.zipIdx) : n = pre.length ∧ l[n]? = some x ∧ pre = (l.take n).zipIdx := by
  obtain ⟨t, ht⟩ := h
  have h1 : (l.zipIdx)[pre.length]? = some (x, n) := by rw [← ht]; simp
  rw [List.getElem?_zipIdx] at h1
  cases hl : l[pre.length]? with
  | none => rw [hl] at h1; cases h1
  | some y =>
    rw [hl] at h1
    simp at h1
    obtain ⟨rfl, rfl⟩ := h1
    refine ⟨rfl, hl, ?_⟩
    apply List.ext_getElem?
    intro i
    rw [List.getElem?_zipIdx]
    rcases Nat.lt_or_ge i pre.length with hi | hi
    · have h2 : (l.zipIdx)[i]? = pre[i]? := by rw [← ht, List.append_assoc, List.getElem?_append_left hi]
      rw [← h2, List.getElem?_zipIdx, List.getElem?_take_of_lt hi]
    · rw [List.getElem?_eq_none hi, List.getElem?_eq_none (by rw [List.length_take]; omega)]
      rfl
theorem zip_more {α : Type} {l : List α} {j : Nat} {x : α} (h : l[j]? = some x) : (l.take j).zipIdx ++ [(x, j)] = (l.take (j + 1)).zipIdx := by
  have hlt := (List.getElem?_eq_some_iff.1 h).1
  rw [List.take_add_one, h, List.zipIdx_append, List.length_take, Nat.min_eq_left (by omega)]
  simp
theorem zip_prefix {α : Type} (l : List α) (j : Nat) : (l.take j).zipIdx <+: l.zipIdx := by
  refine ⟨(l.drop j).zipIdx ((l.take j).length), ?_⟩
  have := List.zipIdx_append (xs := l.take j) (ys := l.drop j) (k := 0)
  rw [List.take_append_drop] at this
  rw [this]
  simp

/-- What the iterator leans on: its own box, the ranges' block. -/
abbrev DepR (cb : Nat) (o : Option Addr) (l : List Rng) (k : Nat) : Prop := k = cb ∨ (0 < l.length ∧ inB o k)
set_option maxRecDepth 100000 in
set_option maxHeartbeats 1000000 in
theorem seqRanges {cb cap : Nat} {o : Option Addr} {l : List Rng} {w : World} (hn : l.length ≤ 1000000) (hc : w.heap[cb]? = some (.cells #[.slice o l.length cap] 42 (0, 0))) (hA : AtR w o l) :
    SeqOfX Tryd.prog 5 48 #[.pointer (some ⟨cb, 0, none⟩)] encR (fun _ => False) (DepR cb o l) l.zipIdx w := by
  intro W lp J Jx hm hJ hJx hY h0
  have h1 : 1 ≤ 5 := by omega
  have c0 : W.cell? ⟨cb, 0, none⟩ = some (.slice o l.length cap) := by rw [cell_of_row _ _ 0 _ _ _ (row_keep hc hm id)]; rfl
  have A0 : AtR W o l := hA.moves hm fun _ _ _ => id
  obtain ⟨n, hnn⟩ : ∃ n, l.length = n := ⟨_, rfl⟩
  rw [hnn] at c0 hn
  refine callsIn_of_wp Tryd.func48 rfl trivial ?_ rfl
  simp only [Tryd.ntmps48, List.size_toArray, List.length_cons, List.length_nil, Nat.reduceAdd, Nat.reduceSub, Array.replicate_succ, Array.replicate_zero, List.push_toArray, List.append_toArray, List.nil_append, List.cons_append]
  have HJ := Lib.hid hJ
  have HY := Lib.hid hY
  have HN := Lib.hid hnn
  have HA := Lib.hid A0
  clear hJ hJx hY hm hnn hA A0 hc
  gi_wp2
  gi_loopg [8] n (fun k v wr => ∃ (j : Nat), v = .int .i64 (j : Nat) ∧ j ≤ n ∧ k = n - j ∧ Hid (AtR wr o l) ∧ J (fun _ => False) (l.take j).zipIdx wr)
  case atStart => exact ⟨0, rfl, Nat.zero_le _, rfl, HA, by simpa using h0⟩
  case round =>
    obtain ⟨j, rfl, hj, rfl, ha, hJ'⟩ := hrel
    rcases Nat.lt_or_ge j n with hlt | hge
    · obtain ⟨x, hx⟩ : ∃ x, l[j]? = some x := ⟨_, List.getElem?_eq_getElem (by rw [HN.out]; exact hlt)⟩
      obtain ⟨g, off, rfl, hc⟩ := ha.out (by rw [HN.out]; omega)
      obtain ⟨k0, k1, k2⟩ := hc j x hx
      have hg := World.block_lt_of_cell? wr _ k0
      have HX := Lib.hid hx
      obtain ⟨wb, hwb⟩ : ∃ wb, wr.alloc (rngO x) = wb := ⟨_, rfl⟩
      have hbb : Below wr.heap.size wr wb := by rw [← hwb]; exact (Below.refl _ _).alloc (Nat.le_refl _) _
      have hJb := HJ.out _ (fun _ => False) _ _ wb hJ' (Moves.of_below hbb) (fun k h => h.elim)
      have hpx : (l.take j).zipIdx ++ [(x, j)] <+: l.zipIdx := by rw [zip_more hx]; exact zip_prefix l (j + 1)
      obtain ⟨fn, tmps, assign, body, hy, hR⟩ := HY.out _ _ _ _ hpx hJb
      replace hy : (Instr.yield lp #[.int .i64 (j : Nat), .agg #[.int .i64 x.1, .int .i64 x.2.1, .int .i64 x.2.2]]).run Tryd.prog wb = .ok (.round lp fn tmps assign body) wb := hy
      obtain ⟨q0, q1, q2, _⟩ := rng_cells (w := wb) (k := wr.heap.size) (x := x) (by rw [← hwb]; exact heap_alloc_new _ _)
      have hab := Lib.hid (ha.out.below hbb)
      obtain ⟨a, b, v⟩ := x
      simp only at k0 k1 k2 hy q0 q1 q2
      clear hc hx hpx hJb
      gi_wp2
      refine hR.mono ?_
      rintro e w3 (⟨rfl, hJ4, hk4⟩ | ⟨rfl, hJx4, _⟩)
      · have HX2 := Lib.hid (zip_more HX.out)
        gi_wp2
        gi_roundg (n - (j + 1))
        case measure => omega
        case rel => exact ⟨j + 1, by simp, by omega, rfl, Lib.hid (hab.out.moves hk4 (fun h0 k h h2 => h2.2 (.inr ⟨h0, h⟩))), by rw [← HX2.out]; exact hJ4⟩
      · gi_wp2
        refine bodyPost_ret (results_none rfl _ _ _) rfl ?_
        exact ⟨⟨_, rfl⟩, _, .inr ⟨_, by rw [zip_more HX.out]; exact zip_prefix l (j + 1), hJx4⟩⟩
    · obtain rfl : j = n := by omega
      have hall : l.take j = l := List.take_of_length_le (by rw [HN.out]; exact Nat.le_refl _)
      gi_wp2
      go_end0
      exact ⟨⟨_, rfl⟩, _, .inl (by rw [hall] at hJ'; exact hJ')⟩
end Go.Proofs.YtkhniogmogcjlaaDoor
