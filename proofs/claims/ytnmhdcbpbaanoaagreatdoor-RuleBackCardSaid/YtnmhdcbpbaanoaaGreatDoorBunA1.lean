/- What no program is of: blocks that a call may turn, boxes, rows that it owns; a range over a function; small laws. errors.Is at the two sentinels, at nil; number. Whole numbers as floats, there and back; what the program's types are. -/
import Derived.WalkKit
import Derived.WalkSpells
import Derived.WalkLawsBesides
import Derived.Laws.CopyOwn
import Derived.Lib.Hide
import Derived.ScopeJumps
import Derived.Scope
import Derived.RangeFuncRecord
import Derived.RangeFuncNested
import Derived.RangeFuncBound
import Derived.RangeFuncCalls
import Derived.RangeFuncLeaves
import Derived.Shelf.Abstract
import Derived.Shelf.RegionOpen
import Derived.OwnWalkIn
import Derived.TacticsInMore
import Derived.LoopNIn
import Derived.LoopIn
import Derived.Sort.LoopGhostIn
import Derived.OneCell
import Derived.RangeFuncBox
import Derived.Deep.AppendLies
import Derived.Deep.LoopGhost
import Derived.BigQuiet
import Derived.Deep.QuietTactic
import Derived.Deep.RegionWith
import Derived.Laws.IdiomStrings
import Derived.Lib.BufStepsIn
import Derived.Lib.AppendStr
import Derived.LaidEql
import Derived.Lib.Strings
import Derived.Stop.LaidTwo
import Derived.Test.YtnmhdcbpbaanoaaGreatDoorChecked
import Derived.Stop.Asserts
import Derived.RowKitTokens
import Derived.Test.YtnmhdcbpbaanoaaGreatDoorProg
import Derived.Laws.Cover2
import Derived.Laws.FloatArith
import Derived.IntWalk
namespace Go.Proofs.YtnmhdcbpbaanoaaGreatDoor
open Go.RowKit Go.Shelf
attribute [local go_sem] Oper.semAt_some

section
variable {P : Program} (w : World) (a : Addr) (m : Mode)
@[go_sem] theorem run_store_complex (k : FloatKind) (x y : Nat) : (store a (.complex k x y) m).run P w = stored P w a (.complex k x y) m := run_store P w a _ m rfl
end
/-- The block laid ahead of what came later. -/
theorem later_row {w wr : World} {t : TypeId} {c : Array Value} (hb : Below (w.heap.size + 1) (w.alloc (.cells c t)) wr) : wr.heap[w.heap.size]? = some (.cells c t (0, 0)) :=
  (hb.block _ (by omega)).trans (heap_alloc_new _ _)
section
variable {P : Program} {a : Act} {w : World} {Q : Exit → Act → World → Prop}
/-- What stands from the label on is walked where the jump is taken. -/
theorem wp_scope_forth {c rest : Code} (l : Nat) (hf : findLabel c l = some rest)
    (h : c.wp P (Exit.jump l (fun a w => rest.wp P (Exit.noGoto Q) a w) Q) a w) : (Code.scope c).wp P Q a w :=
  wp_scope_jumps l _ (fun _ _ => 0) hf h fun a w hJ => wp_mono hJ fun e a' w' q => by
    cases e <;> first | exact q | exact q.elim
end
/-- Nothing that was there has turned, but for the blocks that S says. -/
structure Moves (S : Nat → Prop) (w w' : World) : Prop where
  os : w'.os = w.os
  tape : w'.tape = w.tape
  output : w'.output = w.output
  size : w.heap.size ≤ w'.heap.size
  block : ∀ k, k < w.heap.size → ¬ S k → w'.heap[k]? = w.heap[k]?
theorem Moves.refl (S : Nat → Prop) (w : World) : Moves S w w := ⟨rfl, rfl, rfl, Nat.le_refl _, fun _ _ _ => rfl⟩
theorem Moves.trans {S : Nat → Prop} {a b c : World} (h : Moves S a b) (k : Moves S b c) : Moves S a c :=
  ⟨k.os.trans h.os, k.tape.trans h.tape, k.output.trans h.output, Nat.le_trans h.size k.size, fun i hi hs => (k.block i (Nat.lt_of_lt_of_le hi h.size) hs).trans (h.block i hi hs)⟩
theorem Moves.of_below {S : Nat → Prop} {w w' : World} (h : Below w.heap.size w w') : Moves S w w' := ⟨h.os, h.tape, h.output, h.size, fun k hk _ => h.block k hk⟩
theorem Moves.below {S : Nat → Prop} {B : Nat} {w0 w w' : World} (h : Below B w0 w) (hB : B ≤ w.heap.size) (k : Moves S w w') (hS : ∀ j, S j → B ≤ j) : Below B w0 w' :=
  h.trans ⟨k.os, k.tape, k.output, k.size, fun i hi => k.block i (Nat.lt_of_lt_of_le hi hB) (fun hs => by have := hS i hs; omega)⟩
theorem Moves.putObj {S : Nat → Prop} {w : World} {m : Nat} {o : Obj} (hS : S m) : Moves S w (w.putObj m o) :=
  ⟨rfl, rfl, rfl, by simp, fun k _ hk => World.putObj_heap_other (fun e => hk (e ▸ hS))⟩
theorem Moves.setCell {S : Nat → Prop} {w : World} {a : Addr} {v : Value} (hS : S a.block) : Moves S w (w.setCell a v) :=
  ⟨rfl, rfl, rfl, by simp [World.setCell], fun k _ hk => heap_setCell_other _ _ _ _ (fun e => hk (e ▸ hS))⟩
theorem Moves.drew {S : Nat → Prop} {w w' : World} (h : Moves S w w') : Moves S w w'.drew := ⟨h.os, h.tape, h.output, h.size, h.block⟩
theorem Moves.mono {S T : Nat → Prop} {w w' : World} (h : Moves S w w') (hS : ∀ k, S k → T k) : Moves T w w' := ⟨h.os, h.tape, h.output, h.size, fun k hk hn => h.block k hk fun hs => hn (hS k hs)⟩
theorem moves_setRow {S : Nat → Prop} {w w' : World} {g : Nat} {cs : Array Value} (h : Moves S w w') (hg : w.heap.size ≤ g) : Moves S w (w'.setRow g cs) :=
  ⟨h.os, h.tape, h.output, by simpa using h.size, fun k hk hs => (setRow_other _ _ _ _ (by omega)).trans (h.block k hk hs)⟩
/-- The bounds of 64 bits, behind a name. -/
def In64 (r : Int) : Prop := -(2 ^ 63) ≤ r ∧ r < 2 ^ 63
theorem in64_of {r : Int} (h : -9223372036854775808 ≤ r ∧ r < 9223372036854775808) : In64 r := h
theorem ne_nil_of_size {s : ByteArray} (h : 0 < s.size) : s.data.toList ≠ [] := by
  intro e
  have h0 : s.data.toList.length = s.size := by simp
  rw [e] at h0
  simp at h0
  omega
theorem drop_toList (s : ByteArray) (n : Nat) : (s.extract n s.size).data.toList = s.data.toList.drop n := by
  rw [Lib.extract_data]
  apply List.ext_getElem?
  intro i
  simp [List.getElem?_take, List.getElem?_drop]
  omega
theorem grown_of_below {w w' : World} (h : Below w.heap.size w w') (row : Option Nat) : w.grownBy w' row := ⟨h.os, h.tape, h.output, h.size, fun k hk _ => h.block k hk⟩
theorem own_below {w w' : World} {base : Nat} {e : TypeId} {size : Nat} {v : Value} {n : Nat} {xs : List Value} (h : w.ownsRow base e size v n xs) (hb : Below w.heap.size w w') : w'.ownsRow base e size v n xs :=
  h.kept (grown_of_below hb none) (by cases v.ownBlock <;> simp)
theorem grown_trans {a b c : World} {row : Option Nat} (h : a.grownBy b row) (k : b.grownBy c row) : a.grownBy c row :=
  ⟨k.os.trans h.os, k.tape.trans h.tape, k.output.trans h.output, Nat.le_trans h.size k.size, fun i hi hr => (k.block i (Nat.lt_of_lt_of_le hi h.size) hr).trans (h.block i hi hr)⟩
abbrev intC (r : Nat) : Value := .int .i64 (r : Nat)
theorem own_moves {A B : World} {base : Nat} {e : TypeId} {size : Nat} {v : Value} {n : Nat} {xs : List Value} {S : Nat → Prop} (h : A.ownsRow base e size v n xs) (hm : Moves S A B) (hS : ∀ k, base ≤ k → ¬ S k) : B.ownsRow base e size v n xs := by
  refine ⟨h.1, ?_⟩
  rcases h.2 with hn | ⟨g, cap, cur, hv, hg, hh, rest⟩
  · exact .inl hn
  · exact .inr ⟨g, cap, cur, hv, hg, (hm.block _ (Array.getElem?_eq_some_iff.1 hh).1 (hS g hg)).trans hh, rest⟩
theorem own_base {A : World} {base base' : Nat} {e : TypeId} {size : Nat} {v : Value} {n : Nat} {xs : List Value} (h : A.ownsRow base e size v n xs) (hb : base' ≤ base) : A.ownsRow base' e size v n xs := by
  refine ⟨h.1, ?_⟩
  rcases h.2 with hn | ⟨g, cap, cur, hv, hg, hh, rest⟩
  · exact .inl hn
  · exact .inr ⟨g, cap, cur, hv, by omega, hh, rest⟩
theorem own_putdef {A W : World} {base : Nat} {e : TypeId} {size : Nat} {v : Value} {n : Nat} {xs : List Value} {D : Nat} {d d' : Option (List Deferred)} (h : A.ownsRow base e size v n xs) (hh : W.heap = A.heap) (hK : A.heap[D]? = some (.deferred d)) :
    (W.putObj D (.deferred d')).ownsRow base e size v n xs := by
  refine ⟨h.1, ?_⟩
  rcases h.2 with hn | ⟨g, cap, cur, hv, hg, hb, rest⟩
  · exact .inl hn
  · refine .inr ⟨g, cap, cur, hv, hg, (World.putObj_heap_other ?_).trans (by rw [hh]; exact hb), rest⟩
    rintro rfl
    rw [hb] at hK
    cases hK
/-- Code that ends in one way alone. -/
def Only (a₁ : Act) (w₁ : World) : Exit → Act → World → Prop
  | .normal, a, w => a = a₁ ∧ w = w₁
  | _, _, _ => False
/-- A block of one cell. -/
def Box (w : World) (c : Nat) (v : Value) : Prop := ∃ t, w.heap[c]? = some (.cells #[v] t (0, 0))
theorem Box.lt {w : World} {c : Nat} {v : Value} (h : Box w c v) : c < w.heap.size := by obtain ⟨t, h⟩ := h; exact (Array.getElem?_eq_some_iff.1 h).1
theorem Box.cell {w : World} {c : Nat} {v : Value} (h : Box w c v) : w.cell? ⟨c, 0, none⟩ = some v := by obtain ⟨t, h⟩ := h; rw [cell_of_row _ _ 0 _ _ _ h]; rfl
theorem Box.froz {w : World} {c : Nat} {v : Value} (h : Box w c v) : w.frozen? ⟨c, 0, none⟩ = false := by obtain ⟨t, h⟩ := h; exact frozen_of_row _ _ _ _ _ h
theorem Box.moves {w w' : World} {c : Nat} {v : Value} {S : Nat → Prop} (h : Box w c v) (hm : Moves S w w') (hc : ¬ S c) : Box w' c v := by obtain ⟨t, hb⟩ := h; exact ⟨t, (hm.block _ (Box.lt ⟨t, hb⟩) hc).trans hb⟩
theorem Box.set {w : World} {c : Nat} {v : Value} (h : Box w c v) (v' : Value) : Box (w.setCell ⟨c, 0, none⟩ v') c v' := by
  obtain ⟨t, h⟩ := h
  exact ⟨t, by rw [heap_setCell_same _ _ 0 _ _ _ h]; rfl⟩
theorem Box.new (w : World) (v : Value) (t : TypeId) : Box (w.alloc (.cells #[v] t)) w.heap.size v := ⟨t, heap_alloc_new _ _⟩
/-- v is a slice of just the numbers xs. -/
def IsInts (w : World) (v : Value) (xs : List Int) : Prop :=
  (v = .slice none 0 0 ∧ xs = []) ∨ ∃ a cap, v = .slice (some a) xs.length cap ∧ ∀ i, i < xs.length → w.cell? (a.add i) = some (.int .i64 (xs.getD i 0))
theorem IsInts.below {w w' : World} {v : Value} {xs : List Int} (h : IsInts w v xs) (hb : Below w.heap.size w w') : IsInts w' v xs := by
  rcases h with h | ⟨a, cap, hv, hc⟩
  · exact .inl h
  · refine .inr ⟨a, cap, hv, fun i hi => ?_⟩
    have h1 := hc i hi
    exact (hb.cell (World.block_lt_of_cell? w _ h1)).trans h1
theorem take_snoc {xs : List Int} {j : Nat} (h : j < xs.length) : xs.take (j + 1) = xs.take j ++ [xs[j]] := by
  rw [List.take_add_one, List.getElem?_eq_getElem h]; rfl
theorem below_grown {w wr w1 : World} {e : TypeId} {size : Nat} {v : Value} {n : Nat} {xs : List Value} (hb : Below w.heap.size w wr) (ho : wr.ownsRow w.heap.size e size v n xs) (hg : wr.grownBy w1 v.ownBlock) : Below w.heap.size w w1 := by
  refine hb.grown hg hb.size fun k e => ?_
  rcases ho.2 with ⟨rfl, _⟩ | ⟨g, cap, cur, rfl, hb', _⟩
  · simp [Value.ownBlock] at e
  · obtain rfl : g = k := by simpa [Value.ownBlock] using e
    exact hb'
/-- THE CONTRACT OF A FUNCTION THAT YIELDS all, one by one. It may turn the blocks Ow alone, beside new ones; it leans on the blocks Dep, and on what it has laid itself since. A round that begins in the world A may turn the blocks S A alone, beside new ones: none of Dep; and what the iterator does makes S no greater. -/
def SeqOf {α : Type} (P : Program) (n : Nat) (f : Nat) (lb : Array Value) (encs : α → Array Value) (Ow Dep : Nat → Prop) (all : List α) (w : World) : Prop :=
  ∀ (W : World) (l : Nat) (S : World → Nat → Prop) (J Jx : List α → World → Prop), Moves (fun _ => False) w W →
    (∀ xs A k, J xs A → S A k → k < A.heap.size ∧ ¬ Dep k) → (∀ xs A B k, J xs A → Moves Ow A B → S B k → S A k) →
    (∀ xs A B, J xs A → Moves Ow A B → J xs B) →
    (∀ xs x A, xs ++ [x] <+: all → J xs A → YieldAt Fence.wide (n - 1) P l (encs x) A fun e A' => (e = .returned (.bool true) ∧ J (xs ++ [x]) A' ∧ Moves (S A) A A') ∨ (e = .returned (.bool false) ∧ Jx (xs ++ [x]) A')) →
    J [] W →
    CallsIn Fence.wide n P f (#[.func (.yield l) #[] #[]] ++ lb) W fun e W' => (∃ v, e = .returned v) ∧ (J all W' ∨ ∃ xs, xs <+: all ∧ Jx xs W')
theorem SeqOf.later {α : Type} {P : Program} {n f : Nat} {lb : Array Value} {encs : α → Array Value} {Ow Dep : Nat → Prop} {all : List α} {w w' : World} (h : SeqOf P n f lb encs Ow Dep all w) (hm : Moves (fun _ => False) w w') : SeqOf P n f lb encs Ow Dep all w' :=
  fun W l S J Jx h1 => h W l S J Jx (hm.trans h1)
/-- How the body of a round may be left. -/
def seqEnd {α : Type} (S : World → Nat → Prop) (I : List α → World → Prop) (Ix : Code → List α → World → Prop) (xs : List α) (W : World) : Exit → Act → World → Prop
  | .normal, _, W' => Moves (S W) W W' ∧ I xs W'
  | .ret, _, W' => Moves (S W) W W' ∧ Ix .ret xs W'
  | .exit id, _, W' => Moves (S W) W W' ∧ Ix (.exit id) xs W'
  | .goto t, _, W' => Moves (S W) W W' ∧ Ix (.goto t) xs W'
  | .panic _, _, _ => False
  | .outgrown, _, _ => False
/-- What turns beside the body's own: the iterator's blocks, and the two of the statement's book-keeping. -/
abbrev BesideS (Ow : Nat → Prop) (n : Nat) (k : Nat) : Prop := Ow k ∨ k = n ∨ k = n + 1
set_option maxHeartbeats 1000000 in
theorem wpIn_seq {α : Type} {P : Program} {n : Nat} {f : Nat} {lb : Array Value} {encs : α → Array Value} {Ow Dep : Nat → Prop} {all : List α} {g : Operand} {ps : Array Tmp} {assign body : Code} {Q : Exit → Act → World → Prop} {a : Act} {w : World} (hn : 4 ≤ n)
    (hg : a.eval g = .func (.func f) #[] lb) (henter : ∀ args w, (callFunc f args).run P w = .ok (.enter f args) w) (hps : ∀ x, (encs x).size = ps.size) (hs : SeqOf P (n - 1) f lb encs Ow Dep all w)
    (hOw : ∀ k, Ow k → k < w.heap.size) (hDep : ∀ k, Dep k → k < w.heap.size)
    (I : List α → World → Prop) (Ix : Code → List α → World → Prop) (S : World → Nat → Prop)
    (hS1 : ∀ xs A k, w.heap.size + 2 ≤ A.heap.size → I xs A → S A k → k < A.heap.size ∧ ¬ Dep k ∧ k ≠ w.heap.size ∧ k ≠ w.heap.size + 1) (hS2 : ∀ xs A B k, I xs A → Moves (BesideS Ow w.heap.size) A B → S B k → S A k)
    (hI : ∀ xs A B, I xs A → Moves (BesideS Ow w.heap.size) A B → I xs B) (hIx : ∀ c xs A B, Ix c xs A → Moves (BesideS Ow w.heap.size) A B → Ix c xs B) (h0 : I [] w)
    (a₁ : Nat → α → Act) (G : World → α → World → Prop) (hG : ∀ A x B, G A x B → Moves (fun _ => False) A B)
    (hassign : ∀ (l : Nat) (x : α) (A : World) (K : Act → World → Prop), (∀ B, G A x B → K (a₁ A.heap.size x) B) →
      assign.wpIn (Fence.wide.inRound l) (n - 1 - 1) P (Exit.then K (fun _ _ _ => False)) { tmps := (ps.zip (encs x)).foldl (fun t (p, v) => t.setIfInBounds p v) a.tmps, defers := [] } A)
    (hbody : ∀ (l : Nat) (pre : List α) (x : α) (A B W : World), w.heap.size + 2 ≤ A.heap.size → pre ++ [x] <+: all → G A x B → Moves (fun k => k = w.heap.size + 1) B W → I pre W →
      body.wpIn (Fence.wide.inRound l) (n - 1 - 1) P (seqEnd S I Ix (pre ++ [x]) W) (a₁ A.heap.size x) W)
    (hdone : ∀ (D : Nat) (W : World), w.heap.size ≤ D → I all W → W.heap[D]? = some (.deferred (some [])) → Q .normal { a with defers := { target := .collected D, args := #[] } :: a.defers } W)
    (hstop : ∀ (D : Nat) (c : Code) (pre : List α) (W : World), w.heap.size ≤ D → pre <+: all → Ix c pre W → W.heap[D]? = some (.deferred (some [])) →
      c.wpIn Fence.wide n P Q { a with defers := { target := .collected D, args := #[] } :: a.defers } W) :
    (Code.rangeFunc g ps assign body).wpIn Fence.wide n P Q a w := by
  refine wpIn_rangeFunc ?_
  intro fn hfn
  obtain ⟨rec, hrec⟩ : ∃ rec : LoopState → Option Code → Loop, rec = fun st pe => { state := st, pending := pe, fn, tmps := a.tmps, params := ps, assign, body, defers := w.heap.size } := ⟨_, rfl⟩
  obtain ⟨W1, hW1⟩ : ∃ W1, (w.alloc (.deferred (some []))).alloc (.loop (rec .ready none)) = W1 := ⟨_, rfl⟩
  have hL1 : W1.heap[w.heap.size + 1]? = some (.loop (rec .ready none)) := by
    rw [← hW1]; have := World.alloc_heap_new (w.alloc (.deferred (some []))) (.loop (rec .ready none)); rwa [World.size_alloc] at this
  have hK1 : W1.heap[w.heap.size]? = some (.deferred (some [])) := by
    rw [← hW1]; exact (Below.heap_alloc _ _ _ (by simp)).trans (World.alloc_heap_new w _)
  have hb1 : Below w.heap.size w W1 := by
    rw [← hW1]; exact ((Below.refl _ w).alloc (Nat.le_refl _) _).alloc (by simp) _
  have hI1 : I [] W1 := hI _ _ _ h0 (Moves.of_below hb1)
  have keep : ∀ {S : Nat → Prop} {A B : World} {k : Nat} {o : Obj}, Moves S A B → ¬ S k → A.heap[k]? = some o → B.heap[k]? = some o := fun hm hk h => (hm.block _ (Array.getElem?_eq_some_iff.1 h).1 hk).trans h
  have put : ∀ {A : World} {k : Nat} {o : Obj}, k = w.heap.size ∨ k = w.heap.size + 1 → Moves (BesideS Ow w.heap.size) A (A.putObj k o) := fun hk => Moves.putObj (.inr hk)
  have hOl : ∀ k, w.heap.size ≤ k → ¬ Ow k := fun k hk h => by have := hOw k h; omega
  refine ⟨w.heap.size + 1, [{ target := .collected w.heap.size, args := #[] }], W1, { target := .fn (.func f) lb, args := #[.func (.yield (w.heap.size + 1)) #[] #[]] }, W1, f,
    #[.func (.yield (w.heap.size + 1)) #[] #[]] ++ lb, W1, ?_, ?_, ?_, ?_, fun _ => by omega, ?_⟩
  · rw [← hW1, hrec]; exact run_enterLoop_outer _ _ _ _ _
  · simp only [resolve, hg]
    simp [go_sem]
  · intro f' hf'; exact trivial
  · simp [invoke, go_sem, henter]
  · refine (hs W1 (w.heap.size + 1) (fun A k => S A k ∨ k = w.heap.size + 1)
      (fun pre W => I pre W ∧ W.heap[w.heap.size + 1]? = some (.loop (rec .ready none)) ∧ W.heap[w.heap.size]? = some (.deferred (some [])))
      (fun pre W => ∃ c, Ix c pre W ∧ W.heap[w.heap.size + 1]? = some (.loop (rec .done (some c))) ∧ W.heap[w.heap.size]? = some (.deferred (some [])))
      (Moves.of_below hb1) ?_ ?_ ?_ ?_ ⟨hI1, hL1, hK1⟩).mono ?_
    · rintro xs A k ⟨hi, hl, hk⟩ (h | rfl)
      · have hlt1 : w.heap.size + 1 < A.heap.size := (Array.getElem?_eq_some_iff.1 hl).1
        have := hS1 _ _ _ (by omega) hi h; exact ⟨this.1, this.2.1⟩
      · exact ⟨(Array.getElem?_eq_some_iff.1 hl).1, fun h => by have := hDep _ h; omega⟩
    · rintro xs A B k ⟨hi, hl, hk⟩ hm (h | h)
      · exact .inl (hS2 _ _ _ _ hi (hm.mono fun k h => .inl h) h)
      · exact .inr h
    · rintro xs A B ⟨hi, hl, hk⟩ hm
      exact ⟨hI _ _ _ hi (hm.mono fun k h => .inl h), keep hm (hOl _ (by omega)) hl, keep hm (hOl _ (Nat.le_refl _)) hk⟩
    · rintro pre x W hpx ⟨hi, hl, hk⟩
      have hlt1 : w.heap.size + 1 < W.heap.size := (Array.getElem?_eq_some_iff.1 hl).1
      have hy := run_yield (P := P) (args := encs x) hl (by rw [hrec]; exact hps x)
      rw [hrec] at hy
      refine ⟨fn, _, assign, body, hy, roundIn_of_wpIn hfn (hassign _ x W _ fun B hGB => ?_)⟩
      have hGm := hG _ _ _ hGB
      have hlB : B.heap[w.heap.size + 1]? = some (.loop (rec .ready none)) := keep hGm id hl
      have hkB : B.heap[w.heap.size]? = some (.deferred (some [])) := keep hGm id hk
      have hltB : w.heap.size + 1 < B.heap.size := (Array.getElem?_eq_some_iff.1 hlB).1
      refine ⟨_, run_beginRound hlB (by rw [hrec]), ?_⟩
      have hl2 : (B.putObj (w.heap.size + 1) (.loop { rec .ready none with state := .busy })).heap[w.heap.size + 1]? = some (.loop { rec .ready none with state := .busy }) := World.putObj_heap_same hltB
      have hk2 : (B.putObj (w.heap.size + 1) (.loop { rec .ready none with state := .busy })).heap[w.heap.size]? = some (.deferred (some [])) := (World.putObj_heap_other (by omega)).trans hkB
      have hw2 : Moves (fun k => k = w.heap.size + 1) W (B.putObj (w.heap.size + 1) (.loop { rec .ready none with state := .busy })) := (hGm.mono fun k h => h.elim).trans (Moves.putObj rfl)
      have hIB := hI _ _ _ hi (hw2.mono fun k h => .inr (.inr h))
      have hS3 : ∀ k, S (B.putObj (w.heap.size + 1) (.loop { rec .ready none with state := .busy })) k → S W k := fun k h => hS2 _ _ _ _ hi (hw2.mono fun k h => .inr (.inr h)) h
      have hS4 : ∀ k, S (B.putObj (w.heap.size + 1) (.loop { rec .ready none with state := .busy })) k → k ≠ w.heap.size ∧ k ≠ w.heap.size + 1 := fun k h => (hS1 _ _ _ (by rw [World.putObj_size]; omega) hIB h).2.2
      refine wpIn_mono (hbody _ pre x W B _ (by omega) hpx hGB (Moves.putObj rfl) hIB) ?_
      have fin : ∀ (jump : Option Code) (W3 : World), Moves (S (B.putObj (w.heap.size + 1) (.loop { rec .ready none with state := .busy }))) (B.putObj (w.heap.size + 1) (.loop { rec .ready none with state := .busy })) W3 →
          (Instr.endRound (w.heap.size + 1) jump).run P W3 = .ok (.bool jump.isNone) (W3.putObj (w.heap.size + 1) (.loop (rec (if jump.isNone then .ready else .done) jump))) ∧
          (W3.putObj (w.heap.size + 1) (.loop (rec (if jump.isNone then .ready else .done) jump))).heap[w.heap.size + 1]? = some (.loop (rec (if jump.isNone then .ready else .done) jump)) ∧
          (W3.putObj (w.heap.size + 1) (.loop (rec (if jump.isNone then .ready else .done) jump))).heap[w.heap.size]? = some (.deferred (some [])) := fun jump W3 hk3 => by
        have hl3 := keep hk3 (fun h => (hS4 _ h).2 rfl) hl2
        have := run_endRound (P := P) jump hl3
        rw [hrec] at this ⊢
        exact ⟨this, World.putObj_heap_same (Array.getElem?_eq_some_iff.1 hl3).1, (World.putObj_heap_other (by omega)).trans (keep hk3 (fun h => (hS4 _ h).1 rfl) hk2)⟩
      have all : ∀ {W3 : World} {o : Obj}, Moves (S (B.putObj (w.heap.size + 1) (.loop { rec .ready none with state := .busy }))) (B.putObj (w.heap.size + 1) (.loop { rec .ready none with state := .busy })) W3 → Moves (fun k => S W k ∨ k = w.heap.size + 1) W (W3.putObj (w.heap.size + 1) o) := fun hk3 => ((hw2.mono fun k h => .inr h).trans (hk3.mono fun k h => .inl (hS3 k h))).trans (Moves.putObj (.inr rfl))
      rintro e a3 W3 hp
      cases e with
      | normal =>
        obtain ⟨hk3, hi3⟩ := hp
        obtain ⟨hr, hl4, hk4⟩ := fin none W3 hk3
        exact ⟨_, _, hr, .inl ⟨rfl, ⟨hI _ _ _ hi3 (put (.inr rfl)), hl4, hk4⟩, all hk3⟩⟩
      | ret =>
        obtain ⟨hk3, hi3⟩ := hp
        obtain ⟨hr, hl4, hk4⟩ := fin (some .ret) W3 hk3
        exact ⟨_, _, hr, .inr ⟨rfl, .ret, hIx _ _ _ _ hi3 (put (.inr rfl)), hl4, hk4⟩⟩
      | exit id =>
        obtain ⟨hk3, hi3⟩ := hp
        obtain ⟨hr, hl4, hk4⟩ := fin (some (.exit id)) W3 hk3
        exact ⟨_, _, hr, .inr ⟨rfl, .exit id, hIx _ _ _ _ hi3 (put (.inr rfl)), hl4, hk4⟩⟩
      | goto t =>
        obtain ⟨hk3, hi3⟩ := hp
        obtain ⟨hr, hl4, hk4⟩ := fin (some (.goto t)) W3 hk3
        exact ⟨_, _, hr, .inr ⟨rfl, .goto t, hIx _ _ _ _ hi3 (put (.inr rfl)), hl4, hk4⟩⟩
      | panic ch => exact hp.elim
      | outgrown => exact hp.elim
    · rintro e W2 ⟨⟨v, rfl⟩, (⟨hi, hl, hk⟩ | ⟨pre, hSp, c, hi, hl, hk⟩)⟩
      · exact ⟨none, _, by have := run_endLoop (P := P) hl (by rw [hrec]; simp); rw [hrec] at this; exact this, hdone _ _ (Nat.le_refl _) (hI _ _ _ hi (put (.inr rfl))) ((World.putObj_heap_other (by omega)).trans hk)⟩
      · exact ⟨some c, _, by have := run_endLoop (P := P) hl (by rw [hrec]; simp); rw [hrec] at this; exact this, hstop _ c pre _ (Nat.le_refl _) hSp (hIx _ _ _ _ hi (put (.inr rfl))) ((World.putObj_heap_other (by omega)).trans hk)⟩
theorem results_cell_tmp {P : Program} {fn : Func} {p q : Tmp} {ty : TypeId} (h : fn.results = #[.cell p ty, .tmp q]) (tmps : Array Value) (w : World) (g : Nat) (t : TypeId) (cs : Array Value) (fr : Nat × Nat) (d : TypeDesc) (v : Value)
    (hp : tmps.getD p undef = .pointer (some ⟨g, 0, none⟩)) (hq : tmps.getD q undef = v) (hg : w.heap[g]? = some (.cells cs t fr))
    (hu : P.underlying ty = some d) (hd : (match d with | .struct _ | .array _ _ => true | _ => false) = true) (hi : (P.info? ty).map (·.size) = some cs.size) :
    (results fn tmps).run P w = .ok (.tuple #[.agg cs, v]) w := by
  have hp' : tmps[p]?.getD undef = .pointer (some ⟨g, 0, none⟩) := by simpa using hp
  have hq' : tmps[q]?.getD undef = v := by simpa using hq
  simp [results, h, hp', hq', asAddr, run_loadVar_row w g t ty cs fr d hg hu hd hi]
def byteCells (l : List UInt8) : List Value := l.map fun b => .int .u8 (b.toNat : Nat)
theorem boxed_unique {W : World} {B : Nat} {t u : TypeId} {v v' : Value} (h : Boxed W B t v) (h' : Boxed W B u v') : v = v' := by
  have e := h.symm.trans h'
  cases e
  rfl
theorem own_form {w : World} {base : Nat} {e : TypeId} {size : Nat} {v : Value} {n : Nat} {xs : List Value} (h : w.ownsRow base e size v n xs) : ∃ o cap, v = .slice o n cap := by
  rcases h.2 with ⟨rfl, hn⟩ | ⟨g, cap, cur, rfl, _⟩
  · exact ⟨none, 0, by rw [hn]⟩
  · exact ⟨_, _, rfl⟩
theorem appended_plain {W w1 : World} {n0 B : Nat} {t e : TypeId} {size : Nat} {v v' : Value} {k m : Nat} {xs ys : List Value} (hl : Boxed W B t v) (hte : t ≠ e) (ho : W.ownsRow n0 e size v k xs) (hown' : w1.ownsRow n0 e size v' m ys)
    (hgrow : W.grownBy w1 v.ownBlock) : Boxed w1 B t v ∧ Boxed (w1.setCell ⟨B, 0, none⟩ v') B t v' ∧ (w1.setCell ⟨B, 0, none⟩ v').ownsRow n0 e size v' m ys ∧ Moves (fun k => k = B ∨ ∃ u, Boxed W B t u ∧ u.ownBlock = some k) W (w1.setCell ⟨B, 0, none⟩ v') := by
  have hv1 : Boxed w1 B t v := hl.kept hgrow (hl.not_row hte ho)
  refine ⟨hv1, hv1.set v', hown'.kept (grownBy_setCell' w1 B v') (.inr (hv1.not_row hte hown').symm), ?_⟩
  have h1 : Moves (fun k => k = B ∨ ∃ u, Boxed W B t u ∧ u.ownBlock = some k) W w1 := by
    refine ⟨hgrow.os, hgrow.tape, hgrow.output, hgrow.size, fun j hj hn => ?_⟩
    refine hgrow.block j hj ?_
    intro ej
    exact hn (.inr ⟨v, hl, ej.symm⟩)
  exact h1.trans (Moves.setCell (.inl rfl))
theorem own_far {W : World} {n0 B k j : Nat} {t e : TypeId} {size : Nat} {v : Value} {xs : List Value} (hl : Boxed W B t v) (ho : W.ownsRow n0 e size v k xs) (h : ∃ u, Boxed W B t u ∧ u.ownBlock = some j) : n0 ≤ j ∧ j < W.heap.size := by
  obtain ⟨u, hu, hj⟩ := h
  obtain rfl := boxed_unique hl hu
  rcases ho.2 with ⟨rfl, _⟩ | ⟨g, cap, cur, rfl, hg, hh, _⟩
  · simp [Value.ownBlock] at hj
  · obtain rfl : g = j := by simpa [Value.ownBlock] using hj
    exact ⟨hg, (Array.getElem?_eq_some_iff.1 hh).1⟩
theorem extract_piece (s : ByteArray) (q n : Nat) : (s.extract q (q + n)).data.toList = (s.data.toList.drop q).take n := by
  rw [Lib.extract_data]
  apply List.ext_getElem?
  intro i
  simp [List.getElem?_take, List.getElem?_drop]
theorem wpListIn_append_own_string {P : Program} {F : Fence} {n' : Nat} {ops : Array Oper} {rest : List Oper} {o : Oper} {a : Act} {Q : Exit → Act → World → Prop} (w : World) (hgd : o.guard = none) (sl x : Operand) (t u : TypeId)
    (ho : o.op = .call { callee := .builtin .append, args := #[sl, x], argTypes := #[t, u] })
    (base : Nat) (e : TypeId) (i : TypeInfo) (ht : P.underlying t = some (.slice e)) (hu : P.underlying u = some .string) (hi : P.info? e = some i) (hz : i.zero = some (.int .u8 0))
    (hsize : i.size = 1) (hby : i.bytes = 1)
    (v : Value) (n : Nat) (xs : List Value) (hs : a.eval sl = v) (hown : w.ownsRow base e 1 v n xs) (s : ByteArray) (hx : a.eval x = .string s)
    (h63 : n + s.size ≤ maxLen) (hbytes : n + s.size ≤ 140737488355328) (hbase : base ≤ w.heap.size)
    (h : ∀ v' w', w'.ownsRow base e 1 v' (n + s.size) (xs ++ Lib.strCells s) → w.grownBy w' v.ownBlock → wpListIn F n' P ops Q rest (a.put o.dst v') w') : wpListIn F n' P ops Q (o :: rest) a w := by
  refine wpListIn_plain hgd fun K hK => ?_
  obtain ⟨v', w', hr, h2, h3, h4⟩ := Lib.run_append_own_string (P := P) w base t u o.type e i ht hu hi hz hsize hby v n xs hown s h63 hbytes hbase
  unfold Oper.wpIn
  refine ⟨?_, ?_⟩
  · simp [Oper.about, ho, resolve, Target.leads, Sem.run_pure]
  · rw [Oper.semAt_plain F _ _ (by rw [ho]; intro c hc'; cases hc')]
    unfold execOp
    simp only [ho, resolve, invoke, builtin, Sem.run_bind, Sem.run_pure, Result.andThen_ok, List.map_toArray, List.map_cons, List.map_nil, hs, hx, hr]
    exact hK _ _ (h v' w' h2 h3)
/-- append behind a name that the walk does not open: so an equation of its run among the hypotheses is met. -/
def appSem (ats : Array TypeId) (ty : TypeId) (args : Array Value) : Sem Value := Builtin.append_ ats ty args
theorem app_hide (ats : Array TypeId) (ty : TypeId) (args : Array Value) : Builtin.append_ ats ty args = appSem ats ty args := rfl
theorem row_keep {S : Nat → Prop} {A B : World} {k : Nat} {o : Obj} (h : A.heap[k]? = some o) (hm : Moves S A B) (hk : ¬ S k) : B.heap[k]? = some o := (hm.block _ (Array.getElem?_eq_some_iff.1 h).1 hk).trans h
theorem row_below {A B : World} {k : Nat} {o : Obj} (h : A.heap[k]? = some o) (hb : Below A.heap.size A B) : B.heap[k]? = some o := (hb.block _ (Array.getElem?_eq_some_iff.1 h).1).trans h
theorem row_cells {A : World} {k : Nat} {t : TypeId} {u v : Value} (h : A.heap[k]? = some (.cells #[u, v] t (0, 0))) : A.cell? ⟨k, 0, none⟩ = some u ∧ A.cell? ⟨k, 1, none⟩ = some v := by
  constructor
  · rw [cell_of_row _ _ 0 _ _ _ h]; rfl
  · rw [cell_of_row _ _ 1 _ _ _ h]; rfl
theorem own_cap {w : World} {base : Nat} {e : TypeId} {o : Option Addr} {n cap : Nat} {size : Nat} {xs : List Value} (h : w.ownsRow base e size (.slice o n cap) n xs) : n ≤ cap := by
  rcases h.2 with ⟨hv, hn⟩ | ⟨g', cap', cur, hv, _, hg, hc, _⟩
  · omega
  · cases hv; exact hc
theorem own_not_def {W : World} {n0 B k j : Nat} {t e : TypeId} {size : Nat} {v : Value} {xs : List Value} {d : Option (List Deferred)} (hl : Boxed W B t v) (ho : W.ownsRow n0 e size v k xs) (hK : W.heap[j]? = some (.deferred d)) : ¬ ∃ u, Boxed W B t u ∧ u.ownBlock = some j := by
  rintro ⟨u, hu, hj⟩
  obtain rfl := boxed_unique hl hu
  rcases ho.2 with ⟨rfl, _⟩ | ⟨g, cap, cur, rfl, hg, hh, _⟩
  · simp [Value.ownBlock] at hj
  · obtain rfl : g = j := by simpa [Value.ownBlock] using hj
    rw [hh] at hK
    cases hK
theorem bytes_of {s t : ByteArray} (h : s.data.toList = t.data.toList) : s = t := by
  have h2 : s.data = t.data := Array.toList_inj.1 h
  cases s; cases t; simp_all
theorem toList_ne {s t : ByteArray} (h : s ≠ t) : (s.toList == t.toList) = false := by
  rw [beq_eq_false_iff_ne, Lib.toList_data, Lib.toList_data]
  exact fun e => h (bytes_of e)
theorem empty_yes {s : ByteArray} (h : s.data.toList = []) : s.toList.isEmpty = true := by rw [Lib.toList_data, h]; rfl
theorem empty_no {s : ByteArray} {b : UInt8} {u : List UInt8} (h : s.data.toList = b :: u) : s.toList.isEmpty = false := by rw [Lib.toList_data, h]; rfl
theorem strCells_eq (s : ByteArray) : Lib.strCells s = s.data.toList.map fun b => (.int .u8 (b.toNat : Nat) : Value) := rfl
theorem size_list (s : ByteArray) : s.size = s.data.toList.length := by simp
theorem not_empty {s : ByteArray} {b : UInt8} {t : List UInt8} (h : s.data.toList = b :: t) : s.toList.isEmpty = false := by
  rw [Lib.toList_data, h]; rfl
theorem laidMet_tail {P : Program} {x : String × DataW Unit} {r : List (String × DataW Unit)} {W : World} (h : laidMet P (x :: r) W) : laidMet P r W := by
  obtain ⟨ps, ⟨g0, t0, cs0, f0, p0, q0, hg0, ht0, hv0, hd0, hrest, e0⟩, hnd, hrows⟩ := h
  subst e0
  exact ⟨q0, hrest, (List.nodup_append.1 hnd).2.1, fun b off hm => hrows b off (List.mem_append_right _ hm)⟩
theorem in64_of_wf {n : Int} (h : (Lit.int .i64 n).wf = true) : In64 n := by
  simp only [Lit.wf, Bool.and_eq_true, decide_eq_true_eq] at h
  obtain ⟨h1, h2⟩ := h
  have e1 : IntKind.i64.min = -(2 ^ 63) := by decide
  have e2 : IntKind.i64.max = 2 ^ 63 - 1 := by decide
  rw [e1] at h1
  rw [e2] at h2
  exact ⟨h1, by omega⟩
theorem wrap_id {x : Int} (h1 : -(2 ^ 63) ≤ x) (h2 : x < 2 ^ 63) : IntKind.i64.wrap x = x := by rw [IntKind.wrap_i64]; omega
theorem take_snoc' {α : Type} (l : List α) {i : Nat} (hi : i < l.length) : l.take (i + 1) = l.take i ++ [l[i]] := by
  rw [List.take_succ_eq_append_getElem hi]
end Go.Proofs.YtnmhdcbpbaanoaaGreatDoor

namespace Go.Proofs.YtnmhdcbpbaanoaaGreatDoor
open Go.RowKit Go.Extern.Stop Go.Stop Go.Extern

theorem isTypeOfQ (v : Value) (w : World) : (callFunc 117 #[.iface 274 v]).run Tryz.prog w = .ok (.value (.iface 183 (.agg #[.pointer (some ⟨6, 274, none⟩)]))) w := by kernel_rfl
theorem isComparableQ (w : World) : (callFunc 232 #[.agg #[.pointer (some ⟨6, 274, none⟩)]]).run Tryz.prog w = .ok (.value (.bool true)) w := by kernel_rfl
theorem isMethodComparableQ (v : Value) (w : World) : (Go.method 404 183 v "Comparable").run Tryz.prog w = .ok (232, v) w := by kernel_rfl
theorem isCompQ : (Tryz.prog.info? 274).map (·.comparable) = some true := by kernel_rfl
theorem isSizeQ : (Tryz.prog.info? 292).map (·.size) = some 1 := by kernel_rfl
theorem noIsEQ (v : Value) (xT : TypeId) (w : World) : (Instr.typeAssert (.iface 274 v) xT 239 true).run Tryz.prog w = .ok (.tuple #[.nilIface, .bool false]) w := run_typeAssert_lacksB Tryz.underlying239 (by kernel_rfl) (by kernel_rfl) v xT w
theorem noUnwrapEQ (v : Value) (xT : TypeId) (w : World) : (Instr.typeAssert (.iface 274 v) xT 191 true).run Tryz.prog w = .ok (.tuple #[.nilIface, .bool false]) w := run_typeAssert_lacksB Tryz.underlying191 (by kernel_rfl) (by kernel_rfl) v xT w
theorem noUnwrapsEQ (v : Value) (xT : TypeId) (w : World) : (Instr.typeAssert (.iface 274 v) xT 193 true).run Tryz.prog w = .ok (.tuple #[.nilIface, .bool false]) w := run_typeAssert_lacksB Tryz.underlying193 (by kernel_rfl) (by kernel_rfl) v xT w

abbrev errVQ (a : Addr) : Value := .iface 274 (.pointer (some a))

theorem is_sameQ (a : Addr) (w : World) :
    Calls Tryz.prog 138 #[errVQ a, errVQ a] w fun e w' => e = .returned (.bool true) ∧ w = w' := by
  obtain ⟨i, hi, hcmp⟩ := Option.map_eq_some_iff.1 isCompQ
  obtain ⟨j, hj, hjs⟩ := Option.map_eq_some_iff.1 isSizeQ
  have tT := isTypeOfQ
  have cT := isComparableQ
  have mR := isMethodComparableQ
  have heq := run_eql_iface_ptr_same (P := Tryz.prog) w a Tryz.underlying58 Tryz.underlying274 hi hcmp hj
  go_enter Tryz.func138, Tryz.ntmps138
  go_wp2
  refine wp_loop_rounds 1 ?_
  rw [rounds_succ]
  go_wp2
  go_ret
  exact ⟨rfl, rfl⟩

theorem is_nilQ (b : Addr) (w : World) :
    Calls Tryz.prog 138 #[.nilIface, errVQ b] w fun e w' => e = .returned (.bool false) ∧ w = w' := by
  have hn := run_eql_iface_nil_left (P := Tryz.prog) w 274 (.pointer (some b)) Tryz.underlying58
  go_enter Tryz.func138, Tryz.ntmps138
  go_wp2
  go_ret
  exact ⟨rfl, rfl⟩

theorem is_otherQ (a b : Addr) (ca cb : Array Value) (ta tb : TypeId) (w : World) (hne : a ≠ b) (ha : w.heap[a.block]? = some (.cells ca ta (0, 0))) (hb : w.heap[b.block]? = some (.cells cb tb (0, 0))) :
    Calls Tryz.prog 138 #[errVQ a, errVQ b] w fun e w' => e = .returned (.bool false) ∧ w = w' := by
  obtain ⟨i, hi, hcmp⟩ := Option.map_eq_some_iff.1 isCompQ
  obtain ⟨j, hj, hjs⟩ := Option.map_eq_some_iff.1 isSizeQ
  have tT := isTypeOfQ
  have cT := isComparableQ
  have mR := isMethodComparableQ
  have nE := noIsEQ
  have uE := noUnwrapEQ
  have vE := noUnwrapsEQ
  have heq := run_eql_iface_ptr_other (P := Tryz.prog) w Tryz.underlying58 Tryz.underlying274 hi hcmp hj (by rw [hjs]; decide) hne ha hb
  go_enter Tryz.func138, Tryz.ntmps138
  go_wp2
  refine wp_loop_rounds 1 ?_
  rw [rounds_succ]
  go_wp2
  go_ret
  exact ⟨rfl, rfl⟩

/-- The two sentinels, aS they lie from start-up on: their variables, and what these point to. -/
structure GlobQ (w : World) (aU aS : Addr) : Prop where
  utf : w.cell? ⟨2, 0, none⟩ = some (errVQ aU)
  sca : w.cell? ⟨1, 0, none⟩ = some (errVQ aS)
  ne : aU ≠ aS
  rowU : ∃ c t, w.heap[aU.block]? = some (.cells c t (0, 0))
  rowS : ∃ c t, w.heap[aS.block]? = some (.cells c t (0, 0))
  ltU : 2 < w.heap.size
  ltS : 1 < w.heap.size

theorem GlobQ.lt_aU {w : World} {aU aS : Addr} (h : GlobQ w aU aS) : aU.block < w.heap.size := by
  obtain ⟨c, t, hc⟩ := h.rowU
  exact (Array.getElem?_eq_some_iff.1 hc).1
theorem GlobQ.lt_aS {w : World} {aU aS : Addr} (h : GlobQ w aU aS) : aS.block < w.heap.size := by
  obtain ⟨c, t, hc⟩ := h.rowS
  exact (Array.getElem?_eq_some_iff.1 hc).1
/-- They lie so in every world that is the same below where w ends. -/
theorem GlobQ.keep {w w' : World} {aU aS : Addr} (h : GlobQ w aU aS) (hs : w.heap.size ≤ w'.heap.size) (hb : ∀ k, k < w.heap.size → w'.heap[k]? = w.heap[k]?) : GlobQ w' aU aS where
  utf := (World.cell?_of_block (w := w) (hb _ h.ltU)).trans h.utf
  sca := (World.cell?_of_block (w := w) (hb _ h.ltS)).trans h.sca
  ne := h.ne
  rowU := by obtain ⟨c, t, hc⟩ := h.rowU; exact ⟨c, t, (hb _ h.lt_aU).trans hc⟩
  rowS := by obtain ⟨c, t, hc⟩ := h.rowS; exact ⟨c, t, (hb _ h.lt_aS).trans hc⟩
  ltU := Nat.lt_of_lt_of_le h.ltU hs
  ltS := Nat.lt_of_lt_of_le h.ltS hs
theorem GlobQ.below {w w' : World} {aU aS : Addr} (h : GlobQ w aU aS) (hb : Below w.heap.size w w') : GlobQ w' aU aS := h.keep hb.size hb.block
theorem GlobQ.drew {w : World} {aU aS : Addr} (h : GlobQ w aU aS) : GlobQ w.drew aU aS := h.keep (Nat.le_refl _) fun _ _ => rfl

theorem is_usQ {w : World} {aU aS : Addr} (h : GlobQ w aU aS) : Calls Tryz.prog 138 #[errVQ aU, errVQ aS] w fun e w' => e = .returned (.bool false) ∧ w = w' := by
  obtain ⟨c, t, hc⟩ := h.rowU
  obtain ⟨d, u, hd⟩ := h.rowS
  exact is_otherQ aU aS c d t u w h.ne hc hd

theorem number_nilQ {w : World} {aU aS : Addr} (h : GlobQ w aU aS) : Calls Tryz.prog 124 #[.nilIface] w fun e w' => e = .returned (.int .i64 0) ∧ w = w' := by
  have hu := h.utf
  have hs := h.sca
  go_enter Tryz.func124, Tryz.ntmps124
  go_wp2_with fail
  refine (is_nilQ aS _).mono ?_
  rintro e w' ⟨rfl, rfl⟩
  go_wp2_with fail
  refine (is_nilQ aU _).mono ?_
  rintro e w' ⟨rfl, rfl⟩
  go_wp2
  go_ret
  exact ⟨rfl, rfl⟩
theorem number_scaQ {w : World} {aU aS : Addr} (h : GlobQ w aU aS) : Calls Tryz.prog 124 #[errVQ aS] w fun e w' => e = .returned (.int .i64 2) ∧ w = w' := by
  have hu := h.utf
  have hs := h.sca
  go_enter Tryz.func124, Tryz.ntmps124
  go_wp2_with fail
  refine (is_sameQ aS _).mono ?_
  rintro e w' ⟨rfl, rfl⟩
  go_wp2
  go_ret
  exact ⟨rfl, rfl⟩
theorem number_utfQ {w : World} {aU aS : Addr} (h : GlobQ w aU aS) : Calls Tryz.prog 124 #[errVQ aU] w fun e w' => e = .returned (.int .i64 80) ∧ w = w' := by
  have hu := h.utf
  have hs := h.sca
  go_enter Tryz.func124, Tryz.ntmps124
  go_wp2_with fail
  refine (is_usQ h).mono ?_
  rintro e w' ⟨rfl, rfl⟩
  go_wp2_with fail
  refine (is_sameQ aU _).mono ?_
  rintro e w' ⟨rfl, rfl⟩
  go_wp2
  go_ret
  exact ⟨rfl, rfl⟩
end Go.Proofs.YtnmhdcbpbaanoaaGreatDoor

namespace Go.Proofs.YtnmhdcbpbaanoaaGreatDoor
open Ieee
/-- d is the whole number n, written with a place that is not above 0. -/
def IsInt (d : Datum) (n : Int) : Prop := ∃ s m i, d = .number s m i ∧ i ≤ 0 ∧ signed s m 0 = n * 2 ^ (-i).toNat
/-- d is a number at least 2^53 away from 0, of the sign s. -/
def IsFar (d : Datum) (s : Bool) : Prop := ∃ m i, d = .number s m i ∧ 1 ≤ i ∧ 2 ^ 52 ≤ m

theorem signed_shift (s : Bool) (m k : Nat) : signed s m k = signed s m 0 * 2 ^ k := by
  unfold signed
  cases s <;> simp [Nat.shiftLeft_eq, Int.neg_mul]

theorem order_int {d e : Datum} {a b : Int} (hd : IsInt d a) (he : IsInt e b) : d.order e = some (compare a b) := by
  obtain ⟨s, m, i, rfl, hi, hm⟩ := hd
  obtain ⟨t, n, j, rfl, hj, hn⟩ := he
  simp only [Datum.order]
  rw [signed_shift s, signed_shift t, hm, hn, Int.mul_assoc, Int.mul_assoc, ← Int.pow_add, ← Int.pow_add]
  have e1 : (-i).toNat + (i - min i j).toNat = (- min i j).toNat := by omega
  have e2 : (-j).toNat + (j - min i j).toNat = (- min i j).toNat := by omega
  rw [e1, e2]
  have hp : (0 : Int) < 2 ^ (- min i j).toNat := Int.pow_pos (by omega)
  congr 1
  simp only [compare, compareOfLessAndEq]
  have h1 : (a * 2 ^ (- min i j).toNat < b * 2 ^ (- min i j).toNat) ↔ a < b := Int.mul_lt_mul_right hp
  have h2 : (a * 2 ^ (- min i j).toNat = b * 2 ^ (- min i j).toNat) ↔ a = b := ⟨fun h => Int.eq_of_mul_eq_mul_right (by omega) h, fun h => by rw [h]⟩
  simp only [h1, h2]

theorem pow52_le (k : Nat) : 1 ≤ 2 ^ k := Nat.one_le_two_pow

theorem order_far {d e : Datum} {a : Int} {s : Bool} (hd : IsInt d a) (he : IsFar e s) (h1 : -(2 ^ 53) < a) (h2 : a < 2 ^ 53) : d.order e = some (if s then .gt else .lt) := by
  obtain ⟨t, m, i, rfl, hi, hm⟩ := hd
  obtain ⟨n, j, rfl, hj, hn⟩ := he
  simp only [Datum.order]
  have hb : min i j = i := by omega
  rw [hb, signed_shift t, signed_shift s, hm]
  have e0 : (i - i).toNat = 0 := by omega
  rw [e0, Int.pow_zero, Int.mul_one]
  obtain ⟨k, hk⟩ : ∃ k : Nat, (j - i).toNat = (-i).toNat + 1 + k := ⟨(j - i).toNat - (-i).toNat - 1, by omega⟩
  rw [hk]
  generalize (-i).toNat = q
  have hq : (0 : Int) < 2 ^ q := Int.pow_pos (by omega)
  have hkk : (1 : Int) ≤ 2 ^ k := by have := pow52_le k; exact_mod_cast this
  have hbig : (2 : Int) ^ 53 * 2 ^ q ≤ (n : Int) * 2 ^ (q + 1 + k) := by
    have e : (2 : Int) ^ (q + 1 + k) = 2 * 2 ^ k * 2 ^ q := by rw [Int.pow_add, Int.pow_add]; simp [Int.mul_comm, Int.mul_left_comm, Int.mul_assoc]
    rw [e, ← Int.mul_assoc]
    refine Int.mul_le_mul_of_nonneg_right ?_ (by omega)
    have hn' : (2 : Int) ^ 52 ≤ n := by exact_mod_cast hn
    calc (2 : Int) ^ 53 = 2 ^ 52 * (2 * 1) := by decide
      _ ≤ (n : Int) * (2 * 2 ^ k) := Int.mul_le_mul hn' (by omega) (by omega) (by omega)
  have ha1 : a * 2 ^ q < 2 ^ 53 * 2 ^ q := Int.mul_lt_mul_of_pos_right h2 hq
  have ha2 : -(2 ^ 53 * 2 ^ q) < a * 2 ^ q := by rw [← Int.neg_mul]; exact Int.mul_lt_mul_of_pos_right h1 hq
  congr 1
  cases s
  · simp only [signed, Bool.false_eq_true, if_false, Nat.shiftLeft_zero, compare, compareOfLessAndEq]
    rw [if_pos (by omega)]
  · simp only [signed, if_true, Nat.shiftLeft_zero, compare, compareOfLessAndEq, Int.neg_mul]
    rw [if_neg (by omega), if_neg (by omega)]

theorem cut_none (neg : Bool) (n : Nat) : Toward.even.cut neg n 0 = n := by
  simp [Toward.cut, Nat.mod_one]

/-- What a word stands for whose rung is e binades up. -/
theorem read_normal (e f : Nat) (s : Bool) (he1 : 1 ≤ e) (he2 : e < 2047) (hf : f < 2 ^ 52) :
    double.read (double.word s (e * 2 ^ 52 + f)) = .number s (2 ^ 52 + f) ((e : Int) - 1075) := by
  have hr : e * 2 ^ 52 + f < 2 ^ 63 := by omega
  have hmod : (double.word s (e * 2 ^ 52 + f)) % double.signWeight = e * 2 ^ 52 + f := by
    cases s <;> simp [Format.word, Format.signWeight, double] <;> omega
  have hdiv : (double.word s (e * 2 ^ 52 + f)) / double.signWeight % 2 = s.toNat := by
    cases s <;> simp [Format.word, Format.signWeight, double] <;> omega
  unfold Format.read
  simp only [hmod, hdiv]
  have hb : double.binade = 2 ^ 52 := rfl
  have hi : double.infRung = 2047 * 2 ^ 52 := rfl
  have hl : double.leastPlace = -1074 := by decide
  rw [hb, hi, hl, if_neg (by omega), if_pos (by omega)]
  have h1 : (e * 2 ^ 52 + f) % 2 ^ 52 = f := by omega
  have h2 : (e * 2 ^ 52 + f) / 2 ^ 52 = e := by omega
  rw [h1, h2]
  have h3 : (-1074 : Int) + ((e - 1 : Nat) : Int) = (e : Int) - 1075 := by omega
  rw [h3]
  cases s <;> rfl

theorem rung_eq (B L v f : Nat) (hv : v = B + f) (hf : f < B) (hL : L + 1024 ≤ 2047) : min ((L + 1022) * B + v) (2047 * B) = (L + 1023) * B + f := by
  have e1 : (L + 1023) * B = (L + 1022) * B + B := by rw [show L + 1023 = (L + 1022) + 1 from rfl, Nat.add_mul (L + 1022), Nat.one_mul]
  have e2 : (L + 1024) * B ≤ 2047 * B := Nat.mul_le_mul_right _ hL
  have e3 : (L + 1024) * B = (L + 1023) * B + B := by rw [show L + 1024 = (L + 1023) + 1 from rfl, Nat.add_mul (L + 1023), Nat.one_mul]
  generalize (L + 1022) * B = X at *
  generalize (L + 1023) * B = Y at *
  generalize (L + 1024) * B = Z at *
  generalize 2047 * B = W at *
  omega

theorem log2_bounds (n : Nat) (h : 0 < n) : 2 ^ n.log2 ≤ n ∧ n < 2 ^ (n.log2 + 1) :=
  ⟨Nat.log2_self_le (by omega), Nat.lt_log2_self⟩

/-- The float nearest to a whole number below 2^53 is that number. -/
theorem nearest_int (s : Bool) (n : Nat) (h : n < 2 ^ 53) : IsInt (double.read (double.nearest s n 0)) (if s then -(n : Int) else n) := by
  by_cases h0 : n = 0
  · subst h0
    cases s
    · have h0 : ∀ z : Int, signed false 0 0 = 0 * z := fun z => by rw [Int.zero_mul]; rfl
      exact ⟨false, 0, -1074, by decide, by omega, h0 _⟩
    · have h0 : ∀ z : Int, signed true 0 0 = -((0 : Nat) : Int) * z := fun z => by rw [show (-((0 : Nat) : Int)) = 0 from rfl, Int.zero_mul]; rfl
      exact ⟨true, 0, -1074, by decide, by omega, h0 _⟩
  · obtain ⟨hl1, hl2⟩ := log2_bounds n (by omega)
    have hL : n.log2 ≤ 52 := by
      have := (Nat.log2_lt (by omega : n ≠ 0)).2 h
      omega
    have hlast : max ((0 : Int) + n.log2 - double.fractionBits) double.leastPlace = (n.log2 : Int) - 52 := by
      have : double.leastPlace = -1074 := by decide
      have h2 : (double.fractionBits : Int) = 52 := rfl
      rw [this, h2]; omega
    unfold Format.nearest
    rw [if_neg h0, hlast]
    generalize n.log2 = L at *
    have hk : ((L : Int) - 52 - 0).toNat = 0 := by omega
    have hs : (0 - ((L : Int) - 52)).toNat = 52 - L := by omega
    have hm : ((L : Int) - 52 - double.leastPlace).toNat = L + 1022 := by
      have : double.leastPlace = -1074 := by decide
      rw [this]; omega
    dsimp only
    rw [hk, hs, cut_none, hm, Nat.shiftLeft_eq]
    have hb : double.binade = 2 ^ 52 := rfl
    have hi : double.infRung = 2047 * 2 ^ 52 := rfl
    rw [hb, hi]
    have hlo : 2 ^ 52 ≤ n * 2 ^ (52 - L) := by
      calc 2 ^ 52 = 2 ^ L * 2 ^ (52 - L) := by rw [← Nat.pow_add]; congr 1; omega
        _ ≤ n * 2 ^ (52 - L) := Nat.mul_le_mul_right _ hl1
    have hhi : n * 2 ^ (52 - L) < 2 ^ 53 := by
      calc n * 2 ^ (52 - L) < 2 ^ (L + 1) * 2 ^ (52 - L) := Nat.mul_lt_mul_of_pos_right hl2 (Nat.two_pow_pos _)
        _ = 2 ^ 53 := by rw [← Nat.pow_add]; congr 1; omega
    obtain ⟨f, hf⟩ : ∃ f, n * 2 ^ (52 - L) = 2 ^ 52 + f := ⟨n * 2 ^ (52 - L) - 2 ^ 52, by omega⟩
    have hf52 : f < 2 ^ 52 := by omega
    rw [rung_eq (2 ^ 52) L _ f hf hf52 (by omega), read_normal _ _ _ (by omega) (by omega) hf52, ← hf]
    clear hf hf52 hlo hhi
    refine ⟨s, _, _, rfl, by omega, ?_⟩
    have hp : (-(((L + 1023 : Nat) : Int) - 1075)).toNat = 52 - L := by omega
    rw [hp]
    unfold signed
    cases s <;> simp [Int.neg_mul]

/-- The float nearest to a greater one of 64 bits is far from 0. -/
theorem nearest_far (s : Bool) (n : Nat) (h : 2 ^ 53 ≤ n) (h2 : n < 2 ^ 64) : IsFar (double.read (double.nearest s n 0)) s := by
  obtain ⟨hl1, hl2⟩ := log2_bounds n (by omega)
  have hL : 53 ≤ n.log2 := by
    have := (Nat.le_log2 (by omega : n ≠ 0)).2 h
    omega
  have hL2 : n.log2 ≤ 63 := by
    have := (Nat.log2_lt (by omega : n ≠ 0)).2 h2
    omega
  have hlast : max ((0 : Int) + n.log2 - double.fractionBits) double.leastPlace = (n.log2 : Int) - 52 := by
    have : double.leastPlace = -1074 := by decide
    have h2 : (double.fractionBits : Int) = 52 := rfl
    rw [this, h2]; omega
  unfold Format.nearest
  rw [if_neg (by omega), hlast]
  generalize hLL : n.log2 = L at *
  have hk : ((L : Int) - 52 - 0).toNat = L - 52 := by omega
  have hs : (0 - ((L : Int) - 52)).toNat = 0 := by omega
  have hm : ((L : Int) - 52 - double.leastPlace).toNat = L + 1022 := by
    have : double.leastPlace = -1074 := by decide
    rw [this]; omega
  dsimp only
  rw [hk, hs, hm, Nat.shiftLeft_zero]
  have hb : double.binade = 2 ^ 52 := rfl
  have hi : double.infRung = 2047 * 2 ^ 52 := rfl
  rw [hb, hi]
  have hlow : 2 ^ 52 ≤ n / 2 ^ (L - 52) := by
    rw [Nat.le_div_iff_mul_le (Nat.two_pow_pos _), ← Nat.pow_add]
    calc 2 ^ (52 + (L - 52)) = 2 ^ L := by congr 1; omega
      _ ≤ n := hl1
  have hlow2 : n / 2 ^ (L - 52) < 2 ^ 53 := by
    rw [Nat.div_lt_iff_lt_mul (Nat.two_pow_pos _), ← Nat.pow_add]
    calc n < 2 ^ (L + 1) := hl2
      _ = 2 ^ (53 + (L - 52)) := by congr 1; omega
  have hcut : ∃ c, Toward.even.cut s n (L - 52) = n / 2 ^ (L - 52) + c ∧ c ≤ 1 := by
    unfold Toward.cut
    have hmin : min (L - 52) (n.log2 + 2) = L - 52 := by omega
    simp only [hmin, Nat.shiftLeft_eq, Nat.one_mul]
    exact ⟨_, rfl, Bool.toNat_le _⟩
  obtain ⟨c, hc, hc1⟩ := hcut
  rw [hc]
  generalize n / 2 ^ (L - 52) = q at *
  by_cases hq : q + c = 2 ^ 53
  · have hq2 : q + c = 2 ^ 52 + 2 ^ 52 := by omega
    have hrung : min ((L + 1022) * 2 ^ 52 + (q + c)) (2047 * 2 ^ 52) = (L + 1024) * 2 ^ 52 + 0 := by
      rw [hq2]
      generalize 2 ^ 52 = B
      have e1 : (L + 1024) * B = (L + 1022) * B + (B + B) := by rw [show L + 1024 = (L + 1022) + 2 from rfl, Nat.add_mul (L + 1022), Nat.two_mul]
      have e2 : (L + 1024) * B ≤ 2047 * B := Nat.mul_le_mul_right _ (by omega)
      generalize (L + 1022) * B = X at *
      generalize (L + 1024) * B = Z at *
      generalize 2047 * B = W at *
      omega
    rw [hrung, read_normal _ _ _ (by omega) (by omega) (Nat.two_pow_pos _)]
    exact ⟨_, _, rfl, by omega, Nat.le_add_right _ _⟩
  · obtain ⟨f, hf⟩ : ∃ f, q + c = 2 ^ 52 + f := ⟨q + c - 2 ^ 52, by omega⟩
    have hf52 : f < 2 ^ 52 := by omega
    rw [rung_eq (2 ^ 52) L _ f hf hf52 (by omega), read_normal _ _ _ (by omega) (by omega) hf52]
    exact ⟨_, _, rfl, by omega, Nat.le_add_right _ _⟩

theorem order_far' {d e : Datum} {a : Int} {s : Bool} (hd : IsFar d s) (he : IsInt e a) (h1 : -(2 ^ 53) < a) (h2 : a < 2 ^ 53) : d.order e = some (if s then .lt else .gt) := by
  have h := order_far he hd h1 h2
  obtain ⟨t, m, i, rfl, hi, hm⟩ := he
  obtain ⟨n, j, rfl, hj, hn⟩ := hd
  simp only [Datum.order] at h ⊢
  rw [show min j i = min i j from by omega]
  generalize signed t m (i - min i j).toNat = x at *
  generalize signed s n (j - min i j).toNat = y at *
  simp only [compare, compareOfLessAndEq, Option.some.injEq] at h ⊢
  cases s
  · simp only [Bool.false_eq_true, if_false] at h ⊢
    split at h
    · rw [if_neg (by omega), if_neg (by omega)]
    · split at h <;> cases h
  · simp only [if_true] at h ⊢
    split at h
    · cases h
    · split at h
      · cases h
      · rw [if_pos (by omega)]

/-- A word that is the whole number c, held against the float nearest to an int of 64 bits. -/
theorem order_nearest {bits : Nat} {c n : Int} (hb : IsInt (double.read bits) c) (h1 : -(2 ^ 53) < c) (h2 : c < 2 ^ 53) (hn1 : -(2 ^ 63) ≤ n) (hn2 : n < 2 ^ 63) :
    FloatKind.f64.format.order bits (floatOfInt .f64 n) = some (compare c n) := by
  have hf : FloatKind.f64.format = double := rfl
  have hfl : floatOfInt .f64 n = double.nearest (decide (n < 0)) n.natAbs 0 := rfl
  rw [hf, hfl]
  unfold Format.order
  by_cases hsm : n.natAbs < 2 ^ 53
  · have h := nearest_int (decide (n < 0)) n.natAbs hsm
    have hv : (if decide (n < 0) = true then -((n.natAbs : Nat) : Int) else n.natAbs) = n := by
      by_cases hneg : n < 0 <;> simp [hneg] <;> omega
    rw [hv] at h
    exact order_int hb h
  · have h := nearest_far (decide (n < 0)) n.natAbs (by omega) (by omega)
    rw [order_far hb h h1 h2]
    congr 1
    by_cases hneg : n < 0
    · simp only [hneg, decide_true, if_true, compare, compareOfLessAndEq]
      rw [if_neg (by omega), if_neg (by omega)]
    · simp only [hneg, decide_false, Bool.false_eq_true, if_false, compare, compareOfLessAndEq]
      rw [if_pos (by omega)]
theorem nearest_order {bits : Nat} {c n : Int} (hb : IsInt (double.read bits) c) (h1 : -(2 ^ 53) < c) (h2 : c < 2 ^ 53) (hn1 : -(2 ^ 63) ≤ n) (hn2 : n < 2 ^ 63) :
    FloatKind.f64.format.order (floatOfInt .f64 n) bits = some (compare n c) := by
  have hf : FloatKind.f64.format = double := rfl
  have hfl : floatOfInt .f64 n = double.nearest (decide (n < 0)) n.natAbs 0 := rfl
  rw [hf, hfl]
  unfold Format.order
  by_cases hsm : n.natAbs < 2 ^ 53
  · have h := nearest_int (decide (n < 0)) n.natAbs hsm
    have hv : (if decide (n < 0) = true then -((n.natAbs : Nat) : Int) else n.natAbs) = n := by
      by_cases hneg : n < 0 <;> simp [hneg] <;> omega
    rw [hv] at h
    exact order_int h hb
  · have h := nearest_far (decide (n < 0)) n.natAbs (by omega) (by omega)
    rw [order_far' h hb h1 h2]
    congr 1
    by_cases hneg : n < 0
    · simp only [hneg, decide_true, if_true, compare, compareOfLessAndEq]
      rw [if_pos (by omega)]
    · simp only [hneg, decide_false, Bool.false_eq_true, if_false, compare, compareOfLessAndEq]
      rw [if_neg (by omega), if_neg (by omega)]

open Go.RowKit
theorem toInt_of_isInt {d : Datum} {n : Nat} (h : IsInt d n) : d.toInt .zero = some (n : Int) := by
  obtain ⟨s, m, i, rfl, hi, hm⟩ := h
  have e0 : i.toNat = 0 := by omega
  have hz : n * 2 ^ (-i).toNat = m ∨ (m = 0 ∧ n = 0) := by
    cases s
    · left
      have h1 : signed false m 0 = (m : Int) := by simp [signed]
      rw [h1] at hm
      have : ((n * 2 ^ (-i).toNat : Nat) : Int) = (m : Int) := by rw [hm]; simp
      exact_mod_cast this
    · right
      have h1 : signed true m 0 = -(m : Int) := by simp [signed]
      rw [h1] at hm
      have hp : (0 : Int) < 2 ^ (-i).toNat := Int.pow_pos (by omega)
      have h2 : (0 : Int) ≤ (n : Int) * 2 ^ (-i).toNat := Int.mul_nonneg (by omega) (by omega)
      have hm0 : m = 0 := by omega
      refine ⟨hm0, ?_⟩
      have h3 : (n : Int) * 2 ^ (-i).toNat = 0 := by omega
      rcases Int.mul_eq_zero.1 h3 with h | h <;> omega
  have hcut : Toward.zero.cut s m (-i).toNat = n := by
    unfold Toward.cut
    simp only [Bool.toNat_false, Nat.add_zero]
    rcases hz with h | ⟨h1, h2⟩
    · rcases Nat.eq_zero_or_pos n with h0 | h0
      · subst h0
        rw [Nat.zero_mul] at h
        rw [← h, Nat.zero_div]
      · have hpow : 2 ^ (-i).toNat ≤ m := by rw [← h]; exact Nat.le_mul_of_pos_left _ h0
        have hm0 : m ≠ 0 := by have := Nat.one_le_two_pow (n := (-i).toNat); omega
        have hlog : (-i).toNat ≤ m.log2 := (Nat.le_log2 hm0).2 hpow
        rw [Nat.min_eq_left (by omega), Nat.one_shiftLeft, ← h]
        exact Nat.mul_div_cancel _ (Nat.two_pow_pos _)
    · rw [h1, h2, Nat.zero_div]
  show (match Datum.integral .zero (.number s m i) with | .number s m _ => some (signed s m 0) | _ => none) = _
  simp only [Datum.integral, e0, Nat.shiftLeft_zero, hcut]
  rcases hz with h | ⟨h1, h2⟩
  · cases s
    · simp [signed]
    · have h1 : signed true m 0 = -(m : Int) := by simp [signed]
      rw [h1] at hm
      have hp : (0 : Int) < 2 ^ (-i).toNat := Int.pow_pos (by omega)
      have h2 : (0 : Int) ≤ (n : Int) * 2 ^ (-i).toNat := Int.mul_nonneg (by omega) (by omega)
      have h3 : (n : Int) * 2 ^ (-i).toNat = 0 := by omega
      rcases Int.mul_eq_zero.1 h3 with h | h
      · have : n = 0 := by omega
        subst this
        simp [signed]
      · omega
  · rw [h2]
    cases s <;> simp [signed]

/-- The word of a whole number. -/
def flN (n : Nat) : Nat := floatOfInt .f64 (n : Nat)
theorem float_back {n : Nat} (h : n < 2 ^ 53) : floatToIntVal .f64 (flN n) .i64 = some (n : Int) := by
  have hfl : flN n = double.nearest false n 0 := by
    have h1 : flN n = double.nearest (decide ((n : Int) < 0)) (n : Int).natAbs 0 := rfl
    rw [h1, decide_eq_false (by omega), Int.natAbs_natCast]
  have hd : (FloatKind.f64.decode (flN n)).toInt .zero = some (n : Int) := by
    rw [hfl]
    have := nearest_int false n h
    simp only [Bool.false_eq_true, if_false] at this
    exact toInt_of_isInt this
  unfold floatToIntVal
  rw [hd]
  have e1 : IntKind.i64.min = -(2 ^ 63) := by decide
  have e2 : IntKind.i64.max = 2 ^ 63 - 1 := by decide
  simp only [e1, e2]
  rw [if_pos (by omega)]

theorem infoInt : (Tryz.prog.info? 3).map (fun i => (i.zero, i.size, i.bytes)) = some (some (.int .i64 0), 1, 8) := by kernel_rfl
theorem infoByte : (Tryz.prog.info? 5).map (fun i => (i.zero, i.size, i.bytes)) = some (some (.int .u8 0), 1, 1) := by kernel_rfl
theorem infoString : (Tryz.prog.info? 9).map (fun i => (i.zero, i.size, i.bytes)) = some (some (.string ⟨#[]⟩), 1, 16) := by kernel_rfl
end Go.Proofs.YtnmhdcbpbaanoaaGreatDoor
