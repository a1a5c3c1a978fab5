/- A range over a function whose iterator may lay blocks of its own, or range over another one: the law of the statement. X: the iterator's blocks so far. -/
import Derived.Test.YtnpbbmoknlbfaaaGreatDoorBase
namespace Go.Proofs.YtnpbbmoknlbfaaaGreatDoor
open Go.RowKit Go.Shelf
attribute [local go_sem] Oper.semAt_some

/-- THE CONTRACT OF A FUNCTION THAT YIELDS all, one by one. The iterator turns its own blocks alone (X: at first Ow, then what it has laid as well); a round turns none of these, and none of Dep. -/
def SeqOfX {α : Type} (P : Program) (n : Nat) (f : Nat) (lb : Array Value) (encs : α → Array Value) (Ow Dep : Nat → Prop) (all : List α) (w : World) : Prop :=
  ∀ (W : World) (l : Nat) (J Jx : (Nat → Prop) → List α → World → Prop), Moves (fun _ => False) w W →
    (∀ X X' xs A B, J X xs A → Moves X A B → (∀ k, X' k → (X k ∨ A.heap.size ≤ k) ∧ k < B.heap.size) → J X' xs B) →
    (∀ X X' xs A B, Jx X xs A → Moves X A B → (∀ k, X' k → (X k ∨ A.heap.size ≤ k) ∧ k < B.heap.size) → Jx X' xs B) →
    (∀ X xs x A, xs ++ [x] <+: all → J X xs A → YieldAt Fence.wide (n - 1) P l (encs x) A fun e A' => (e = .returned (.bool true) ∧ J X (xs ++ [x]) A' ∧ Moves (fun k => ¬ X k ∧ ¬ Dep k) A A') ∨ (e = .returned (.bool false) ∧ Jx X (xs ++ [x]) A' ∧ Moves (fun k => ¬ X k ∧ ¬ Dep k) A A')) →
    J Ow [] W →
    CallsIn Fence.wide n P f (#[.func (.yield l) #[] #[]] ++ lb) W fun e W' => (∃ v, e = .returned v) ∧ ∃ X, (J X all W' ∨ ∃ xs, xs <+: all ∧ Jx X xs W')

theorem roundIn_any {m m' : Nat} {P : Program} {l : Nat} {f : FuncId} {tmps : Array Value} {assign body : Code} {w : World} {R : Ending → World → Prop}
    (h : RoundIn Fence.wide m P l f tmps assign body w R) : RoundIn Fence.wide m' P l f tmps assign body w R := ⟨h.1, fun c cs _ => h.2 c cs (room_wide _)⟩
theorem yieldAt_any {m : Nat} (m' : Nat) {P : Program} {l : Nat} {args : Array Value} {W : World} {R : Ending → World → Prop} (h : YieldAt Fence.wide m P l args W R) : YieldAt Fence.wide m' P l args W R := by
  obtain ⟨fn, tmps, assign, body, hy, hR⟩ := h
  exact ⟨fn, tmps, assign, body, hy, roundIn_any hR⟩

/-- How the body of a round may be left. -/
def seqEndX {α : Type} (Dep X : Nat → Prop) (I : (Nat → Prop) → List α → World → Prop) (Ix : Code → (Nat → Prop) → List α → World → Prop) (xs : List α) (W : World) : Exit → Act → World → Prop
  | .normal, _, W' => Moves (fun k => ¬ X k ∧ ¬ Dep k) W W' ∧ I X xs W'
  | .ret, _, W' => Moves (fun k => ¬ X k ∧ ¬ Dep k) W W' ∧ Ix .ret X xs W'
  | .exit id, _, W' => Moves (fun k => ¬ X k ∧ ¬ Dep k) W W' ∧ Ix (.exit id) X xs W'
  | .goto t, _, W' => Moves (fun k => ¬ X k ∧ ¬ Dep k) W W' ∧ Ix (.goto t) X xs W'
  | .panic _, _, _ => False
  | .outgrown, _, _ => False
/-- The iterator's blocks, and the two of the statement's book-keeping. -/
abbrev BookX (X : Nat → Prop) (n : Nat) (k : Nat) : Prop := X k ∨ k = n ∨ k = n + 1
set_option maxHeartbeats 1000000 in
theorem wpIn_seqX {α : Type} {P : Program} {n : Nat} {f : Nat} {lb : Array Value} {encs : α → Array Value} {Ow Dep : Nat → Prop} {all : List α} {g : Operand} {ps : Array Tmp} {assign body : Code} {Q : Exit → Act → World → Prop} {a : Act} {w : World} (hn : 4 ≤ n)
    (hg : a.eval g = .func (.func f) #[] lb) (henter : ∀ args w, (callFunc f args).run P w = .ok (.enter f args) w) (hps : ∀ x, (encs x).size = ps.size) (hs : SeqOfX P (n - 1) f lb encs Ow Dep all w)
    (hOw : ∀ k, Ow k → k < w.heap.size) (hDep : ∀ k, Dep k → k < w.heap.size)
    (I : (Nat → Prop) → List α → World → Prop) (Ix : Code → (Nat → Prop) → List α → World → Prop)
    (hI : ∀ X X' xs A B, I X xs A → Moves X A B → (∀ k, X' k → (X k ∨ A.heap.size ≤ k) ∧ k < B.heap.size) → I X' xs B)
    (hIx : ∀ c X X' xs A B, Ix c X xs A → Moves X A B → (∀ k, X' k → (X k ∨ A.heap.size ≤ k) ∧ k < B.heap.size) → Ix c X' xs B) (h0 : I Ow [] w)
    (a₁ : Nat → α → Act) (G : World → α → World → Prop) (hG : ∀ A x B, G A x B → Moves (fun _ => False) A B)
    (hassign : ∀ (l : Nat) (x : α) (A : World) (K : Act → World → Prop), (∀ B, G A x B → K (a₁ A.heap.size x) B) →
      assign.wpIn (Fence.wide.inRound l) (n - 1 - 1) P (Exit.then K (fun _ _ _ => False)) { tmps := (ps.zip (encs x)).foldl (fun t (p, v) => t.setIfInBounds p v) a.tmps, defers := [] } A)
    (hbody : ∀ (l : Nat) (X : Nat → Prop) (pre : List α) (x : α) (A B W : World), w.heap.size + 2 ≤ A.heap.size → pre ++ [x] <+: all → G A x B → Moves (fun k => k = w.heap.size + 1) B W → X w.heap.size → X (w.heap.size + 1) → (∀ k, X k → k < A.heap.size) → I X pre W →
      body.wpIn (Fence.wide.inRound l) (n - 1 - 1) P (seqEndX Dep X I Ix (pre ++ [x]) W) (a₁ A.heap.size x) W)
    (hdone : ∀ (X : Nat → Prop) (D : Nat) (W : World), w.heap.size ≤ D → X D → I X all W → (∀ k, X k → k < W.heap.size) → W.heap[D]? = some (.deferred (some [])) → Q .normal { a with defers := { target := .collected D, args := #[] } :: a.defers } W)
    (hstop : ∀ (X : Nat → Prop) (D : Nat) (c : Code) (pre : List α) (W : World), w.heap.size ≤ D → X D → pre <+: all → Ix c X pre W → (∀ k, X k → k < W.heap.size) → W.heap[D]? = some (.deferred (some [])) →
      c.wpIn Fence.wide n P Q { a with defers := { target := .collected D, args := #[] } :: a.defers } W) :
    (Code.rangeFunc g ps assign body).wpIn Fence.wide n P Q a w := by
  refine wpIn_rangeFunc ?_
  intro fn hfn
  obtain ⟨rec, hrec⟩ : ∃ rec : LoopState → Option Code → Loop, rec = fun st pe => { state := st, pending := pe, fn, tmps := a.tmps, params := ps, assign, body, defers := w.heap.size } := ⟨_, rfl⟩
  obtain ⟨W1, hW1⟩ : ∃ W1, (w.alloc (.deferred (some []))).alloc (.loop (rec .ready none)) = W1 := ⟨_, rfl⟩
  have hL1 : W1.heap[w.heap.size + 1]? = some (.loop (rec .ready none)) := by
    rw [← hW1]; have := World.alloc_heap_new (w.alloc (.deferred (some []))) (.loop (rec .ready none)); rwa [World.size_alloc] at this
  have hK1 : W1.heap[w.heap.size]? = some (.deferred (some [])) := by
    rw [← hW1]; exact (Below.heap_alloc _ _ _ (by simp)).trans (World.alloc_heap_new w _)
  have hb1 : Below w.heap.size w W1 := by
    rw [← hW1]; exact ((Below.refl _ w).alloc (Nat.le_refl _) _).alloc (by simp) _
  have hz1 : W1.heap.size = w.heap.size + 2 := by rw [← hW1]; simp
  have hOl : ∀ k, w.heap.size ≤ k → ¬ Ow k := fun k hk h => by have := hOw k h; omega
  have hI1 : I (BookX Ow w.heap.size) [] W1 := hI _ _ _ _ _ h0 (Moves.of_below hb1) (by
    rintro k (h | h)
    · have := hOw _ h; exact ⟨.inl h, by omega⟩
    · exact ⟨.inr (by omega), by omega⟩)
  have keep : ∀ {S : Nat → Prop} {A B : World} {k : Nat} {o : Obj}, Moves S A B → ¬ S k → A.heap[k]? = some o → B.heap[k]? = some o := fun hm hk h => (hm.block _ (Array.getElem?_eq_some_iff.1 h).1 hk).trans h
  have put : ∀ {X : Nat → Prop} {A : World} {k : Nat} {o : Obj}, k = w.heap.size ∨ k = w.heap.size + 1 → Moves (BookX X w.heap.size) A (A.putObj k o) := fun hk => Moves.putObj (.inr hk)
  refine ⟨w.heap.size + 1, [{ target := .collected w.heap.size, args := #[] }], W1, { target := .fn (.func f) lb, args := #[.func (.yield (w.heap.size + 1)) #[] #[]] }, W1, f,
    #[.func (.yield (w.heap.size + 1)) #[] #[]] ++ lb, W1, ?_, ?_, ?_, ?_, fun _ => by omega, ?_⟩
  · rw [← hW1, hrec]; exact run_enterLoop_outer _ _ _ _ _
  · simp only [resolve, hg]
    simp [go_sem]
  · intro f' hf'; exact trivial
  · simp [invoke, go_sem, henter]
  · refine (hs W1 (w.heap.size + 1)
      (fun X pre W => I (BookX X w.heap.size) pre W ∧ W.heap[w.heap.size + 1]? = some (.loop (rec .ready none)) ∧ W.heap[w.heap.size]? = some (.deferred (some [])) ∧ ¬ X w.heap.size ∧ ¬ X (w.heap.size + 1) ∧ ∀ k, X k → k < W.heap.size)
      (fun X pre W => ∃ c, Ix c (BookX X w.heap.size) pre W ∧ W.heap[w.heap.size + 1]? = some (.loop (rec .done (some c))) ∧ W.heap[w.heap.size]? = some (.deferred (some [])) ∧ ¬ X w.heap.size ∧ ¬ X (w.heap.size + 1) ∧ ∀ k, X k → k < W.heap.size)
      (Moves.of_below hb1) ?_ ?_ ?_ ⟨hI1, hL1, hK1, hOl _ (Nat.le_refl _), hOl _ (by omega), fun k h => by have := hOw k h; omega⟩).mono ?_
    · rintro X X' xs A B ⟨hi, hl, hk, n1, n2, hX⟩ hm hX'
      have hlA := (Array.getElem?_eq_some_iff.1 hl).1
      refine ⟨hI _ _ _ _ _ hi (hm.mono fun k h => .inl h) ?_, keep hm n2 hl, keep hm n1 hk, fun h => ?_, fun h => ?_, fun k h => (hX' k h).2⟩
      · have := hm.size
        rintro k (h | h)
        · exact ⟨(hX' k h).1.imp .inl id, (hX' k h).2⟩
        · exact ⟨.inl (.inr h), by omega⟩
      · rcases (hX' _ h).1 with h | h
        · exact n1 h
        · omega
      · rcases (hX' _ h).1 with h | h
        · exact n2 h
        · omega
    · rintro X X' xs A B ⟨c, hi, hl, hk, n1, n2, hX⟩ hm hX'
      have hlA := (Array.getElem?_eq_some_iff.1 hl).1
      refine ⟨c, hIx _ _ _ _ _ _ hi (hm.mono fun k h => .inl h) ?_, keep hm n2 hl, keep hm n1 hk, fun h => ?_, fun h => ?_, fun k h => (hX' k h).2⟩
      · have := hm.size
        rintro k (h | h)
        · exact ⟨(hX' k h).1.imp .inl id, (hX' k h).2⟩
        · exact ⟨.inl (.inr h), by omega⟩
      · rcases (hX' _ h).1 with h | h
        · exact n1 h
        · omega
      · rcases (hX' _ h).1 with h | h
        · exact n2 h
        · omega
    · rintro X pre x W hpx ⟨hi, hl, hk, n1, n2, hX⟩
      have hlt1 : w.heap.size + 1 < W.heap.size := (Array.getElem?_eq_some_iff.1 hl).1
      have hy := run_yield (P := P) (args := encs x) hl (by rw [hrec]; exact hps x)
      rw [hrec] at hy
      refine ⟨fn, _, assign, body, hy, roundIn_of_wpIn hfn (hassign _ x W _ fun B hGB => ?_)⟩
      have hGm := hG _ _ _ hGB
      have hlB : B.heap[w.heap.size + 1]? = some (.loop (rec .ready none)) := keep hGm id hl
      have hkB : B.heap[w.heap.size]? = some (.deferred (some [])) := keep hGm id hk
      have hltB : w.heap.size + 1 < B.heap.size := (Array.getElem?_eq_some_iff.1 hlB).1
      refine ⟨_, run_beginRound hlB (by rw [hrec]), ?_⟩
      have hl2 : (B.putObj (w.heap.size + 1) (.loop { rec .ready none with state := .busy })).heap[w.heap.size + 1]? = some (.loop { rec .ready none with state := .busy }) := World.putObj_heap_same hltB
      have hk2 : (B.putObj (w.heap.size + 1) (.loop { rec .ready none with state := .busy })).heap[w.heap.size]? = some (.deferred (some [])) := (World.putObj_heap_other (by omega)).trans hkB
      have hw2 : Moves (fun k => k = w.heap.size + 1) W (B.putObj (w.heap.size + 1) (.loop { rec .ready none with state := .busy })) := (hGm.mono fun k h => h.elim).trans (Moves.putObj rfl)
      have hXb : ∀ k, BookX X w.heap.size k → k < W.heap.size := by
        rintro k (h | h)
        · exact hX k h
        · omega
      have hXs : ∀ {B' : World}, W.heap.size ≤ B'.heap.size → ∀ k, BookX X w.heap.size k → (BookX X w.heap.size k ∨ W.heap.size ≤ k) ∧ k < B'.heap.size := fun hz k h => ⟨.inl h, by have := hXb k h; omega⟩
      have hIB := hI _ _ _ _ _ hi (hw2.mono fun k h => .inr (.inr h)) (hXs hw2.size)
      refine wpIn_mono (hbody _ _ pre x W B _ (by omega) hpx hGB (Moves.putObj rfl) (.inr (.inl rfl)) (.inr (.inr rfl)) hXb hIB) ?_
      have fin : ∀ (jump : Option Code) (W3 : World), Moves (fun k => ¬ BookX X w.heap.size k ∧ ¬ Dep k) (B.putObj (w.heap.size + 1) (.loop { rec .ready none with state := .busy })) W3 →
          (Instr.endRound (w.heap.size + 1) jump).run P W3 = .ok (.bool jump.isNone) (W3.putObj (w.heap.size + 1) (.loop (rec (if jump.isNone then .ready else .done) jump))) ∧
          (W3.putObj (w.heap.size + 1) (.loop (rec (if jump.isNone then .ready else .done) jump))).heap[w.heap.size + 1]? = some (.loop (rec (if jump.isNone then .ready else .done) jump)) ∧
          (W3.putObj (w.heap.size + 1) (.loop (rec (if jump.isNone then .ready else .done) jump))).heap[w.heap.size]? = some (.deferred (some [])) ∧ W.heap.size ≤ W3.heap.size := fun jump W3 hk3 => by
        have hl3 := keep hk3 (fun h => h.1 (.inr (.inr rfl))) hl2
        have hz3 := hk3.size
        have hz2 := hw2.size
        have := run_endRound (P := P) jump hl3
        rw [hrec] at this ⊢
        exact ⟨this, World.putObj_heap_same (Array.getElem?_eq_some_iff.1 hl3).1, (World.putObj_heap_other (by omega)).trans (keep hk3 (fun h => h.1 (.inr (.inl rfl))) hk2), by omega⟩
      have hb2 : ∀ k, k = w.heap.size + 1 → ¬ X k ∧ ¬ Dep k := by
        rintro k rfl
        exact ⟨n2, fun h => by have := hDep _ h; omega⟩
      have all : ∀ {W3 : World} {o : Obj}, Moves (fun k => ¬ BookX X w.heap.size k ∧ ¬ Dep k) (B.putObj (w.heap.size + 1) (.loop { rec .ready none with state := .busy })) W3 → Moves (fun k => ¬ X k ∧ ¬ Dep k) W (W3.putObj (w.heap.size + 1) o) := fun hk3 => ((hw2.mono hb2).trans (hk3.mono fun k h => ⟨fun hx => h.1 (.inl hx), h.2⟩)).trans (Moves.putObj (hb2 _ rfl))
      have hXp : ∀ {W3 : World} {o : Obj}, W.heap.size ≤ W3.heap.size → ∀ k, BookX X w.heap.size k → (BookX X w.heap.size k ∨ W3.heap.size ≤ k) ∧ k < (W3.putObj (w.heap.size + 1) o).heap.size := fun hz k h => ⟨.inl h, by rw [World.putObj_size]; have := hXb k h; omega⟩
      have hXq : ∀ {W3 : World} {o : Obj}, W.heap.size ≤ W3.heap.size → ∀ k, X k → k < (W3.putObj (w.heap.size + 1) o).heap.size := fun hz k h => by rw [World.putObj_size]; have := hX k h; omega
      rintro e a3 W3 hp
      cases e with
      | normal =>
        obtain ⟨hk3, hi3⟩ := hp
        obtain ⟨hr, hl4, hk4, hz⟩ := fin none W3 hk3
        exact ⟨_, _, hr, .inl ⟨rfl, ⟨hI _ _ _ _ _ hi3 (put (.inr rfl)) (hXp hz), hl4, hk4, n1, n2, hXq hz⟩, all hk3⟩⟩
      | ret =>
        obtain ⟨hk3, hi3⟩ := hp
        obtain ⟨hr, hl4, hk4, hz⟩ := fin (some .ret) W3 hk3
        exact ⟨_, _, hr, .inr ⟨rfl, ⟨.ret, hIx _ _ _ _ _ _ hi3 (put (.inr rfl)) (hXp hz), hl4, hk4, n1, n2, hXq hz⟩, all hk3⟩⟩
      | exit id =>
        obtain ⟨hk3, hi3⟩ := hp
        obtain ⟨hr, hl4, hk4, hz⟩ := fin (some (.exit id)) W3 hk3
        exact ⟨_, _, hr, .inr ⟨rfl, ⟨.exit id, hIx _ _ _ _ _ _ hi3 (put (.inr rfl)) (hXp hz), hl4, hk4, n1, n2, hXq hz⟩, all hk3⟩⟩
      | goto t =>
        obtain ⟨hk3, hi3⟩ := hp
        obtain ⟨hr, hl4, hk4, hz⟩ := fin (some (.goto t)) W3 hk3
        exact ⟨_, _, hr, .inr ⟨rfl, ⟨.goto t, hIx _ _ _ _ _ _ hi3 (put (.inr rfl)) (hXp hz), hl4, hk4, n1, n2, hXq hz⟩, all hk3⟩⟩
      | panic ch => exact hp.elim
      | outgrown => exact hp.elim
    · rintro e W2 ⟨⟨v, rfl⟩, X, (⟨hi, hl, hk, n1, n2, hX⟩ | ⟨pre, hSp, c, hi, hl, hk, n1, n2, hX⟩)⟩
      · have hlt1 : w.heap.size + 1 < W2.heap.size := (Array.getElem?_eq_some_iff.1 hl).1
        have hXb : ∀ {o : Obj} k, BookX X w.heap.size k → k < (W2.putObj (w.heap.size + 1) o).heap.size := by
          rintro o k (h | h) <;> rw [World.putObj_size]
          · exact hX k h
          · omega
        exact ⟨none, _, by have := run_endLoop (P := P) hl (by rw [hrec]; simp); rw [hrec] at this; exact this, hdone (BookX X w.heap.size) _ _ (Nat.le_refl _) (.inr (.inl rfl)) (hI _ _ _ _ _ hi (put (.inr rfl)) (fun k h => ⟨.inl h, hXb k h⟩)) hXb ((World.putObj_heap_other (by omega)).trans hk)⟩
      · have hlt1 : w.heap.size + 1 < W2.heap.size := (Array.getElem?_eq_some_iff.1 hl).1
        have hXb : ∀ {o : Obj} k, BookX X w.heap.size k → k < (W2.putObj (w.heap.size + 1) o).heap.size := by
          rintro o k (h | h) <;> rw [World.putObj_size]
          · exact hX k h
          · omega
        exact ⟨some c, _, by have := run_endLoop (P := P) hl (by rw [hrec]; simp); rw [hrec] at this; exact this, hstop (BookX X w.heap.size) _ c pre _ (Nat.le_refl _) (.inr (.inl rfl)) hSp (hIx _ _ _ _ _ _ hi (put (.inr rfl)) (fun k h => ⟨.inl h, hXb k h⟩)) hXb ((World.putObj_heap_other (by omega)).trans hk)⟩
end Go.Proofs.YtnpbbmoknlbfaaaGreatDoor
