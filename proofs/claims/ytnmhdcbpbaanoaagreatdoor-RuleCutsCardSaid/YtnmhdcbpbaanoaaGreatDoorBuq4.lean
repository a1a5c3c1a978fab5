/- Shaken by bunq.py. -/
import Derived.Test.YtnmhdcbpbaanoaaGreatDoorBuq1
import Derived.Test.YtnmhdcbpbaanoaaGreatDoorBuq3
import Derived.Test.YtnmhdcbpbaanoaaGreatDoorBuq2
import Derived.Maps.AppendAt
import Derived.Deep.MidRow
namespace Go.Proofs.YtnmhdcbpbaanoaaGreatDoor
open Go.RowKit Go.Shelf
attribute [local go_sem] Oper.semAt_some

def SeqOfX {α : Type} (P : Program) (n : Nat) (f : Nat) (lb : Array Value) (encs : α → Array Value) (Ow Dep : Nat → Prop) (all : List α) (w : World) : Prop :=
  ∀ (W : World) (l : Nat) (J Jx : (Nat → Prop) → List α → World → Prop), Moves (fun _ => False) w W →
    (∀ X X' xs A B, J X xs A → Moves X A B → (∀ k, X' k → (X k ∨ A.heap.size ≤ k) ∧ k < B.heap.size) → J X' xs B) →
    (∀ X X' xs A B, Jx X xs A → Moves X A B → (∀ k, X' k → (X k ∨ A.heap.size ≤ k) ∧ k < B.heap.size) → Jx X' xs B) →
    (∀ X xs x A, xs ++ [x] <+: all → J X xs A → YieldAt Fence.wide (n - 1) P l (encs x) A fun e A' => (e = .returned (.bool true) ∧ J X (xs ++ [x]) A' ∧ Moves (fun k => ¬ X k ∧ ¬ Dep k) A A') ∨ (e = .returned (.bool false) ∧ Jx X (xs ++ [x]) A' ∧ Moves (fun k => ¬ X k ∧ ¬ Dep k) A A')) →
    J Ow [] W →
    CallsIn Fence.wide n P f (#[.func (.yield l) #[] #[]] ++ lb) W fun e W' => (∃ v, e = .returned v) ∧ ∃ X, (J X all W' ∨ ∃ xs, xs <+: all ∧ Jx X xs W')

theorem roundIn_any {m m' : Nat} {P : Program} {l : Nat} {f : FuncId} {tmps : Array Value} {assign body : Code} {w : World} {R : Ending → World → Prop}
    (h : RoundIn Fence.wide m P l f tmps assign body w R) : RoundIn Fence.wide m' P l f tmps assign body w R := ⟨h.1, fun c cs _ => h.2 c cs (room_wide _)⟩
theorem yieldAt_any {m : Nat} (m' : Nat) {P : Program} {l : Nat} {args : Array Value} {W : World} {R : Ending → World → Prop} (h : YieldAt Fence.wide m P l args W R) : YieldAt Fence.wide m' P l args W R := by
  obtain ⟨fn, tmps, assign, body, hy, hR⟩ := h
  exact ⟨fn, tmps, assign, body, hy, roundIn_any hR⟩

def seqEndX {α : Type} (Dep X : Nat → Prop) (I : (Nat → Prop) → List α → World → Prop) (Ix : Code → (Nat → Prop) → List α → World → Prop) (xs : List α) (W : World) : Exit → Act → World → Prop
  | .normal, _, W' => Moves (fun k => ¬ X k ∧ ¬ Dep k) W W' ∧ I X xs W'
  | .ret, _, W' => Moves (fun k => ¬ X k ∧ ¬ Dep k) W W' ∧ Ix .ret X xs W'
  | .exit id, _, W' => Moves (fun k => ¬ X k ∧ ¬ Dep k) W W' ∧ Ix (.exit id) X xs W'
  | .goto t, _, W' => Moves (fun k => ¬ X k ∧ ¬ Dep k) W W' ∧ Ix (.goto t) X xs W'
  | .panic _, _, _ => False
  | .outgrown, _, _ => False
abbrev BookX (X : Nat → Prop) (n : Nat) (k : Nat) : Prop := X k ∨ k = n ∨ k = n + 1
set_option maxHeartbeats 1000000 in
theorem wpIn_seqX {α : Type} {P : Program} {n : Nat} {f : Nat} {lb : Array Value} {encs : α → Array Value} {Ow Dep : Nat → Prop} {all : List α} {g : Operand} {ps : Array Tmp} {assign body : Code} {Q : Exit → Act → World → Prop} {a : Act} {w : World} (hn : 4 ≤ n)
    (hg : a.eval g = .func (.func f) #[] lb) (henter : ∀ args w, (callFunc f args).run P w = .ok (.enter f args) w) (hps : ∀ x, (encs x).size = ps.size) (hs : SeqOfX P (n - 1) f lb encs Ow Dep all w)
    (hOw : ∀ k, Ow k → k < w.heap.size) (hDep : ∀ k, Dep k → k < w.heap.size)
    (I : (Nat → Prop) → List α → World → Prop) (Ix : Code → (Nat → Prop) → List α → World → Prop)
    (hI : ∀ X X' xs A B, I X xs A → Moves X A B → (∀ k, X' k → (X k ∨ A.heap.size ≤ k) ∧ k < B.heap.size) → I X' xs B)
    (hIx : ∀ c X X' xs A B, Ix c X xs A → Moves X A B → (∀ k, X' k → (X k ∨ A.heap.size ≤ k) ∧ k < B.heap.size) → Ix c X' xs B) (h0 : I Ow [] w)
    (a₁ : Nat → α → Act) (G : World → α → World → Prop) (hG : ∀ A x B, G A x B → Moves (fun _ => False) A B)
    (hassign : ∀ (l : Nat) (x : α) (A : World) (K : Act → World → Prop), (∀ B, G A x B → K (a₁ A.heap.size x) B) →
      assign.wpIn (Fence.wide.inRound l) (n - 1 - 1) P (Exit.then K (fun _ _ _ => False)) { tmps := (ps.zip (encs x)).foldl (fun t (p, v) => t.setIfInBounds p v) a.tmps, defers := [] } A)
    (hbody : ∀ (l : Nat) (X : Nat → Prop) (pre : List α) (x : α) (A B W : World), w.heap.size + 2 ≤ A.heap.size → pre ++ [x] <+: all → G A x B → Moves (fun k => k = w.heap.size + 1) B W → X w.heap.size → X (w.heap.size + 1) → (∀ k, X k → k < A.heap.size) → I X pre W →
      body.wpIn (Fence.wide.inRound l) (n - 1 - 1) P (seqEndX Dep X I Ix (pre ++ [x]) W) (a₁ A.heap.size x) W)
    (hdone : ∀ (X : Nat → Prop) (D : Nat) (W : World), w.heap.size ≤ D → X D → I X all W → (∀ k, X k → k < W.heap.size) → W.heap[D]? = some (.deferred (some [])) → Q .normal { a with defers := { target := .collected D, args := #[] } :: a.defers } W)
    (hstop : ∀ (X : Nat → Prop) (D : Nat) (c : Code) (pre : List α) (W : World), w.heap.size ≤ D → X D → pre <+: all → Ix c X pre W → (∀ k, X k → k < W.heap.size) → W.heap[D]? = some (.deferred (some [])) →
      c.wpIn Fence.wide n P Q { a with defers := { target := .collected D, args := #[] } :: a.defers } W) :
    (Code.rangeFunc g ps assign body).wpIn Fence.wide n P Q a w := by
  refine wpIn_rangeFunc ?_
  intro fn hfn
  obtain ⟨rec, hrec⟩ : ∃ rec : LoopState → Option Code → Loop, rec = fun st pe => { state := st, pending := pe, fn, tmps := a.tmps, params := ps, assign, body, defers := w.heap.size } := ⟨_, rfl⟩
  obtain ⟨W1, hW1⟩ : ∃ W1, (w.alloc (.deferred (some []))).alloc (.loop (rec .ready none)) = W1 := ⟨_, rfl⟩
  have hL1 : W1.heap[w.heap.size + 1]? = some (.loop (rec .ready none)) := by
    rw [← hW1]; have := World.alloc_heap_new (w.alloc (.deferred (some []))) (.loop (rec .ready none)); rwa [World.size_alloc] at this
  have hK1 : W1.heap[w.heap.size]? = some (.deferred (some [])) := by
    rw [← hW1]; exact (Below.heap_alloc _ _ _ (by simp)).trans (World.alloc_heap_new w _)
  have hb1 : Below w.heap.size w W1 := by
    rw [← hW1]; exact ((Below.refl _ w).alloc (Nat.le_refl _) _).alloc (by simp) _
  have hz1 : W1.heap.size = w.heap.size + 2 := by rw [← hW1]; simp
  have hOl : ∀ k, w.heap.size ≤ k → ¬ Ow k := fun k hk h => by have := hOw k h; omega
  have hI1 : I (BookX Ow w.heap.size) [] W1 := hI _ _ _ _ _ h0 (Moves.of_below hb1) (by
    rintro k (h | h)
    · have := hOw _ h; exact ⟨.inl h, by omega⟩
    · exact ⟨.inr (by omega), by omega⟩)
  have keep : ∀ {S : Nat → Prop} {A B : World} {k : Nat} {o : Obj}, Moves S A B → ¬ S k → A.heap[k]? = some o → B.heap[k]? = some o := fun hm hk h => (hm.block _ (Array.getElem?_eq_some_iff.1 h).1 hk).trans h
  have put : ∀ {X : Nat → Prop} {A : World} {k : Nat} {o : Obj}, k = w.heap.size ∨ k = w.heap.size + 1 → Moves (BookX X w.heap.size) A (A.putObj k o) := fun hk => Moves.putObj (.inr hk)
  refine ⟨w.heap.size + 1, [{ target := .collected w.heap.size, args := #[] }], W1, { target := .fn (.func f) lb, args := #[.func (.yield (w.heap.size + 1)) #[] #[]] }, W1, f,
    #[.func (.yield (w.heap.size + 1)) #[] #[]] ++ lb, W1, ?_, ?_, ?_, ?_, fun _ => by omega, ?_⟩
  · rw [← hW1, hrec]; exact run_enterLoop_outer _ _ _ _ _
  · simp only [resolve, hg]
    simp [go_sem]
  · intro f' hf'; exact trivial
  · simp [invoke, go_sem, henter]
  · refine (hs W1 (w.heap.size + 1)
      (fun X pre W => I (BookX X w.heap.size) pre W ∧ W.heap[w.heap.size + 1]? = some (.loop (rec .ready none)) ∧ W.heap[w.heap.size]? = some (.deferred (some [])) ∧ ¬ X w.heap.size ∧ ¬ X (w.heap.size + 1) ∧ ∀ k, X k → k < W.heap.size)
      (fun X pre W => ∃ c, Ix c (BookX X w.heap.size) pre W ∧ W.heap[w.heap.size + 1]? = some (.loop (rec .done (some c))) ∧ W.heap[w.heap.size]? = some (.deferred (some [])) ∧ ¬ X w.heap.size ∧ ¬ X (w.heap.size + 1) ∧ ∀ k, X k → k < W.heap.size)
      (Moves.of_below hb1) ?_ ?_ ?_ ⟨hI1, hL1, hK1, hOl _ (Nat.le_refl _), hOl _ (by omega), fun k h => by have := hOw k h; omega⟩).mono ?_
    · rintro X X' xs A B ⟨hi, hl, hk, n1, n2, hX⟩ hm hX'
      have hlA := (Array.getElem?_eq_some_iff.1 hl).1
      refine ⟨hI _ _ _ _ _ hi (hm.mono fun k h => .inl h) ?_, keep hm n2 hl, keep hm n1 hk, fun h => ?_, fun h => ?_, fun k h => (hX' k h).2⟩
      · have := hm.size
        rintro k (h | h)
        · exact ⟨(hX' k h).1.imp .inl id, (hX' k h).2⟩
        · exact ⟨.inl (.inr h), by omega⟩
      · rcases (hX' _ h).1 with h | h
        · exact n1 h
        · omega
      · rcases (hX' _ h).1 with h | h
        · exact n2 h
        · omega
    · rintro X X' xs A B ⟨c, hi, hl, hk, n1, n2, hX⟩ hm hX'
      have hlA := (Array.getElem?_eq_some_iff.1 hl).1
      refine ⟨c, hIx _ _ _ _ _ _ hi (hm.mono fun k h => .inl h) ?_, keep hm n2 hl, keep hm n1 hk, fun h => ?_, fun h => ?_, fun k h => (hX' k h).2⟩
      · have := hm.size
        rintro k (h | h)
        · exact ⟨(hX' k h).1.imp .inl id, (hX' k h).2⟩
        · exact ⟨.inl (.inr h), by omega⟩
      · rcases (hX' _ h).1 with h | h
        · exact n1 h
        · omega
      · rcases (hX' _ h).1 with h | h
        · exact n2 h
        · omega
    · rintro X pre x W hpx ⟨hi, hl, hk, n1, n2, hX⟩
      have hlt1 : w.heap.size + 1 < W.heap.size := (Array.getElem?_eq_some_iff.1 hl).1
      have hy := run_yield (P := P) (args := encs x) hl (by rw [hrec]; exact hps x)
      rw [hrec] at hy
      refine ⟨fn, _, assign, body, hy, roundIn_of_wpIn hfn (hassign _ x W _ fun B hGB => ?_)⟩
      have hGm := hG _ _ _ hGB
      have hlB : B.heap[w.heap.size + 1]? = some (.loop (rec .ready none)) := keep hGm id hl
      have hkB : B.heap[w.heap.size]? = some (.deferred (some [])) := keep hGm id hk
      have hltB : w.heap.size + 1 < B.heap.size := (Array.getElem?_eq_some_iff.1 hlB).1
      refine ⟨_, run_beginRound hlB (by rw [hrec]), ?_⟩
      have hl2 : (B.putObj (w.heap.size + 1) (.loop { rec .ready none with state := .busy })).heap[w.heap.size + 1]? = some (.loop { rec .ready none with state := .busy }) := World.putObj_heap_same hltB
      have hk2 : (B.putObj (w.heap.size + 1) (.loop { rec .ready none with state := .busy })).heap[w.heap.size]? = some (.deferred (some [])) := (World.putObj_heap_other (by omega)).trans hkB
      have hw2 : Moves (fun k => k = w.heap.size + 1) W (B.putObj (w.heap.size + 1) (.loop { rec .ready none with state := .busy })) := (hGm.mono fun k h => h.elim).trans (Moves.putObj rfl)
      have hXb : ∀ k, BookX X w.heap.size k → k < W.heap.size := by
        rintro k (h | h)
        · exact hX k h
        · omega
      have hXs : ∀ {B' : World}, W.heap.size ≤ B'.heap.size → ∀ k, BookX X w.heap.size k → (BookX X w.heap.size k ∨ W.heap.size ≤ k) ∧ k < B'.heap.size := fun hz k h => ⟨.inl h, by have := hXb k h; omega⟩
      have hIB := hI _ _ _ _ _ hi (hw2.mono fun k h => .inr (.inr h)) (hXs hw2.size)
      refine wpIn_mono (hbody _ _ pre x W B _ (by omega) hpx hGB (Moves.putObj rfl) (.inr (.inl rfl)) (.inr (.inr rfl)) hXb hIB) ?_
      have fin : ∀ (jump : Option Code) (W3 : World), Moves (fun k => ¬ BookX X w.heap.size k ∧ ¬ Dep k) (B.putObj (w.heap.size + 1) (.loop { rec .ready none with state := .busy })) W3 →
          (Instr.endRound (w.heap.size + 1) jump).run P W3 = .ok (.bool jump.isNone) (W3.putObj (w.heap.size + 1) (.loop (rec (if jump.isNone then .ready else .done) jump))) ∧
          (W3.putObj (w.heap.size + 1) (.loop (rec (if jump.isNone then .ready else .done) jump))).heap[w.heap.size + 1]? = some (.loop (rec (if jump.isNone then .ready else .done) jump)) ∧
          (W3.putObj (w.heap.size + 1) (.loop (rec (if jump.isNone then .ready else .done) jump))).heap[w.heap.size]? = some (.deferred (some [])) ∧ W.heap.size ≤ W3.heap.size := fun jump W3 hk3 => by
        have hl3 := keep hk3 (fun h => h.1 (.inr (.inr rfl))) hl2
        have hz3 := hk3.size
        have hz2 := hw2.size
        have := run_endRound (P := P) jump hl3
        rw [hrec] at this ⊢
        exact ⟨this, World.putObj_heap_same (Array.getElem?_eq_some_iff.1 hl3).1, (World.putObj_heap_other (by omega)).trans (keep hk3 (fun h => h.1 (.inr (.inl rfl))) hk2), by omega⟩
      have hb2 : ∀ k, k = w.heap.size + 1 → ¬ X k ∧ ¬ Dep k := by
        rintro k rfl
        exact ⟨n2, fun h => by have := hDep _ h; omega⟩
      have all : ∀ {W3 : World} {o : Obj}, Moves (fun k => ¬ BookX X w.heap.size k ∧ ¬ Dep k) (B.putObj (w.heap.size + 1) (.loop { rec .ready none with state := .busy })) W3 → Moves (fun k => ¬ X k ∧ ¬ Dep k) W (W3.putObj (w.heap.size + 1) o) := fun hk3 => ((hw2.mono hb2).trans (hk3.mono fun k h => ⟨fun hx => h.1 (.inl hx), h.2⟩)).trans (Moves.putObj (hb2 _ rfl))
      have hXp : ∀ {W3 : World} {o : Obj}, W.heap.size ≤ W3.heap.size → ∀ k, BookX X w.heap.size k → (BookX X w.heap.size k ∨ W3.heap.size ≤ k) ∧ k < (W3.putObj (w.heap.size + 1) o).heap.size := fun hz k h => ⟨.inl h, by rw [World.putObj_size]; have := hXb k h; omega⟩
      have hXq : ∀ {W3 : World} {o : Obj}, W.heap.size ≤ W3.heap.size → ∀ k, X k → k < (W3.putObj (w.heap.size + 1) o).heap.size := fun hz k h => by rw [World.putObj_size]; have := hX k h; omega
      rintro e a3 W3 hp
      cases e with
      | normal =>
        obtain ⟨hk3, hi3⟩ := hp
        obtain ⟨hr, hl4, hk4, hz⟩ := fin none W3 hk3
        exact ⟨_, _, hr, .inl ⟨rfl, ⟨hI _ _ _ _ _ hi3 (put (.inr rfl)) (hXp hz), hl4, hk4, n1, n2, hXq hz⟩, all hk3⟩⟩
      | ret =>
        obtain ⟨hk3, hi3⟩ := hp
        obtain ⟨hr, hl4, hk4, hz⟩ := fin (some .ret) W3 hk3
        exact ⟨_, _, hr, .inr ⟨rfl, ⟨.ret, hIx _ _ _ _ _ _ hi3 (put (.inr rfl)) (hXp hz), hl4, hk4, n1, n2, hXq hz⟩, all hk3⟩⟩
      | exit id =>
        obtain ⟨hk3, hi3⟩ := hp
        obtain ⟨hr, hl4, hk4, hz⟩ := fin (some (.exit id)) W3 hk3
        exact ⟨_, _, hr, .inr ⟨rfl, ⟨.exit id, hIx _ _ _ _ _ _ hi3 (put (.inr rfl)) (hXp hz), hl4, hk4, n1, n2, hXq hz⟩, all hk3⟩⟩
      | goto t =>
        obtain ⟨hk3, hi3⟩ := hp
        obtain ⟨hr, hl4, hk4, hz⟩ := fin (some (.goto t)) W3 hk3
        exact ⟨_, _, hr, .inr ⟨rfl, ⟨.goto t, hIx _ _ _ _ _ _ hi3 (put (.inr rfl)) (hXp hz), hl4, hk4, n1, n2, hXq hz⟩, all hk3⟩⟩
      | panic ch => exact hp.elim
      | outgrown => exact hp.elim
    · rintro e W2 ⟨⟨v, rfl⟩, X, (⟨hi, hl, hk, n1, n2, hX⟩ | ⟨pre, hSp, c, hi, hl, hk, n1, n2, hX⟩)⟩
      · have hlt1 : w.heap.size + 1 < W2.heap.size := (Array.getElem?_eq_some_iff.1 hl).1
        have hXb : ∀ {o : Obj} k, BookX X w.heap.size k → k < (W2.putObj (w.heap.size + 1) o).heap.size := by
          rintro o k (h | h) <;> rw [World.putObj_size]
          · exact hX k h
          · omega
        exact ⟨none, _, by have := run_endLoop (P := P) hl (by rw [hrec]; simp); rw [hrec] at this; exact this, hdone (BookX X w.heap.size) _ _ (Nat.le_refl _) (.inr (.inl rfl)) (hI _ _ _ _ _ hi (put (.inr rfl)) (fun k h => ⟨.inl h, hXb k h⟩)) hXb ((World.putObj_heap_other (by omega)).trans hk)⟩
      · have hlt1 : w.heap.size + 1 < W2.heap.size := (Array.getElem?_eq_some_iff.1 hl).1
        have hXb : ∀ {o : Obj} k, BookX X w.heap.size k → k < (W2.putObj (w.heap.size + 1) o).heap.size := by
          rintro o k (h | h) <;> rw [World.putObj_size]
          · exact hX k h
          · omega
        exact ⟨some c, _, by have := run_endLoop (P := P) hl (by rw [hrec]; simp); rw [hrec] at this; exact this, hstop (BookX X w.heap.size) _ c pre _ (Nat.le_refl _) (.inr (.inl rfl)) hSp (hIx _ _ _ _ _ _ hi (put (.inr rfl)) (fun k h => ⟨.inl h, hXb k h⟩)) hXb ((World.putObj_heap_other (by omega)).trans hk)⟩
end Go.Proofs.YtnmhdcbpbaanoaaGreatDoor
namespace Go.Proofs.YtnmhdcbpbaanoaaGreatDoor
open Go.RowKit Go.Shelf Go.Maps
attribute [local go_sem] Oper.semAt_some

abbrev itC (x : ItemP) : Array Value := #[.int .i64 x.1, .int .i64 x.2]
abbrev itV (x : ItemP) : Value := .agg (itC x)
abbrev itO (x : ItemP) : Obj := .cells (itC x) 97 (0, 0)
def cellsI (l : List ItemP) : List Value := l.flatMap fun x => [.int .i64 x.1, .int .i64 x.2]
def inQ (o : Option Addr) (k : Nat) : Prop := ∃ a, o = some a ∧ a.block = k
def AtI (w : World) (o : Option Addr) (l : List ItemP) : Prop := 0 < l.length → ∃ g off, o = some ⟨g, off, none⟩ ∧ ∀ (j : Nat) (x : ItemP), l[j]? = some x →
  w.cell? ⟨g, off + j * 2, none⟩ = some (.int .i64 x.1) ∧ w.cell? ⟨g, off + j * 2 + 1, none⟩ = some (.int .i64 x.2)
theorem cell_movesQ {S : Nat → Prop} {w w' : World} {a : Addr} {v : Value} (hm : Moves S w w') (hs : ¬ S a.block) (h : w.cell? a = some v) : w'.cell? a = some v := by
  have hb := hm.block _ (World.block_lt_of_cell? w _ h) hs
  unfold World.cell? at h ⊢
  rw [hb]
  exact h
theorem cell_keepQ {w w' : World} {a : Addr} {v : Value} (hb : Below w.heap.size w w') (h : w.cell? a = some v) : w'.cell? a = some v :=
  (hb.cell (World.block_lt_of_cell? w _ h)).trans h
theorem AtI.moves {S : Nat → Prop} {w w' : World} {o : Option Addr} {l : List ItemP} (h : AtI w o l) (hm : Moves S w w') (hs : 0 < l.length → ∀ k, inQ o k → ¬ S k) : AtI w' o l := fun hn => by
  obtain ⟨g, off, rfl, hc⟩ := h hn
  have hg : ¬ S g := hs hn g ⟨_, rfl, rfl⟩
  refine ⟨g, off, rfl, fun j x hx => ?_⟩
  obtain ⟨h0, h1⟩ := hc j x hx
  exact ⟨cell_movesQ hm hg h0, cell_movesQ hm hg h1⟩
theorem AtI.lt {w : World} {o : Option Addr} {l : List ItemP} (h : AtI w o l) (hn : 0 < l.length) {k : Nat} (hk : inQ o k) : k < w.heap.size := by
  obtain ⟨g, off, rfl, hc⟩ := h hn
  obtain ⟨a, ha, rfl⟩ := hk
  cases ha
  exact World.block_lt_of_cell? w _ (hc 0 _ (List.getElem?_eq_getElem hn)).1
theorem AtI.below {w w' : World} {o : Option Addr} {l : List ItemP} (h : AtI w o l) (hb : Below w.heap.size w w') : AtI w' o l := fun hn => by
  obtain ⟨g, off, ho, hc⟩ := h hn
  refine ⟨g, off, ho, fun j x hx => ?_⟩
  obtain ⟨h0, h1⟩ := hc j x hx
  exact ⟨cell_keepQ hb h0, cell_keepQ hb h1⟩
theorem AtI.take {w : World} {o : Option Addr} {l : List ItemP} (h : AtI w o l) (n : Nat) : AtI w o (l.take n) := fun hn => by
  obtain ⟨g, off, ho, hc⟩ := h (by rw [List.length_take] at hn; omega)
  refine ⟨g, off, ho, fun j x hx => hc j x ?_⟩
  rw [List.getElem?_take] at hx
  split at hx
  · exact hx
  · cases hx
theorem NumsAt.moves {S : Nat → Prop} {w w' : World} {o : Option Addr} {l : List Int} (h : NumsAt w o l) (hm : Moves S w w') (hs : 0 < l.length → ∀ k, inQ o k → ¬ S k) : NumsAt w' o l := fun hn => by
  obtain ⟨g, off, rfl, hc⟩ := h hn
  have hg : ¬ S g := hs hn g ⟨_, rfl, rfl⟩
  exact ⟨g, off, rfl, fun j x hx => cell_movesQ hm hg (hc j x hx)⟩
theorem NumsAt.ltQ {w : World} {o : Option Addr} {l : List Int} (h : NumsAt w o l) (hn : 0 < l.length) {k : Nat} (hk : inQ o k) : k < w.heap.size := by
  obtain ⟨g, off, rfl, hc⟩ := h hn
  obtain ⟨a, ha, rfl⟩ := hk
  cases ha
  exact World.block_lt_of_cell? w _ (hc 0 _ (List.getElem?_eq_getElem hn))
theorem it_cells {w : World} {k : Nat} {x : ItemP} (h : w.heap[k]? = some (itO x)) :
    w.cell? ⟨k, 0, none⟩ = some (.int .i64 x.1) ∧ w.cell? ⟨k, 1, none⟩ = some (.int .i64 x.2) := by
  refine ⟨?_, ?_⟩
  · rw [cell_of_row _ _ 0 _ _ _ h]; rfl
  · rw [cell_of_row _ _ 1 _ _ _ h]; rfl
theorem cellsI_append (a b : List ItemP) : cellsI (a ++ b) = cellsI a ++ cellsI b := by unfold cellsI; rw [List.flatMap_append]
theorem cellsI_length : ∀ l : List ItemP, (cellsI l).length = l.length * 2
  | [] => rfl
  | x :: l => by
    have := cellsI_length l
    unfold cellsI at this ⊢
    rw [List.flatMap_cons, List.length_append, this]
    simp
    omega
theorem cellsI_one' (l : List ItemP) : ∀ u ∈ cellsI l, u.oneCell' = true := by
  intro u hu
  unfold cellsI at hu
  obtain ⟨x, _, hu⟩ := List.mem_flatMap.1 hu
  simp only [List.mem_cons, List.not_mem_nil, or_false] at hu
  rcases hu with rfl | rfl <;> rfl
theorem cellsI_get : ∀ {l : List ItemP} {j : Nat} {x : ItemP}, l[j]? = some x → (cellsI l)[j * 2]? = some (.int .i64 x.1) ∧ (cellsI l)[j * 2 + 1]? = some (.int .i64 x.2)
  | [], j, x, h => by simp at h
  | y :: l, 0, x, h => by
    obtain rfl : y = x := by simpa using h
    exact ⟨rfl, rfl⟩
  | y :: l, j + 1, x, h => by
    have := cellsI_get (l := l) (j := j) (x := x) (by simpa using h)
    unfold cellsI at this ⊢
    rw [List.flatMap_cons]
    rw [show (j + 1) * 2 = j * 2 + 2 from by omega]
    simpa using this
theorem infoIt : (Tryz.prog.info? 97).map (fun i => (i.zero, i.size, i.bytes)) = some (some (itV (0, 0)), 2, 16) := by kernel_rfl
theorem at_ownI {w : World} {base : Nat} {o : Option Addr} {l : List ItemP} {cap : Nat} (h : w.ownsRow base 97 2 (.slice o l.length cap) l.length (cellsI l)) : AtI w o l := fun hn => by
  rcases h.2 with ⟨_, h0⟩ | ⟨g, cap', cur, e, _, hg, _, _, _, htake⟩
  · omega
  · obtain ⟨rfl, rfl⟩ : o = some ⟨g, 0, none⟩ ∧ cap = cap' := by simpa using e
    have key : ∀ i u, (cellsI l)[i]? = some u → w.cell? ⟨g, i, none⟩ = some u := fun i u hu => by
      rw [cell_of_row _ _ i _ _ _ hg]
      rw [← htake, List.getElem?_take] at hu
      split at hu
      · rwa [Array.getElem?_toList] at hu
      · cases hu
    refine ⟨g, 0, rfl, fun j x hx => ?_⟩
    obtain ⟨h0, h1⟩ := cellsI_get hx
    rw [Nat.zero_add]
    exact ⟨key _ _ h0, key _ _ h1⟩
theorem it_own {W : World} {base k : Nat} {v : Value} {xs : List Value} (x : ItemP) (ho : W.ownsRow base 97 2 v k xs) (hk : k ≤ 100000) (hbase : base ≤ W.heap.size) {e : Nat} (he : W.heap[e]? = some (itO x)) :
    ∃ g cap w6, (appSem #[33, 33] 33 #[v, .slice (some ⟨e, 0, none⟩) 1 1]).run Tryz.prog W = .ok (.slice (some ⟨g, 0, none⟩) (k + 1) cap) w6 ∧
      w6.ownsRow base 97 2 (.slice (some ⟨g, 0, none⟩) (k + 1) cap) (k + 1) (xs ++ cellsI [x]) ∧ W.grownBy w6 v.ownBlock ∧ (∀ j, (Value.slice (some ⟨g, 0, none⟩) (k + 1) cap).ownBlock = some j → v.ownBlock = some j ∨ j = W.heap.size) := by
  obtain ⟨i0, hi, hz0, hz1, hz2⟩ := info_parts infoIt
  obtain ⟨c0, c1⟩ := it_cells he
  obtain ⟨v', w6, hr, h2, h3, h4, h5⟩ := run_append_own_at (P := Tryz.prog) W base 33 33 97 i0 (itV (0, 0)) 2 16 Tryz.underlying33 hi hz0 hz1 hz2 rfl (by decide) v k xs ho ⟨e, 0, none⟩ 1 1 (cellsI [x]) rfl
    (fun j u hj => by
      match j, hj with
      | 0, hj => cases hj; exact c0
      | 1, hj => cases hj; exact c1) (cellsI_one' _) (by unfold maxLen; omega) (by omega) hbase
  obtain ⟨g, cap, rfl⟩ := ownsRow_succ h2
  exact ⟨g, cap, w6, hr, h2, h3, fun j hj => h5.imp (fun h => h.symm.trans hj) (fun h => by rw [h] at hj; cases hj; rfl)⟩
theorem add_inI {w : World} {g off : Nat} {l : List ItemP} (hc : ∀ (j : Nat) (x : ItemP), l[j]? = some x →
    w.cell? ⟨g, off + j * 2, none⟩ = some (.int .i64 x.1) ∧ w.cell? ⟨g, off + j * 2 + 1, none⟩ = some (.int .i64 x.2)) :
    ∀ j u, (cellsI l)[j]? = some u → w.cell? ((⟨g, off, none⟩ : Addr).add j) = some u := by
  intro j u hj
  have hadd : (⟨g, off, none⟩ : Addr).add j = ⟨g, off + j, none⟩ := by unfold Addr.add; split <;> simp_all
  rw [hadd]
  have hlt := (List.getElem?_eq_some_iff.1 hj).1
  rw [cellsI_length] at hlt
  obtain ⟨x, hx⟩ : ∃ x, l[j / 2]? = some x := ⟨_, List.getElem?_eq_getElem (by omega)⟩
  obtain ⟨h0, h1⟩ := hc _ x hx
  obtain ⟨c0, c1⟩ := cellsI_get hx
  have hm : j % 2 = 0 ∨ j % 2 = 1 := by omega
  rcases hm with h | h
  · rw [show j / 2 * 2 = j from by omega] at c0 h0
    rw [c0] at hj; cases hj; exact h0
  · rw [show j / 2 * 2 + 1 = j from by omega] at c1
    rw [show off + j / 2 * 2 + 1 = off + j from by omega] at h1
    rw [c1] at hj; cases hj; exact h1
theorem own_sliceI {W : World} {base k : Nat} {v : Value} {xs : List Value} (h : W.ownsRow base 97 2 v k xs) : ∃ o cap, v = .slice o k cap := by
  rcases h.2 with ⟨rfl, rfl⟩ | ⟨g, cap, cur, rfl, _⟩
  · exact ⟨none, 0, rfl⟩
  · exact ⟨_, cap, rfl⟩
theorem app_noneI (W : World) (v : Value) {k : Nat} {base : Nat} {xs : List Value} (ho : W.ownsRow base 97 2 v k xs) (c : Nat) :
    (appSem #[33, 33] 33 #[v, .slice none 0 c]).run Tryz.prog W = .ok v W := by
  obtain ⟨i0, hi, hz0, hz1, hz2⟩ := info_parts infoIt
  rcases ho.2 with ⟨rfl, rfl⟩ | ⟨g, cap, cur, rfl, _, _, hnc, _, _, _⟩
  · simp [appSem, Builtin.append_, run_underlying Tryz.underlying33, sizeOf, typeInfo, hi, Builtin.lenOf, Builtin.firstCells]
  · simp [appSem, Builtin.append_, run_underlying Tryz.underlying33, sizeOf, typeInfo, hi, Builtin.lenOf, Builtin.firstCells, loadCells, storeCells, hnc]
theorem its_own {W : World} {base k : Nat} {v : Value} {xs : List Value} (l : List ItemP) (o : Option Addr) (c : Nat) (hA : AtI W o l) (ho : W.ownsRow base 97 2 v k xs) (hk : k + l.length ≤ 100000) (hbase : base ≤ W.heap.size) :
    ∃ o' cap w6, (appSem #[33, 33] 33 #[v, .slice o l.length c]).run Tryz.prog W = .ok (.slice o' (k + l.length) cap) w6 ∧
      w6.ownsRow base 97 2 (.slice o' (k + l.length) cap) (k + l.length) (xs ++ cellsI l) ∧ W.grownBy w6 v.ownBlock ∧ ((Value.slice o' (k + l.length) cap).ownBlock = v.ownBlock ∨ (Value.slice o' (k + l.length) cap).ownBlock = some W.heap.size) := by
  obtain ⟨i0, hi, hz0, hz1, hz2⟩ := info_parts infoIt
  have main : ∀ a : Addr, (∀ j u, (cellsI l)[j]? = some u → W.cell? (a.add j) = some u) → o = some a → ∃ o' cap w6, (appSem #[33, 33] 33 #[v, .slice o l.length c]).run Tryz.prog W = .ok (.slice o' (k + l.length) cap) w6 ∧
      w6.ownsRow base 97 2 (.slice o' (k + l.length) cap) (k + l.length) (xs ++ cellsI l) ∧ W.grownBy w6 v.ownBlock ∧ ((Value.slice o' (k + l.length) cap).ownBlock = v.ownBlock ∨ (Value.slice o' (k + l.length) cap).ownBlock = some W.heap.size) := by
    rintro a hc rfl
    obtain ⟨v', w6, hr, h2, h3, _, h5⟩ := run_append_own_at (P := Tryz.prog) W base 33 33 97 i0 (itV (0, 0)) 2 16 Tryz.underlying33 hi hz0 hz1 hz2 rfl (by decide) v k xs ho a l.length c (cellsI l) (cellsI_length l) hc (cellsI_one' _) (by unfold maxLen; omega) (by omega) hbase
    obtain ⟨o', cap, rfl⟩ := own_sliceI h2
    exact ⟨o', cap, w6, hr, h2, h3, h5⟩
  rcases Nat.eq_zero_or_pos l.length with h0 | h0
  · obtain rfl := List.eq_nil_of_length_eq_zero h0
    cases o with
    | none =>
      obtain ⟨o', cap, rfl⟩ := own_sliceI ho
      exact ⟨o', cap, W, app_noneI W _ ho c, by simpa [cellsI] using ho, ⟨rfl, rfl, rfl, Nat.le_refl _, fun _ _ _ => rfl⟩, .inl rfl⟩
    | some a => exact main a (fun j u hj => by simp [cellsI] at hj) rfl
  · obtain ⟨g, off, rfl, hc⟩ := hA h0
    exact main _ (add_inI hc) rfl
end Go.Proofs.YtnmhdcbpbaanoaaGreatDoor
namespace Go.Proofs.YtnmhdcbpbaanoaaGreatDoor

abbrev Fit := (Nat → Bool) × (Nat → Bool)
def zeroF : Fit := (fun _ => false, fun _ => false)
def setN (B : Fit) (i : Nat) (v : Bool) : Fit := (fun j => if j = i then v else B.1 j, B.2)
def setH (B : Fit) (i : Nat) (v : Bool) : Fit := (B.1, fun j => if j = i then v else B.2 j)
def onceF (A B : Fit) (i : Nat) : Fit := if A.1 i = true then setN B (i + 1) true else B
def anyF (A B : Fit) (i : Nat) : Fit := if A.1 i = true then setN B i true else B
def halfF (A B : Fit) (i : Nat) : Fit := if A.1 i = true then setH B i true else B
def pairsF (A B : Fit) (i : Nat) : Fit := if A.2 i = true then setN (halfF A B i) i true else halfF A B i
def itemF (h : Int) (A B : Fit) (i : Nat) : Fit := if h = 0 then onceF A B i else if h = 1 then anyF A B i else pairsF A B i
def overF (xs : List ItemP) (B : Fit) : Nat → Fit
  | 0 => B
  | j + 1 => match xs[j]? with
    | none => overF xs B j
    | some x => if (overF xs B j).1 j = true ∧ x.2 ≠ 0 then setN (overF xs B j) (j + 1) true else overF xs B j
def takeF (xs : List ItemP) (c : Int) (A : Fit) : Nat → Fit
  | 0 => zeroF
  | j + 1 => match xs[j]? with
    | none => takeF xs c A j
    | some x => if hasZ x.1 c = true then itemF x.2 A (takeF xs c A j) j else takeF xs c A j
def cutF (n : Nat) (s : Fit) : Fit := (fun i => decide (i ≤ n) && s.1 i, fun i => decide (i < n) && s.2 i)
theorem over_fst (xs : List ItemP) (B : Fit) : ∀ j, j ≤ xs.length → ∀ i, (overF xs B j).1 i = if i ≤ j then overN xs B.1 i else B.1 i
  | 0, _, i => by
    show B.1 i = _
    split
    · obtain rfl : i = 0 := by omega
      rfl
    · rfl
  | j + 1, hj, i => by
    obtain ⟨x, hx⟩ : ∃ x, xs[j]? = some x := ⟨_, List.getElem?_eq_getElem (by omega)⟩
    have ih := over_fst xs B j (by omega)
    have e : overF xs B (j + 1) = if (overF xs B j).1 j = true ∧ x.2 ≠ 0 then setN (overF xs B j) (j + 1) true else overF xs B j := by
      rw [overF, hx]
    have en : overN xs B.1 (j + 1) = (B.1 (j + 1) || (overN xs B.1 j && decide (x.2 ≠ 0))) := by
      rw [overN, hx]
    rw [e]
    have ij := ih j
    rw [if_pos (Nat.le_refl j)] at ij
    by_cases hc : (overF xs B j).1 j = true ∧ x.2 ≠ 0
    · rw [if_pos hc]
      show (if i = j + 1 then true else (overF xs B j).1 i) = _
      by_cases hi : i = j + 1
      · subst hi
        rw [if_pos rfl, if_pos (Nat.le_refl _), en, ← ij, hc.1, decide_eq_true hc.2]
        simp
      · rw [if_neg hi, ih i]
        by_cases h2 : i ≤ j
        · rw [if_pos h2, if_pos (by omega)]
        · rw [if_neg h2, if_neg (by omega)]
    · rw [if_neg hc, ih i]
      by_cases h2 : i ≤ j
      · rw [if_pos h2, if_pos (by omega)]
      · rw [if_neg h2]
        by_cases hi : i = j + 1
        · subst hi
          rw [if_pos (Nat.le_refl _), en, ← ij]
          have : ((overF xs B j).1 j && decide (x.2 ≠ 0)) = false := by
            rw [Bool.eq_false_iff]
            intro h
            rw [Bool.and_eq_true, decide_eq_true_eq] at h
            exact hc h
          rw [this, Bool.or_false]
        · rw [if_neg (by omega)]
theorem over_snd (xs : List ItemP) (B : Fit) : ∀ j, (overF xs B j).2 = B.2
  | 0 => rfl
  | j + 1 => by
    rw [overF]
    split
    · exact over_snd xs B j
    · split
      · exact over_snd xs B j
      · exact over_snd xs B j
def ownS (xs : List ItemP) (c : Int) (N H : Nat → Bool) (i : Nat) : Bool := match xs[i]? with | some x => hasZ x.1 c && ((decide (x.2 = 1) && N i) || (decide (x.2 = 2) && H i)) | none => false
def preS (xs : List ItemP) (c : Int) (N : Nat → Bool) (i : Nat) : Bool := match i with | 0 => false | j + 1 => match xs[j]? with | some x => hasZ x.1 c && (decide (x.2 = 0) && N j) | none => false
theorem stepN_eq (xs : List ItemP) (c : Int) (N H : Nat → Bool) (i : Nat) : stepN xs c N H i = (ownS xs c N H i || preS xs c N i) := rfl
theorem take_fst {xs : List ItemP} (hw : howP xs) (c : Int) (A : Fit) : ∀ j, j ≤ xs.length → (∀ i, (takeF xs c A j).1 i = ((decide (i < j) && ownS xs c A.1 A.2 i) || (decide (i ≤ j) && preS xs c A.1 i))) ∧ (∀ i, (takeF xs c A j).2 i = (decide (i < j) && stepH xs c A.1 i))
  | 0, _ => by
    refine ⟨fun i => ?_, fun i => by simp [takeF, zeroF]⟩
    show false = _
    cases i with
    | zero => simp [preS]
    | succ i => simp
  | j + 1, hj => by
    obtain ⟨x, hx⟩ : ∃ x, xs[j]? = some x := ⟨_, List.getElem?_eq_getElem (by omega)⟩
    obtain ⟨ih1, ih2⟩ := take_fst hw c A j (by omega)
    have hwx := hw x (List.mem_of_getElem? hx)
    have e : takeF xs c A (j + 1) = if hasZ x.1 c = true then itemF x.2 A (takeF xs c A j) j else takeF xs c A j := by rw [takeF, hx]
    have eo : ownS xs c A.1 A.2 j = (hasZ x.1 c && ((decide (x.2 = 1) && A.1 j) || (decide (x.2 = 2) && A.2 j))) := by rw [ownS, hx]
    have ep : preS xs c A.1 (j + 1) = (hasZ x.1 c && (decide (x.2 = 0) && A.1 j)) := by show (match xs[j]? with | some x => hasZ x.1 c && (decide (x.2 = 0) && A.1 j) | none => false) = _; rw [hx]
    have eh : stepH xs c A.1 j = (hasZ x.1 c && (decide (x.2 = 2) && A.1 j)) := by rw [stepH, hx]
    have key1 : ∀ i, (takeF xs c A (j + 1)).1 i = ((takeF xs c A j).1 i || (decide (i = j) && ownS xs c A.1 A.2 j) || (decide (i = j + 1) && preS xs c A.1 (j + 1))) := by
      intro i
      rw [e, eo, ep]
      by_cases hh : hasZ x.1 c = true
      · rw [if_pos hh, hh]
        unfold itemF
        rcases hwx with h0 | h0 | h0
        · rw [if_pos h0, h0]
          unfold onceF
          by_cases ha : A.1 j = true
          · rw [if_pos ha, ha]
            show (if i = j + 1 then true else (takeF xs c A j).1 i) = _
            by_cases hi : i = j + 1 <;> simp [hi]
          · rw [if_neg ha]
            simp only [Bool.not_eq_true] at ha
            simp [ha]
        · rw [if_neg (by omega), if_pos h0, h0]
          unfold anyF
          by_cases ha : A.1 j = true
          · rw [if_pos ha, ha]
            show (if i = j then true else (takeF xs c A j).1 i) = _
            by_cases hi : i = j <;> simp [hi]
          · rw [if_neg ha]
            simp only [Bool.not_eq_true] at ha
            simp [ha]
        · rw [if_neg (by omega), if_neg (by omega), h0]
          have hfst : (halfF A (takeF xs c A j) j).1 = (takeF xs c A j).1 := by unfold halfF; split <;> rfl
          unfold pairsF
          by_cases ha : A.2 j = true
          · rw [if_pos ha, ha]
            show (if i = j then true else (halfF A (takeF xs c A j) j).1 i) = _
            rw [hfst]
            by_cases hi : i = j <;> simp [hi]
          · rw [if_neg ha, hfst]
            simp only [Bool.not_eq_true] at ha
            simp [ha]
      · rw [if_neg hh]
        simp only [Bool.not_eq_true] at hh
        simp [hh]
    have key2 : ∀ i, (takeF xs c A (j + 1)).2 i = ((takeF xs c A j).2 i || (decide (i = j) && stepH xs c A.1 j)) := by
      intro i
      rw [e, eh]
      by_cases hh : hasZ x.1 c = true
      · rw [if_pos hh, hh]
        unfold itemF
        rcases hwx with h0 | h0 | h0
        · rw [if_pos h0, h0]
          unfold onceF
          split <;> simp [setN]
        · rw [if_neg (by omega), if_pos h0, h0]
          unfold anyF
          split <;> simp [setN]
        · rw [if_neg (by omega), if_neg (by omega), h0]
          have hs : (pairsF A (takeF xs c A j) j).2 = (halfF A (takeF xs c A j) j).2 := by unfold pairsF; split <;> rfl
          rw [hs]
          unfold halfF
          by_cases ha : A.1 j = true
          · rw [if_pos ha, ha]
            show (if i = j then true else (takeF xs c A j).2 i) = _
            by_cases hi : i = j <;> simp [hi]
          · rw [if_neg ha]
            simp only [Bool.not_eq_true] at ha
            simp [ha]
      · rw [if_neg hh]
        simp only [Bool.not_eq_true] at hh
        simp [hh]
    refine ⟨fun i => ?_, fun i => ?_⟩
    · rw [key1, ih1]
      rcases Nat.lt_trichotomy i j with h | h | h
      · have a1 : decide (i < j) = true := decide_eq_true h
        have a2 : decide (i ≤ j) = true := decide_eq_true (by omega)
        have a3 : decide (i = j) = false := decide_eq_false (by omega)
        have a4 : decide (i = j + 1) = false := decide_eq_false (by omega)
        have a5 : decide (i < j + 1) = true := decide_eq_true (by omega)
        have a6 : decide (i ≤ j + 1) = true := decide_eq_true (by omega)
        rw [a1, a2, a3, a4, a5, a6]; simp
      · subst h
        have a1 : decide (i < i) = false := decide_eq_false (by omega)
        have a4 : decide (i = i + 1) = false := decide_eq_false (by omega)
        have a5 : decide (i < i + 1) = true := decide_eq_true (by omega)
        have a6 : decide (i ≤ i + 1) = true := decide_eq_true (by omega)
        rw [a1, a4, a5, a6]
        simp [Bool.or_comm]
      · by_cases h2 : i = j + 1
        · subst h2
          have a1 : decide (j + 1 < j) = false := decide_eq_false (by omega)
          have a2 : decide (j + 1 ≤ j) = false := decide_eq_false (by omega)
          have a3 : decide (j + 1 = j) = false := decide_eq_false (by omega)
          have a5 : decide (j + 1 < j + 1) = false := decide_eq_false (by omega)
          rw [a1, a2, a3, a5]; simp
        · have a1 : decide (i < j) = false := decide_eq_false (by omega)
          have a2 : decide (i ≤ j) = false := decide_eq_false (by omega)
          have a3 : decide (i = j) = false := decide_eq_false (by omega)
          have a4 : decide (i = j + 1) = false := decide_eq_false (by omega)
          have a5 : decide (i < j + 1) = false := decide_eq_false (by omega)
          have a6 : decide (i ≤ j + 1) = false := decide_eq_false (by omega)
          rw [a1, a2, a3, a4, a5, a6]; simp
    · rw [key2, ih2]
      by_cases h : i = j
      · subst h
        simp
      · by_cases h2 : i < j
        · have a1 : decide (i < j) = true := decide_eq_true h2
          have a5 : decide (i < j + 1) = true := decide_eq_true (by omega)
          have a3 : decide (i = j) = false := decide_eq_false h
          rw [a1, a3, a5]; simp
        · have a1 : decide (i < j) = false := decide_eq_false h2
          have a5 : decide (i < j + 1) = false := decide_eq_false (by omega)
          have a3 : decide (i = j) = false := decide_eq_false h
          rw [a1, a3, a5]; simp
theorem overN_congr (xs : List ItemP) {N N' : Nat → Bool} : ∀ i, (∀ k, k ≤ i → N k = N' k) → overN xs N i = overN xs N' i
  | 0, h => h 0 (Nat.le_refl _)
  | i + 1, h => by
    rw [overN, overN, h (i + 1) (Nat.le_refl _), overN_congr xs i fun k hk => h k (by omega)]
theorem cut_own (xs : List ItemP) (c : Int) (s : Fit) (i : Nat) : ownS xs c (cutF xs.length s).1 (cutF xs.length s).2 i = ownS xs c s.1 s.2 i := by
  unfold ownS
  cases hx : xs[i]? with
  | none => rfl
  | some x =>
    have hlt := (List.getElem?_eq_some_iff.1 hx).1
    simp [cutF, hlt, Nat.le_of_lt hlt]
theorem cut_pre (xs : List ItemP) (c : Int) (s : Fit) (i : Nat) : preS xs c (cutF xs.length s).1 i = preS xs c s.1 i := by
  cases i with
  | zero => rfl
  | succ j =>
    show (match xs[j]? with | some x => hasZ x.1 c && (decide (x.2 = 0) && (cutF xs.length s).1 j) | none => false) = (match xs[j]? with | some x => hasZ x.1 c && (decide (x.2 = 0) && s.1 j) | none => false)
    cases hx : xs[j]? with
    | none => rfl
    | some x =>
      have hlt := (List.getElem?_eq_some_iff.1 hx).1
      simp [cutF, Nat.le_of_lt hlt]
theorem cut_half (xs : List ItemP) (c : Int) (s : Fit) (i : Nat) : stepH xs c (cutF xs.length s).1 i = stepH xs c s.1 i := by
  unfold stepH
  cases hx : xs[i]? with
  | none => rfl
  | some x =>
    have hlt := (List.getElem?_eq_some_iff.1 hx).1
    simp [cutF, Nat.le_of_lt hlt]
theorem take_state {xs : List ItemP} (hw : howP xs) (c : Int) (s : Fit) : overF xs (takeF xs c (cutF xs.length s) xs.length) xs.length = cutF xs.length (overN xs (stepN xs c s.1 s.2), stepH xs c s.1) := by
  obtain ⟨h1, h2⟩ := take_fst hw c (cutF xs.length s) xs.length (Nat.le_refl _)
  have e : ∀ i, i ≤ xs.length → (takeF xs c (cutF xs.length s) xs.length).1 i = stepN xs c s.1 s.2 i := by
    intro i hi
    rw [h1, cut_own, cut_pre, stepN_eq, decide_eq_true hi, Bool.true_and]
    by_cases hlt : i < xs.length
    · rw [decide_eq_true hlt, Bool.true_and]
    · have : ownS xs c s.1 s.2 i = false := by unfold ownS; rw [List.getElem?_eq_none (by omega)]
      rw [this, Bool.and_false]
  apply Prod.ext
  · funext i
    rw [over_fst xs _ _ (Nat.le_refl _)]
    show _ = (decide (i ≤ xs.length) && overN xs (stepN xs c s.1 s.2) i)
    by_cases hi : i ≤ xs.length
    · rw [if_pos hi, decide_eq_true hi, Bool.true_and]
      exact overN_congr xs i fun k hk => e k (by omega)
    · rw [if_neg hi, decide_eq_false hi, Bool.false_and, h1, decide_eq_false hi, decide_eq_false (show ¬ i < xs.length by omega)]
      rfl
  · rw [over_snd]
    funext i
    rw [h2, cut_half]
    rfl
theorem begin_state (xs : List ItemP) : overF xs (setN zeroF 0 true) xs.length = cutF xs.length (overN xs (fun i => decide (i = 0)), fun _ => false) := by
  have e : (setN zeroF 0 true).1 = fun i => decide (i = 0) := by
    funext i
    show (if i = 0 then true else false) = _
    by_cases h : i = 0 <;> simp [h]
  apply Prod.ext
  · funext i
    rw [over_fst xs _ _ (Nat.le_refl _), e]
    show _ = (decide (i ≤ xs.length) && overN xs (fun i => decide (i = 0)) i)
    by_cases hi : i ≤ xs.length
    · rw [if_pos hi, decide_eq_true hi, Bool.true_and]
    · rw [if_neg hi, decide_eq_false hi, Bool.false_and]
      exact decide_eq_false (by omega)
  · rw [over_snd]
    funext i
    show false = (decide (i < xs.length) && false)
    rw [Bool.and_false]
def stF (xs : List ItemP) (l : List Int) (k : Nat) : Fit := cutF xs.length (stateP xs (l.take k))
theorem stF_zero (xs : List ItemP) (l : List Int) : stF xs l 0 = overF xs (setN zeroF 0 true) xs.length := by
  rw [begin_state]
  rfl
theorem stF_succ {xs : List ItemP} (hw : howP xs) {l : List Int} {k : Nat} {c : Int} (h : l[k]? = some c) : stF xs l (k + 1) = overF xs (takeF xs c (stF xs l k) xs.length) xs.length := by
  unfold stF
  rw [take_state hw, List.take_add_one, h]
  show cutF _ (stateP xs (l.take k ++ [c])) = _
  rw [stateP_snoc]
end Go.Proofs.YtnmhdcbpbaanoaaGreatDoor
namespace Go.Proofs.YtnmhdcbpbaanoaaGreatDoor
open Go.RowKit Go.Shelf Go.Maps
attribute [local go_sem] Oper.semAt_some

def fitC (A : Fit) : List Value := ((List.range 11).map fun i => .bool (A.1 i)) ++ ((List.range 10).map fun i => .bool (A.2 i))
def matL (lv : Value) (back : Bool) (iv : Value) (A B : Fit) (mp : Value) : List Value := [lv, .bool back, iv] ++ fitC A ++ fitC B ++ [mp]
def MatAt (w : World) (M : Nat) (lv : Value) (back : Bool) (iv : Value) (A B : Fit) (mp : Value) : Prop := w.heap[M]? = some (.cells (matL lv back iv A B mp).toArray 138 (0, 0))
theorem MatAt.keep {S : Nat → Prop} {w w' : World} {M : Nat} {lv iv mp : Value} {back : Bool} {A B : Fit} (h : MatAt w M lv back iv A B mp) (hm : Moves S w w') (hs : ¬ S M) : MatAt w' M lv back iv A B mp :=
  (hm.block _ (Array.getElem?_eq_some_iff.1 h).1 hs).trans h
theorem MatAt.below {w w' : World} {M : Nat} {lv iv mp : Value} {back : Bool} {A B : Fit} (h : MatAt w M lv back iv A B mp) (hb : Below w.heap.size w w') : MatAt w' M lv back iv A B mp :=
  (hb.block _ (Array.getElem?_eq_some_iff.1 h).1).trans h
theorem MatAt.lt {w : World} {M : Nat} {lv iv mp : Value} {back : Bool} {A B : Fit} (h : MatAt w M lv back iv A B mp) : M < w.heap.size := (Array.getElem?_eq_some_iff.1 h).1
section
variable {w : World} {M : Nat} {lv iv mp : Value} {back : Bool} {A B : Fit}
theorem MatAt.frozen (h : MatAt w M lv back iv A B mp) (k : Nat) : w.frozen? ⟨M, k, none⟩ = false := frozen_of_row _ _ _ _ _ h
theorem MatAt.head (h : MatAt w M lv back iv A B mp) : w.cell? ⟨M, 0, none⟩ = some lv ∧ w.cell? ⟨M, 1, none⟩ = some (.bool back) ∧ w.cell? ⟨M, 2, none⟩ = some iv ∧ w.cell? ⟨M, 45, none⟩ = some mp := by
  refine ⟨?_, ?_, ?_, ?_⟩
  · rw [cell_of_row _ _ 0 _ _ _ h]; rfl
  · rw [cell_of_row _ _ 1 _ _ _ h]; rfl
  · rw [cell_of_row _ _ 2 _ _ _ h]; rfl
  · rw [cell_of_row _ _ 45 _ _ _ h]; rfl
theorem MatAt.aheadN (h : MatAt w M lv back iv A B mp) {i : Nat} (hi : i ≤ 10) : w.cell? ⟨M, 3 + i, none⟩ = some (.bool (A.1 i)) := by
  rw [cell_of_row _ _ (3 + i) _ _ _ h]
  match i, hi with
  | 0, _ => rfl | 1, _ => rfl | 2, _ => rfl | 3, _ => rfl | 4, _ => rfl | 5, _ => rfl | 6, _ => rfl | 7, _ => rfl | 8, _ => rfl | 9, _ => rfl | 10, _ => rfl
  | n + 11, h => exact absurd h (by omega)
theorem MatAt.aheadH (h : MatAt w M lv back iv A B mp) {i : Nat} (hi : i < 10) : w.cell? ⟨M, 14 + i, none⟩ = some (.bool (A.2 i)) := by
  rw [cell_of_row _ _ (14 + i) _ _ _ h]
  match i, hi with
  | 0, _ => rfl | 1, _ => rfl | 2, _ => rfl | 3, _ => rfl | 4, _ => rfl | 5, _ => rfl | 6, _ => rfl | 7, _ => rfl | 8, _ => rfl | 9, _ => rfl
  | n + 10, h => exact absurd h (by omega)
theorem MatAt.behindN (h : MatAt w M lv back iv A B mp) {i : Nat} (hi : i ≤ 10) : w.cell? ⟨M, 24 + i, none⟩ = some (.bool (B.1 i)) := by
  rw [cell_of_row _ _ (24 + i) _ _ _ h]
  match i, hi with
  | 0, _ => rfl | 1, _ => rfl | 2, _ => rfl | 3, _ => rfl | 4, _ => rfl | 5, _ => rfl | 6, _ => rfl | 7, _ => rfl | 8, _ => rfl | 9, _ => rfl | 10, _ => rfl
  | n + 11, h => exact absurd h (by omega)
theorem MatAt.behindH (h : MatAt w M lv back iv A B mp) {i : Nat} (hi : i < 10) : w.cell? ⟨M, 35 + i, none⟩ = some (.bool (B.2 i)) := by
  rw [cell_of_row _ _ (35 + i) _ _ _ h]
  match i, hi with
  | 0, _ => rfl | 1, _ => rfl | 2, _ => rfl | 3, _ => rfl | 4, _ => rfl | 5, _ => rfl | 6, _ => rfl | 7, _ => rfl | 8, _ => rfl | 9, _ => rfl
  | n + 10, h => exact absurd h (by omega)
theorem MatAt.setN (h : MatAt w M lv back iv A B mp) {i : Nat} (hi : i ≤ 10) (v : Bool) : MatAt (w.setCell ⟨M, 24 + i, none⟩ (.bool v)) M lv back iv A (setN B i v) mp := by
  unfold MatAt at h ⊢
  rw [heap_setCell_same _ _ (24 + i) _ _ _ h]
  match i, hi with
  | 0, _ => rfl | 1, _ => rfl | 2, _ => rfl | 3, _ => rfl | 4, _ => rfl | 5, _ => rfl | 6, _ => rfl | 7, _ => rfl | 8, _ => rfl | 9, _ => rfl | 10, _ => rfl
  | n + 11, h => exact absurd h (by omega)
theorem MatAt.setH (h : MatAt w M lv back iv A B mp) {i : Nat} (hi : i < 10) (v : Bool) : MatAt (w.setCell ⟨M, 35 + i, none⟩ (.bool v)) M lv back iv A (setH B i v) mp := by
  unfold MatAt at h ⊢
  rw [heap_setCell_same _ _ (35 + i) _ _ _ h]
  match i, hi with
  | 0, _ => rfl | 1, _ => rfl | 2, _ => rfl | 3, _ => rfl | 4, _ => rfl | 5, _ => rfl | 6, _ => rfl | 7, _ => rfl | 8, _ => rfl | 9, _ => rfl
  | n + 10, h => exact absurd h (by omega)
end
abbrev mV (M : Nat) : Value := .pointer (some ⟨M, 0, none⟩)
def MatQ (w : World) (M : Nat) (lv : Value) (back : Bool) (iv : Value) (A B : Fit) (mp : Value) (e : Ending) (w' : World) : Prop := (∃ v, e = .returned v) ∧ MatAt w' M lv back iv A B mp ∧ Moves (fun k => k = M) w w'
set_option maxRecDepth 100000 in
set_option maxHeartbeats 1000000 in
theorem once_any (M : Nat) (lv iv mp : Value) (back : Bool) (A B : Fit) (i : Nat) (hi : i < 10) (w : World) (h : MatAt w M lv back iv A B mp) :
    Calls Tryz.prog 110 #[mV M, .int .i64 (i : Nat)] w (MatQ w M lv back iv A (onceF A B i) mp) := by
  have hl := h.lt
  have k0 := h.aheadN (i := i) (by omega)
  have k1 := h.behindN (i := i + 1) (by omega)
  have f1 := h.frozen (24 + (i + 1))
  have HS := Lib.hid (h.setN (i := i + 1) (by omega) true)
  have HH := Lib.hid h
  clear h
  unfold onceF
  cases ha : A.1 i with
  | true =>
    rw [ha] at k0
    rw [if_pos rfl]
    clear ha
    go_enter Tryz.func110, Tryz.ntmps110
    go_wp2
    go_end0
    exact ⟨⟨_, rfl⟩, HS.out, Moves.setCell rfl⟩
  | false =>
    rw [ha] at k0
    rw [if_neg (by decide)]
    clear ha
    go_enter Tryz.func110, Tryz.ntmps110
    go_wp2
    go_end0
    exact ⟨⟨_, rfl⟩, HH.out, Moves.refl _ _⟩
set_option maxRecDepth 100000 in
set_option maxHeartbeats 1000000 in
theorem any_any (M : Nat) (lv iv mp : Value) (back : Bool) (A B : Fit) (i : Nat) (hi : i < 10) (w : World) (h : MatAt w M lv back iv A B mp) :
    Calls Tryz.prog 111 #[mV M, .int .i64 (i : Nat)] w (MatQ w M lv back iv A (anyF A B i) mp) := by
  have hl := h.lt
  have k0 := h.aheadN (i := i) (by omega)
  have k1 := h.behindN (i := i) (by omega)
  have f1 := h.frozen (24 + i)
  have HS := Lib.hid (h.setN (i := i) (by omega) true)
  have HH := Lib.hid h
  clear h
  unfold anyF
  cases ha : A.1 i with
  | true =>
    rw [ha] at k0
    rw [if_pos rfl]
    clear ha
    go_enter Tryz.func111, Tryz.ntmps111
    go_wp2
    go_end0
    exact ⟨⟨_, rfl⟩, HS.out, Moves.setCell rfl⟩
  | false =>
    rw [ha] at k0
    rw [if_neg (by decide)]
    clear ha
    go_enter Tryz.func111, Tryz.ntmps111
    go_wp2
    go_end0
    exact ⟨⟨_, rfl⟩, HH.out, Moves.refl _ _⟩
set_option maxRecDepth 100000 in
set_option maxHeartbeats 2000000 in
theorem pairs_any (M : Nat) (lv iv mp : Value) (back : Bool) (A B : Fit) (i : Nat) (hi : i < 10) (w : World) (h : MatAt w M lv back iv A B mp) :
    Calls Tryz.prog 112 #[mV M, .int .i64 (i : Nat)] w (MatQ w M lv back iv A (pairsF A B i) mp) := by
  have hl := h.lt
  have k0 := h.aheadN (i := i) (by omega)
  have k1 := h.behindH (i := i) hi
  have f1 := h.frozen (35 + i)
  have k2 := h.aheadH (i := i) hi
  have k3 := h.behindN (i := i) (by omega)
  have f3 := h.frozen (24 + i)
  have hs := h.setH (i := i) hi true
  have j2 := hs.aheadH (i := i) hi
  have j3 := hs.behindN (i := i) (by omega)
  have g3 := hs.frozen (24 + i)
  have HS := Lib.hid hs
  have HSN := Lib.hid (h.setN (i := i) (by omega) true)
  have HSS := Lib.hid (hs.setN (i := i) (by omega) true)
  have HH := Lib.hid h
  clear h hs
  unfold pairsF halfF
  cases ha : A.1 i with
  | true =>
    rw [ha] at k0
    rw [if_pos (show true = true from rfl)]
    clear ha
    cases hb : A.2 i with
    | true =>
      rw [hb] at k2 j2
      rw [if_pos rfl]
      clear hb
      go_enter Tryz.func112, Tryz.ntmps112
      go_wp2
      go_end0
      exact ⟨⟨_, rfl⟩, HSS.out, (Moves.setCell (S := fun k => k = M) rfl).trans (Moves.setCell (S := fun k => k = M) rfl)⟩
    | false =>
      rw [hb] at k2 j2
      rw [if_neg (by decide)]
      clear hb
      go_enter Tryz.func112, Tryz.ntmps112
      go_wp2
      go_end0
      exact ⟨⟨_, rfl⟩, HS.out, Moves.setCell rfl⟩
  | false =>
    rw [ha] at k0
    rw [if_neg (show ¬ false = true by decide)]
    clear ha
    cases hb : A.2 i with
    | true =>
      rw [hb] at k2 j2
      rw [if_pos rfl]
      clear hb
      go_enter Tryz.func112, Tryz.ntmps112
      go_wp2
      go_end0
      exact ⟨⟨_, rfl⟩, HSN.out, Moves.setCell rfl⟩
    | false =>
      rw [hb] at k2 j2
      rw [if_neg (by decide)]
      clear hb
      go_enter Tryz.func112, Tryz.ntmps112
      go_wp2
      go_end0
      exact ⟨⟨_, rfl⟩, HH.out, Moves.refl _ _⟩
end Go.Proofs.YtnmhdcbpbaanoaaGreatDoor
namespace Go.Proofs.YtnmhdcbpbaanoaaGreatDoor
open Go.RowKit Go.Shelf Go.Maps
attribute [local go_sem] Oper.semAt_some

theorem overF_more {xs : List ItemP} {B : Fit} {j : Nat} {x : ItemP} (hx : xs[j]? = some x) : overF xs B (j + 1) = if (overF xs B j).1 j = true ∧ x.2 ≠ 0 then setN (overF xs B j) (j + 1) true else overF xs B j := by
  rw [overF, hx]
theorem moves_allocM {M : Nat} {w wr : World} (h : Moves (fun k => k = M) w wr) (ob : Obj) : Moves (fun k => k = M) w (wr.alloc ob) := h.trans (Moves.of_below ((Below.refl _ _).alloc (Nat.le_refl _) _))
set_option maxRecDepth 100000 in
set_option maxHeartbeats 2000000 in
theorem passOver_any (M : Nat) (lv mp : Value) (back : Bool) (o : Option Addr) (xs : List ItemP) (cap : Nat) (A B : Fit) (hn : xs.length ≤ 10) (w : World) (h : MatAt w M lv back (.slice o xs.length cap) A B mp) (hA : AtI w o xs) (hne : 0 < xs.length → ∀ k, inQ o k → k ≠ M) :
    Calls Tryz.prog 131 #[mV M] w (MatQ w M lv back (.slice o xs.length cap) A (overF xs B xs.length) mp) := by
  obtain ⟨n, hnn⟩ : ∃ n, xs.length = n := ⟨_, rfl⟩
  rw [hnn] at hn h ⊢
  have HN := Lib.hid hnn
  have HA := Lib.hid hA
  have HNE := Lib.hid hne
  have HH := Lib.hid h
  have c2 := h.head.2.2.1
  have hl := h.lt
  obtain ⟨P, hP⟩ : ∃ P, MatQ w M lv back (.slice o n cap) A (overF xs B n) mp = P := ⟨_, rfl⟩
  have HP := Lib.hid hP
  rw [hP]
  clear hnn hA hne h hP
  go_enter Tryz.func131, Tryz.ntmps131
  go_wp2_with fail
  go_loopg [9] n (fun k v wr => ∃ (j : Nat), v = .int .i64 (j : Nat) ∧ j ≤ n ∧ k = n - j ∧ Hid (MatAt wr M lv back (.slice o n cap) A (overF xs B j) mp) ∧ Hid (Moves (fun k => k = M) w wr))
  case atStart => exact ⟨0, rfl, Nat.zero_le _, rfl, HH, Lib.hid (Moves.refl _ _)⟩
  case round =>
    obtain ⟨j, rfl, hj, rfl, HM, HV⟩ := hrel
    clear c2 hl
    rcases Nat.lt_or_ge j n with hlt | hge
    · obtain ⟨x, hx⟩ : ∃ x, xs[j]? = some x := ⟨_, List.getElem?_eq_getElem (by rw [HN.out]; exact hlt)⟩
      have hpos : 0 < xs.length := by rw [HN.out]; omega
      obtain ⟨g, off, rfl, hc⟩ := (HA.out.moves HV.out fun h0 k hk => HNE.out h0 k hk) hpos
      obtain ⟨k0, k1⟩ := hc j x hx
      have hg := World.block_lt_of_cell? wr _ k0
      have hMl := HM.out.lt
      have b0 := HM.out.behindN (i := j) (by omega)
      have b1 := HM.out.behindN (i := j + 1) (by omega)
      have f1 := HM.out.frozen (24 + (j + 1))
      have HO := Lib.hid (overF_more (B := B) hx)
      have HW2 := Lib.hid (moves_allocM HV.out (itO x))
      have HM2 := Lib.hid (HM.out.below ((Below.refl _ _).alloc (Nat.le_refl _) (itO x)))
      have hj10 : j < 10 := by omega
      obtain ⟨a, hw⟩ := x
      simp only at k0 k1
      cases hb : (overF xs B j).1 j with
      | false =>
        rw [hb] at b0
        have e : overF xs B (j + 1) = overF xs B j := by rw [HO.out, if_neg (fun h => by rw [hb] at h; cases h.1)]
        have HE := Lib.hid e
        clear hb e hc hx hpos HO
        go_wp2
        go_roundg (n - (j + 1))
        case measure => omega
        case rel => exact ⟨j + 1, by simp, by omega, rfl, by rw [HE.out]; exact HM2, HW2⟩
      | true =>
        rw [hb] at b0
        by_cases h0 : hw = 0
        · subst h0
          have e : overF xs B (j + 1) = overF xs B j := by rw [HO.out, if_neg (fun h => h.2 rfl)]
          have HE := Lib.hid e
          clear hb e hc hx hpos HO
          go_wp2
          go_roundg (n - (j + 1))
          case measure => omega
          case rel => exact ⟨j + 1, by simp, by omega, rfl, by rw [HE.out]; exact HM2, HW2⟩
        · have e : overF xs B (j + 1) = setN (overF xs B j) (j + 1) true := by rw [HO.out, if_pos ⟨hb, h0⟩]
          have HE := Lib.hid e
          have HM3 := Lib.hid ((HM.out.setN (i := j + 1) (by omega) true).below ((Below.refl _ _).alloc (Nat.le_refl _) (itO (a, hw))))
          have HV3 := Lib.hid (moves_allocM (HV.out.trans (Moves.setCell (S := fun k => k = M) (a := ⟨M, 24 + (j + 1), none⟩) (v := .bool true) rfl)) (itO (a, hw)))
          clear hb e hc hx hpos HO
          go_wp2
          go_roundg (n - (j + 1))
          case measure => omega
          case rel => exact ⟨j + 1, by simp, by omega, rfl, by rw [HE.out]; exact HM3, HV3⟩
    · obtain rfl : j = n := by omega
      go_wp2
      go_end0
      rw [← HP.out]
      exact ⟨⟨_, rfl⟩, HM.out, HV.out⟩
end Go.Proofs.YtnmhdcbpbaanoaaGreatDoor
