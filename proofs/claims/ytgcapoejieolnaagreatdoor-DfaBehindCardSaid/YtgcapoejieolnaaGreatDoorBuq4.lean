/- Shaken by bunq.py. -/
import Derived.Test.YtgcapoejieolnaaGreatDoorBuq2
import Derived.Test.YtgcapoejieolnaaGreatDoorBuq3
import Derived.Test.YtgcapoejieolnaaGreatDoorBuq1
import Derived.Test.YtgcapoejieolnaaGreatDoorProg
import Derived.Laws.Cover2
import Derived.Laws.FloatArith
import Derived.IntWalk
import Derived.Sort.QuietIn
import Derived.OwnWalkIn
import Derived.RangeFuncCalls
namespace Go.Proofs.YtgcapoejieolnaaGreatDoor
open Go.RowKit Go.Shelf
attribute [local go_sem] Oper.semAt_some

def SeqOfT {α : Type} (P : Program) (n : Nat) (f : Nat) (lb : Array Value) (encs : α → Array Value) (Ow Dep : Nat → Prop) (all : List α) (St : List α → α → World → Prop) (w : World) : Prop :=
  ∀ (W : World) (l : Nat) (J Jx : (Nat → Prop) → List α → World → Prop), Moves (fun _ => False) w W →
    (∀ X X' xs A B, J X xs A → Moves X A B → (∀ k, X' k → (X k ∨ A.heap.size ≤ k) ∧ k < B.heap.size) → J X' xs B) →
    (∀ X X' xs A B, Jx X xs A → Moves X A B → (∀ k, X' k → (X k ∨ A.heap.size ≤ k) ∧ k < B.heap.size) → Jx X' xs B) →
    (∀ X xs x A, xs ++ [x] <+: all → J X xs A → St xs x A → YieldAt Fence.wide (n - 1) P l (encs x) A fun e A' => (e = .returned (.bool true) ∧ J X (xs ++ [x]) A' ∧ Moves (fun k => ¬ X k ∧ ¬ Dep k) A A') ∨ (e = .returned (.bool false) ∧ Jx X (xs ++ [x]) A' ∧ Moves (fun k => ¬ X k ∧ ¬ Dep k) A A')) →
    J Ow [] W →
    CallsIn Fence.wide n P f (#[.func (.yield l) #[] #[]] ++ lb) W fun e W' => (∃ v, e = .returned v) ∧ ∃ X, (J X all W' ∨ ∃ xs, xs <+: all ∧ Jx X xs W')

set_option maxHeartbeats 1000000 in
theorem wpIn_seqT {α : Type} {P : Program} {n : Nat} {f : Nat} {lb : Array Value} {encs : α → Array Value} {Ow Dep : Nat → Prop} {all : List α} {St : List α → α → World → Prop} {g : Operand} {ps : Array Tmp} {assign body : Code} {Q : Exit → Act → World → Prop} {a : Act} {w : World} (hn : 4 ≤ n)
    (hg : a.eval g = .func (.func f) #[] lb) (henter : ∀ args w, (callFunc f args).run P w = .ok (.enter f args) w) (hps : ∀ x, (encs x).size = ps.size) (hs : SeqOfT P (n - 1) f lb encs Ow Dep all St w)
    (hOw : ∀ k, Ow k → k < w.heap.size) (hDep : ∀ k, Dep k → k < w.heap.size)
    (I : (Nat → Prop) → List α → World → Prop) (Ix : Code → (Nat → Prop) → List α → World → Prop)
    (hI : ∀ X X' xs A B, I X xs A → Moves X A B → (∀ k, X' k → (X k ∨ A.heap.size ≤ k) ∧ k < B.heap.size) → I X' xs B)
    (hIx : ∀ c X X' xs A B, Ix c X xs A → Moves X A B → (∀ k, X' k → (X k ∨ A.heap.size ≤ k) ∧ k < B.heap.size) → Ix c X' xs B) (h0 : I Ow [] w)
    (a₁ : Nat → α → Act) (G : World → α → World → Prop) (hG : ∀ A x B, G A x B → Moves (fun _ => False) A B)
    (hassign : ∀ (l : Nat) (x : α) (A : World) (K : Act → World → Prop), (∀ B, G A x B → K (a₁ A.heap.size x) B) →
      assign.wpIn (Fence.wide.inRound l) (n - 1 - 1) P (Exit.then K (fun _ _ _ => False)) { tmps := (ps.zip (encs x)).foldl (fun t (p, v) => t.setIfInBounds p v) a.tmps, defers := [] } A)
    (hbody : ∀ (l : Nat) (X : Nat → Prop) (pre : List α) (x : α) (A B W : World), w.heap.size + 2 ≤ A.heap.size → pre ++ [x] <+: all → G A x B → Moves (fun k => k = w.heap.size + 1) B W → X w.heap.size → X (w.heap.size + 1) → (∀ k, X k → k < A.heap.size) → I X pre W → St pre x A →
      body.wpIn (Fence.wide.inRound l) (n - 1 - 1) P (seqEndX Dep X I Ix (pre ++ [x]) W) (a₁ A.heap.size x) W)
    (hdone : ∀ (X : Nat → Prop) (D : Nat) (W : World), w.heap.size ≤ D → X D → I X all W → (∀ k, X k → k < W.heap.size) → W.heap[D]? = some (.deferred (some [])) → Q .normal { a with defers := { target := .collected D, args := #[] } :: a.defers } W)
    (hstop : ∀ (X : Nat → Prop) (D : Nat) (c : Code) (pre : List α) (W : World), w.heap.size ≤ D → X D → pre <+: all → Ix c X pre W → (∀ k, X k → k < W.heap.size) → W.heap[D]? = some (.deferred (some [])) →
      c.wpIn Fence.wide n P Q { a with defers := { target := .collected D, args := #[] } :: a.defers } W) :
    (Code.rangeFunc g ps assign body).wpIn Fence.wide n P Q a w := by
  refine wpIn_rangeFunc ?_
  intro fn hfn
  obtain ⟨rec, hrec⟩ : ∃ rec : LoopState → Option Code → Loop, rec = fun st pe => { state := st, pending := pe, fn, tmps := a.tmps, params := ps, assign, body, defers := w.heap.size } := ⟨_, rfl⟩
  obtain ⟨W1, hW1⟩ : ∃ W1, (w.alloc (.deferred (some []))).alloc (.loop (rec .ready none)) = W1 := ⟨_, rfl⟩
  have hL1 : W1.heap[w.heap.size + 1]? = some (.loop (rec .ready none)) := by
    rw [← hW1]; have := World.alloc_heap_new (w.alloc (.deferred (some []))) (.loop (rec .ready none)); rwa [World.size_alloc] at this
  have hK1 : W1.heap[w.heap.size]? = some (.deferred (some [])) := by
    rw [← hW1]; exact (Below.heap_alloc _ _ _ (by simp)).trans (World.alloc_heap_new w _)
  have hb1 : Below w.heap.size w W1 := by
    rw [← hW1]; exact ((Below.refl _ w).alloc (Nat.le_refl _) _).alloc (by simp) _
  have hz1 : W1.heap.size = w.heap.size + 2 := by rw [← hW1]; simp
  have hOl : ∀ k, w.heap.size ≤ k → ¬ Ow k := fun k hk h => by have := hOw k h; omega
  have hI1 : I (BookX Ow w.heap.size) [] W1 := hI _ _ _ _ _ h0 (Moves.of_below hb1) (by
    rintro k (h | h)
    · have := hOw _ h; exact ⟨.inl h, by omega⟩
    · exact ⟨.inr (by omega), by omega⟩)
  have keep : ∀ {S : Nat → Prop} {A B : World} {k : Nat} {o : Obj}, Moves S A B → ¬ S k → A.heap[k]? = some o → B.heap[k]? = some o := fun hm hk h => (hm.block _ (Array.getElem?_eq_some_iff.1 h).1 hk).trans h
  have put : ∀ {X : Nat → Prop} {A : World} {k : Nat} {o : Obj}, k = w.heap.size ∨ k = w.heap.size + 1 → Moves (BookX X w.heap.size) A (A.putObj k o) := fun hk => Moves.putObj (.inr hk)
  refine ⟨w.heap.size + 1, [{ target := .collected w.heap.size, args := #[] }], W1, { target := .fn (.func f) lb, args := #[.func (.yield (w.heap.size + 1)) #[] #[]] }, W1, f,
    #[.func (.yield (w.heap.size + 1)) #[] #[]] ++ lb, W1, ?_, ?_, ?_, ?_, fun _ => by omega, ?_⟩
  · rw [← hW1, hrec]; exact run_enterLoop_outer _ _ _ _ _
  · simp only [resolve, hg]
    simp [go_sem]
  · intro f' hf'; exact trivial
  · simp [invoke, go_sem, henter]
  · refine (hs W1 (w.heap.size + 1)
      (fun X pre W => I (BookX X w.heap.size) pre W ∧ W.heap[w.heap.size + 1]? = some (.loop (rec .ready none)) ∧ W.heap[w.heap.size]? = some (.deferred (some [])) ∧ ¬ X w.heap.size ∧ ¬ X (w.heap.size + 1) ∧ ∀ k, X k → k < W.heap.size)
      (fun X pre W => ∃ c, Ix c (BookX X w.heap.size) pre W ∧ W.heap[w.heap.size + 1]? = some (.loop (rec .done (some c))) ∧ W.heap[w.heap.size]? = some (.deferred (some [])) ∧ ¬ X w.heap.size ∧ ¬ X (w.heap.size + 1) ∧ ∀ k, X k → k < W.heap.size)
      (Moves.of_below hb1) ?_ ?_ ?_ ⟨hI1, hL1, hK1, hOl _ (Nat.le_refl _), hOl _ (by omega), fun k h => by have := hOw k h; omega⟩).mono ?_
    · rintro X X' xs A B ⟨hi, hl, hk, n1, n2, hX⟩ hm hX'
      have hlA := (Array.getElem?_eq_some_iff.1 hl).1
      refine ⟨hI _ _ _ _ _ hi (hm.mono fun k h => .inl h) ?_, keep hm n2 hl, keep hm n1 hk, fun h => ?_, fun h => ?_, fun k h => (hX' k h).2⟩
      · have := hm.size
        rintro k (h | h)
        · exact ⟨(hX' k h).1.imp .inl id, (hX' k h).2⟩
        · exact ⟨.inl (.inr h), by omega⟩
      · rcases (hX' _ h).1 with h | h
        · exact n1 h
        · omega
      · rcases (hX' _ h).1 with h | h
        · exact n2 h
        · omega
    · rintro X X' xs A B ⟨c, hi, hl, hk, n1, n2, hX⟩ hm hX'
      have hlA := (Array.getElem?_eq_some_iff.1 hl).1
      refine ⟨c, hIx _ _ _ _ _ _ hi (hm.mono fun k h => .inl h) ?_, keep hm n2 hl, keep hm n1 hk, fun h => ?_, fun h => ?_, fun k h => (hX' k h).2⟩
      · have := hm.size
        rintro k (h | h)
        · exact ⟨(hX' k h).1.imp .inl id, (hX' k h).2⟩
        · exact ⟨.inl (.inr h), by omega⟩
      · rcases (hX' _ h).1 with h | h
        · exact n1 h
        · omega
      · rcases (hX' _ h).1 with h | h
        · exact n2 h
        · omega
    · rintro X pre x W hpx ⟨hi, hl, hk, n1, n2, hX⟩ hst
      have hlt1 : w.heap.size + 1 < W.heap.size := (Array.getElem?_eq_some_iff.1 hl).1
      have hy := run_yield (P := P) (args := encs x) hl (by rw [hrec]; exact hps x)
      rw [hrec] at hy
      refine ⟨fn, _, assign, body, hy, roundIn_of_wpIn hfn (hassign _ x W _ fun B hGB => ?_)⟩
      have hGm := hG _ _ _ hGB
      have hlB : B.heap[w.heap.size + 1]? = some (.loop (rec .ready none)) := keep hGm id hl
      have hkB : B.heap[w.heap.size]? = some (.deferred (some [])) := keep hGm id hk
      have hltB : w.heap.size + 1 < B.heap.size := (Array.getElem?_eq_some_iff.1 hlB).1
      refine ⟨_, run_beginRound hlB (by rw [hrec]), ?_⟩
      have hl2 : (B.putObj (w.heap.size + 1) (.loop { rec .ready none with state := .busy })).heap[w.heap.size + 1]? = some (.loop { rec .ready none with state := .busy }) := World.putObj_heap_same hltB
      have hk2 : (B.putObj (w.heap.size + 1) (.loop { rec .ready none with state := .busy })).heap[w.heap.size]? = some (.deferred (some [])) := (World.putObj_heap_other (by omega)).trans hkB
      have hw2 : Moves (fun k => k = w.heap.size + 1) W (B.putObj (w.heap.size + 1) (.loop { rec .ready none with state := .busy })) := (hGm.mono fun k h => h.elim).trans (Moves.putObj rfl)
      have hXb : ∀ k, BookX X w.heap.size k → k < W.heap.size := by
        rintro k (h | h)
        · exact hX k h
        · omega
      have hXs : ∀ {B' : World}, W.heap.size ≤ B'.heap.size → ∀ k, BookX X w.heap.size k → (BookX X w.heap.size k ∨ W.heap.size ≤ k) ∧ k < B'.heap.size := fun hz k h => ⟨.inl h, by have := hXb k h; omega⟩
      have hIB := hI _ _ _ _ _ hi (hw2.mono fun k h => .inr (.inr h)) (hXs hw2.size)
      refine wpIn_mono (hbody _ _ pre x W B _ (by omega) hpx hGB (Moves.putObj rfl) (.inr (.inl rfl)) (.inr (.inr rfl)) hXb hIB hst) ?_
      have fin : ∀ (jump : Option Code) (W3 : World), Moves (fun k => ¬ BookX X w.heap.size k ∧ ¬ Dep k) (B.putObj (w.heap.size + 1) (.loop { rec .ready none with state := .busy })) W3 →
          (Instr.endRound (w.heap.size + 1) jump).run P W3 = .ok (.bool jump.isNone) (W3.putObj (w.heap.size + 1) (.loop (rec (if jump.isNone then .ready else .done) jump))) ∧
          (W3.putObj (w.heap.size + 1) (.loop (rec (if jump.isNone then .ready else .done) jump))).heap[w.heap.size + 1]? = some (.loop (rec (if jump.isNone then .ready else .done) jump)) ∧
          (W3.putObj (w.heap.size + 1) (.loop (rec (if jump.isNone then .ready else .done) jump))).heap[w.heap.size]? = some (.deferred (some [])) ∧ W.heap.size ≤ W3.heap.size := fun jump W3 hk3 => by
        have hl3 := keep hk3 (fun h => h.1 (.inr (.inr rfl))) hl2
        have hz3 := hk3.size
        have hz2 := hw2.size
        have := run_endRound (P := P) jump hl3
        rw [hrec] at this ⊢
        exact ⟨this, World.putObj_heap_same (Array.getElem?_eq_some_iff.1 hl3).1, (World.putObj_heap_other (by omega)).trans (keep hk3 (fun h => h.1 (.inr (.inl rfl))) hk2), by omega⟩
      have hb2 : ∀ k, k = w.heap.size + 1 → ¬ X k ∧ ¬ Dep k := by
        rintro k rfl
        exact ⟨n2, fun h => by have := hDep _ h; omega⟩
      have all : ∀ {W3 : World} {o : Obj}, Moves (fun k => ¬ BookX X w.heap.size k ∧ ¬ Dep k) (B.putObj (w.heap.size + 1) (.loop { rec .ready none with state := .busy })) W3 → Moves (fun k => ¬ X k ∧ ¬ Dep k) W (W3.putObj (w.heap.size + 1) o) := fun hk3 => ((hw2.mono hb2).trans (hk3.mono fun k h => ⟨fun hx => h.1 (.inl hx), h.2⟩)).trans (Moves.putObj (hb2 _ rfl))
      have hXp : ∀ {W3 : World} {o : Obj}, W.heap.size ≤ W3.heap.size → ∀ k, BookX X w.heap.size k → (BookX X w.heap.size k ∨ W3.heap.size ≤ k) ∧ k < (W3.putObj (w.heap.size + 1) o).heap.size := fun hz k h => ⟨.inl h, by rw [World.putObj_size]; have := hXb k h; omega⟩
      have hXq : ∀ {W3 : World} {o : Obj}, W.heap.size ≤ W3.heap.size → ∀ k, X k → k < (W3.putObj (w.heap.size + 1) o).heap.size := fun hz k h => by rw [World.putObj_size]; have := hX k h; omega
      rintro e a3 W3 hp
      cases e with
      | normal =>
        obtain ⟨hk3, hi3⟩ := hp
        obtain ⟨hr, hl4, hk4, hz⟩ := fin none W3 hk3
        exact ⟨_, _, hr, .inl ⟨rfl, ⟨hI _ _ _ _ _ hi3 (put (.inr rfl)) (hXp hz), hl4, hk4, n1, n2, hXq hz⟩, all hk3⟩⟩
      | ret =>
        obtain ⟨hk3, hi3⟩ := hp
        obtain ⟨hr, hl4, hk4, hz⟩ := fin (some .ret) W3 hk3
        exact ⟨_, _, hr, .inr ⟨rfl, ⟨.ret, hIx _ _ _ _ _ _ hi3 (put (.inr rfl)) (hXp hz), hl4, hk4, n1, n2, hXq hz⟩, all hk3⟩⟩
      | exit id =>
        obtain ⟨hk3, hi3⟩ := hp
        obtain ⟨hr, hl4, hk4, hz⟩ := fin (some (.exit id)) W3 hk3
        exact ⟨_, _, hr, .inr ⟨rfl, ⟨.exit id, hIx _ _ _ _ _ _ hi3 (put (.inr rfl)) (hXp hz), hl4, hk4, n1, n2, hXq hz⟩, all hk3⟩⟩
      | goto t =>
        obtain ⟨hk3, hi3⟩ := hp
        obtain ⟨hr, hl4, hk4, hz⟩ := fin (some (.goto t)) W3 hk3
        exact ⟨_, _, hr, .inr ⟨rfl, ⟨.goto t, hIx _ _ _ _ _ _ hi3 (put (.inr rfl)) (hXp hz), hl4, hk4, n1, n2, hXq hz⟩, all hk3⟩⟩
      | panic ch => exact hp.elim
      | outgrown => exact hp.elim
    · rintro e W2 ⟨⟨v, rfl⟩, X, (⟨hi, hl, hk, n1, n2, hX⟩ | ⟨pre, hSp, c, hi, hl, hk, n1, n2, hX⟩)⟩
      · have hlt1 : w.heap.size + 1 < W2.heap.size := (Array.getElem?_eq_some_iff.1 hl).1
        have hXb : ∀ {o : Obj} k, BookX X w.heap.size k → k < (W2.putObj (w.heap.size + 1) o).heap.size := by
          rintro o k (h | h) <;> rw [World.putObj_size]
          · exact hX k h
          · omega
        exact ⟨none, _, by have := run_endLoop (P := P) hl (by rw [hrec]; simp); rw [hrec] at this; exact this, hdone (BookX X w.heap.size) _ _ (Nat.le_refl _) (.inr (.inl rfl)) (hI _ _ _ _ _ hi (put (.inr rfl)) (fun k h => ⟨.inl h, hXb k h⟩)) hXb ((World.putObj_heap_other (by omega)).trans hk)⟩
      · have hlt1 : w.heap.size + 1 < W2.heap.size := (Array.getElem?_eq_some_iff.1 hl).1
        have hXb : ∀ {o : Obj} k, BookX X w.heap.size k → k < (W2.putObj (w.heap.size + 1) o).heap.size := by
          rintro o k (h | h) <;> rw [World.putObj_size]
          · exact hX k h
          · omega
        exact ⟨some c, _, by have := run_endLoop (P := P) hl (by rw [hrec]; simp); rw [hrec] at this; exact this, hstop (BookX X w.heap.size) _ c pre _ (Nat.le_refl _) (.inr (.inl rfl)) hSp (hIx _ _ _ _ _ _ hi (put (.inr rfl)) (fun k h => ⟨.inl h, hXb k h⟩)) hXb ((World.putObj_heap_other (by omega)).trans hk)⟩
end Go.Proofs.YtgcapoejieolnaaGreatDoor
namespace Go.Proofs.YtgcapoejieolnaaGreatDoor
open Go.RowKit Go.Shelf Go.Maps
attribute [local go_sem] Oper.semAt_some

abbrev encPQ (k : Nat) : Array Value := #[.int .i64 (k : Nat)]
theorem roundIn_inQ {m : Nat} {P : Program} {l l2 : Nat} {f : FuncId} {tmps : Array Value} {assign body : Code} {w : World} {R : Ending → World → Prop}
    (h : RoundIn Fence.wide m P l f tmps assign body w R) : RoundIn (Fence.wide.inRound l2) m P l f tmps assign body w R := h
abbrev DepP (pb b : Nat) (o lo : Option Addr) (xs : List ItemP) (l : List Int) (k : Nat) : Prop := k = pb ∨ k = b ∨ (0 < xs.length ∧ inQ o k) ∨ (0 < l.length ∧ inQ lo k)
structure PlDep (A : World) (pb b M : Nat) (o lo : Option Addr) (xs : List ItemP) (l : List Int) : Prop where
  box : A.heap[pb]? = some (.cells #[mV M] 84 (0, 0))
  its : AtI A o xs
  nums : NumsAt A lo l
  fit : FitMap A b M
theorem PlDep.moves {A B : World} {pb b M : Nat} {o lo : Option Addr} {xs : List ItemP} {l : List Int} {S : Nat → Prop} (h : PlDep A pb b M o lo xs l) (hm : Moves S A B) (hs : ∀ k, DepP pb b o lo xs l k → ¬ S k) : PlDep B pb b M o lo xs l :=
  ⟨row_keep h.box hm (hs _ (.inl rfl)), h.its.moves hm fun h0 k hk => hs k (.inr (.inr (.inl ⟨h0, hk⟩))), h.nums.moves hm fun h0 k hk => hs k (.inr (.inr (.inr ⟨h0, hk⟩))), h.fit.moves hm (hs _ (.inr (.inl rfl)))⟩
theorem PlDep.lt {A : World} {pb b M : Nat} {o lo : Option Addr} {xs : List ItemP} {l : List Int} (h : PlDep A pb b M o lo xs l) {k : Nat} (hk : DepP pb b o lo xs l k) : k < A.heap.size := by
  rcases hk with rfl | rfl | ⟨h0, hk⟩ | ⟨h0, hk⟩
  · exact (Array.getElem?_eq_some_iff.1 h.box).1
  · exact World.ownsMap.lt h.fit
  · exact h.its.lt h0 hk
  · exact h.nums.ltQ h0 hk
def StP (M b : Nat) (lv iv : Value) (back : Bool) (xs : List ItemP) (T : List Int) (k : Nat) (A : World) : Prop := ∃ A0, MatAt A M lv back iv A0 (stF xs T k) (.map (some b))
theorem range_prefix {j n : Nat} (h : j ≤ n) : List.range j <+: List.range n := by
  obtain ⟨k, rfl⟩ := Nat.exists_eq_add_of_le h
  rw [List.range_add]
  exact List.prefix_append _ _
theorem range_more (j : Nat) : List.range j ++ [j] = List.range (j + 1) := List.range_succ.symm
set_option maxRecDepth 100000 in
set_option maxHeartbeats 4000000 in
theorem seqPlaces {pb b M cap lcap : Nat} {o lo : Option Addr} {back : Bool} {xs : List ItemP} {l : List Int} {A0 B0 : Fit} {w : World} (hn : xs.length ≤ 10) (hw : howP xs) (hl : l.length ≤ 1000000) (hD : PlDep w pb b M o lo xs l) (hM : ¬ DepP pb b o lo xs l M)
    (h : MatAt w M (.slice lo l.length lcap) back (.slice o xs.length cap) A0 B0 (.map (some b))) :
    SeqOfT Tryz.prog 5 125 #[.pointer (some ⟨pb, 0, none⟩)] encPQ (fun k => k = M) (DepP pb b o lo xs l) (List.range (l.length + 1)) (fun _ k => StP M b (.slice lo l.length lcap) (.slice o xs.length cap) back xs (listN back l) k) w := by
  intro W lp J Jx hm hJ hJx hY h0
  have h1 : 1 ≤ 5 := by omega
  obtain ⟨T, hT⟩ : ∃ T, listN back l = T := ⟨_, rfl⟩
  have hTl : T.length = l.length := by rw [← hT]; exact listN_length back l
  rw [hT] at hY
  have hD0 := hD.moves hm (fun _ _ => id)
  have hm0 : MatAt W M (.slice lo l.length lcap) back (.slice o xs.length cap) A0 B0 (.map (some b)) := h.keep hm id
  have hbM : b ≠ M := fun e => hM (.inr (.inl e.symm))
  have hneI : 0 < xs.length → ∀ k, inQ o k → k ≠ M := fun h0 k hk e => hM (.inr (.inr (.inl ⟨h0, by rw [← e]; exact hk⟩)))
  have hneL : 0 < l.length → ∀ k, inQ lo k → k ≠ M := fun h0 k hk e => hM (.inr (.inr (.inr ⟨h0, by rw [← e]; exact hk⟩)))
  refine callsIn_of_wp_marks Tryz.func125 rfl trivial ?_ rfl
  simp only [Tryz.ntmps125, List.size_toArray, List.length_cons, List.length_nil, Nat.reduceAdd, Nat.reduceSub, Array.replicate_succ, Array.replicate_zero, List.push_toArray, List.append_toArray, List.nil_append, List.cons_append]
  have HJ := Lib.hid hJ
  have HJx := Lib.hid hJx
  have HY := Lib.hid hY
  have H0 := Lib.hid h0
  have HM := Lib.hid hM
  have HL := Lib.hid hl
  have HTL := Lib.hid hTl
  have HT := Lib.hid hT
  have HN := Lib.hid hn
  have HW := Lib.hid hw
  have HBM := Lib.hid hbM
  have HNI := Lib.hid hneI
  have HNL := Lib.hid hneL
  obtain ⟨W0, hW0⟩ : ∃ W0, (W.alloc (.cells #[.func (.yield lp) #[] #[]] 81)).alloc (.cells #[.int .i64 0] 3) = W0 := ⟨_, rfl⟩
  have bW0 : Below W.heap.size W W0 := by rw [← hW0]; exact ((Below.refl _ _).alloc (Nat.le_refl _) _).alloc (by simp) _
  have zW0 : W0.heap.size = W.heap.size + 2 := by rw [← hW0]; simp
  have Y0 : Boxed W0 W.heap.size 81 (.func (.yield lp) #[] #[]) := by rw [← hW0]; exact (Boxed.new _ _ _).alloc _
  have N0 : Boxed W0 (W.heap.size + 1) 3 (.int .i64 0) := by
    rw [← hW0]
    have := Boxed.new (W.alloc (.cells #[.func (.yield lp) #[] #[]] 81)) 3 (.int .i64 0)
    rwa [World.size_alloc] at this
  have D0 := hD0.moves (Moves.of_below (S := fun _ => False) bW0) (fun _ _ => id)
  have M0 := hm0.below bW0
  have hDlt : ∀ k, DepP pb b o lo xs l k → k < W.heap.size := fun k hk => hD0.lt hk
  have hMlt := hm0.lt
  have HB := Lib.hid (begin_any M (.slice lo l.length lcap) (.map (some b)) back o xs cap A0 B0 hn W0 M0 D0.its hneI)
  have pb0 : W.cell? ⟨pb, 0, none⟩ = some (mV M) := by rw [cell_of_row _ _ 0 _ _ _ hD0.box]; rfl
  have pbl : pb < W.heap.size := hDlt _ (.inl rfl)
  have HD0 := Lib.hid D0
  have HY0 := Lib.hid Y0
  have HN0 := Lib.hid N0
  have HBW := Lib.hid bW0
  have HZ := Lib.hid zW0
  have HDL := Lib.hid hDlt
  have HML := Lib.hid hMlt
  have HW0 := Lib.hid hW0
  clear hJ hJx hY hm hD hM h h0 hl hTl hT hn hw hbM hneI hneL hD0 hm0 bW0 zW0 Y0 N0 D0 M0 hDlt hMlt hW0
  gi_wp2_with fail
  rw [HW0.out]
  refine ⟨trivial, (callsIn_wide.2 HB.out).mono ?_⟩
  rintro e w1 ⟨⟨vb, rfl⟩, M1, mv1⟩
  have mz1 := mv1.size
  have hDM : ∀ k, DepP pb b o lo xs l k → ¬ k = M := fun k hk e => HM.out (by rw [← e]; exact hk)
  have D1 := HD0.out.moves mv1 hDM
  have Y1 : Boxed w1 W.heap.size 81 (.func (.yield lp) #[] #[]) := row_keep HY0.out mv1 (by have := HML.out; omega)
  have N1 : Boxed w1 (W.heap.size + 1) 3 (.int .i64 0) := row_keep HN0.out mv1 (by have := HML.out; omega)
  have pb1 : w1.cell? ⟨pb, 0, none⟩ = some (mV M) := by rw [cell_of_row _ _ 0 _ _ _ D1.box]; rfl
  obtain ⟨q0, q1, _, _⟩ := M1.head
  have mW1 : Moves (fun k => k = M) W w1 := (Moves.of_below HBW.out).trans mv1
  obtain ⟨w2, hw2⟩ : ∃ w2, w1.alloc (.cells #[.slice lo l.length lcap, .bool back] 127) = w2 := ⟨_, rfl⟩
  have b2 : Below w1.heap.size w1 w2 := by rw [← hw2]; exact (Below.refl _ _).alloc (Nat.le_refl _) _
  have z2 : w2.heap.size = w1.heap.size + 1 := by rw [← hw2]; simp
  have C2 : w2.heap[w1.heap.size]? = some (.cells #[.slice lo l.length lcap, .bool back] 127 (0, 0)) := by rw [← hw2]; exact heap_alloc_new _ _
  have HEA := Lib.hid (numsEach_any (.slice lo l.length lcap) back w1)
  have D2 := D1.moves (Moves.of_below (S := fun _ => False) b2) (fun _ _ => id)
  have HD2 := Lib.hid D2
  have HY2 := Lib.hid (show Boxed w2 W.heap.size 81 (.func (.yield lp) #[] #[]) from row_below Y1 b2)
  have HN2 := Lib.hid (show Boxed w2 (W.heap.size + 1) 3 (.int .i64 0) from row_below N1 b2)
  have HM2 := Lib.hid (M1.below b2)
  have HMW2 := Lib.hid (mW1.trans (Moves.of_below b2))
  have HSEQ := Lib.hid (seqNums (cb := w1.heap.size) HL.out C2 D2.nums)
  have z1 : W.heap.size + 2 ≤ w1.heap.size := by have := HZ.out; omega
  have HDM := Lib.hid hDM
  rw [HT.out] at HSEQ
  clear D1 Y1 N1 mW1 b2 C2 D2 mv1 M1 hDM HB mz1
  gi_wp2_with fail
  refine ⟨trivial, (callsIn_wide.2 HEA.out).mono ?_⟩
  rintro e w2' ⟨rfl, hw2'⟩
  rw [hw2] at hw2'
  subst hw2'
  have HZ2 := Lib.hid z2
  clear hw2 pb0 pb1 q0 q1
  gi_wp2_with fail
  have HPRE := Lib.hid (show ∀ pre : List Int, pre <+: T → pre.length ≤ l.length from fun pre h => by have := h.length_le; rw [HTL.out] at this; exact this)
  refine wpIn_seqX (n := 5) (Ow := fun _ => False) (Dep := DepN w1.heap.size lo l) (encs := encZ) (all := T) (by omega) rfl (enters_of Tryz.func157 (by kernel_rfl) rfl) (fun x => rfl) HSEQ.out
    (fun k h => h.elim) (fun k h => by
      rcases h with rfl | ⟨h0, h⟩
      · have := HZ2.out; omega
      · exact HD2.out.nums.ltQ h0 h)
    (fun X pre A => ∃ Xo : Nat → Prop, J Xo (List.range pre.length) A ∧ (∀ k, X k ∨ (W.heap.size ≤ k ∧ k < w2.heap.size) ∨ k = M → Xo k) ∧ (∀ k, Xo k → k < A.heap.size) ∧ Boxed A W.heap.size 81 (.func (.yield lp) #[] #[]) ∧ Boxed A (W.heap.size + 1) 3 (.int .i64 (pre.length : Nat)) ∧ (∀ k, X k → w2.heap.size ≤ k) ∧ PlDep A pb b M o lo xs l ∧ StP M b (.slice lo l.length lcap) (.slice o xs.length cap) back xs T pre.length A)
    (fun c X pre A => c = .ret ∧ ∃ Xo : Nat → Prop, Jx Xo (List.range pre.length) A ∧ (∀ k, X k → Xo k) ∧ (∀ k, Xo k → k < A.heap.size)) ?hI ?hIx ?h0
    (fun _ c => { tmps := #[.func (.yield lp) #[] #[], .pointer (some ⟨pb, 0, none⟩), .pointer (some ⟨W.heap.size, 0, none⟩), .pointer (some ⟨W.heap.size + 1, 0, none⟩), .int .i64 c, mV M, vb, mV M, .pointer (some ⟨M, 0, none⟩), .pointer (some ⟨M, 0, none⟩), .agg #[.slice lo l.length lcap, .bool back], .func (.func 157) #[] #[.pointer (some ⟨w1.heap.size, 0, none⟩)], .int .i64 c, undef, undef, undef, undef, undef, undef, undef, undef, undef, undef, undef, undef], defers := [] })
    (fun A _ B => A = B) (fun A x B h => by rw [h]; exact Moves.refl _ _) ?assign ?body ?done ?stop
  case hI =>
    rintro X X' ys A C ⟨Xo, hj, hsub, hlt, hy, hn, hge, hd, hs⟩ hm hX'
    have hz := hm.size
    have hly := hy.lt
    have hln := hn.lt
    have hWz := HZ2.out
    have hX0 : ∀ k, k < w2.heap.size → ¬ X k := fun k hk h => by have := hge k h; omega
    refine ⟨fun k => k < C.heap.size ∧ (Xo k ∨ A.heap.size ≤ k), HJ.out _ _ _ _ _ hj (hm.mono fun k h => hsub k (.inl h)) (fun k h => ⟨h.2, h.1⟩), ?_, fun k h => h.1, row_keep hy hm (hX0 _ (by omega)), row_keep hn hm (hX0 _ (by omega)), ?_, hd.moves hm (fun k hk => hX0 k (by have := HDL.out k hk; omega)), ?_⟩
    · rintro k (h | h)
      · exact ⟨(hX' k h).2, (hX' k h).1.imp (fun h => hsub k (.inl h)) id⟩
      · have := hlt k (hsub k (.inr h))
        exact ⟨by omega, .inl (hsub k (.inr h))⟩
    · intro k h
      rcases (hX' k h).1 with h | h
      · exact hge k h
      · have := hlt (W.heap.size + 1) (hsub _ (.inr (.inl ⟨by omega, by omega⟩)))
        have := hlt w1.heap.size (hsub _ (.inr (.inl ⟨by omega, by omega⟩)))
        omega
    · obtain ⟨A1, hA1⟩ := hs
      exact ⟨A1, hA1.keep hm (hX0 _ (by have := HML.out; omega))⟩
  case hIx =>
    rintro c X X' ys A C ⟨rfl, Xo, hj, hsub, hlt⟩ hm hX'
    exact ⟨rfl, fun k => k < C.heap.size ∧ (Xo k ∨ A.heap.size ≤ k), HJx.out _ _ _ _ _ hj (hm.mono fun k h => hsub k h) (fun k h => ⟨h.2, h.1⟩), fun k h => ⟨(hX' k h).2, (hX' k h).1.imp (hsub k) id⟩, fun k h => h.1⟩
  case h0 =>
    have hz2 := HZ2.out
    have hml := HML.out
    refine ⟨fun k => k = M ∨ (W.heap.size ≤ k ∧ k < w2.heap.size), HJ.out _ _ _ _ _ H0.out HMW2.out (fun k h => ?_), ?_, ?_, HY2.out, HN2.out, fun k h => h.elim, HD2.out, A0, ?_⟩
    · rcases h with h | h
      · exact ⟨.inl h, by omega⟩
      · exact ⟨.inr h.1, h.2⟩
    · rintro k (h | h | h)
      · exact h.elim
      · exact .inr h
      · exact .inl h
    · rintro k (h | h)
      · omega
      · exact h.2
    · exact HM2.out
  case assign =>
    rintro l x A K hK
    gi_wp2
    rfl
  case body =>
    rintro l2 X pre x A A' W1 hA hpx hAB hm hXn hXn1 hXlt ⟨Xo, hj, hsub, hlt, hy, hn, hge, hd, A1, hmat⟩
    have hlen : pre.length + 1 ≤ l.length := by have := HPRE.out _ hpx; simpa using this
    have hx : T[pre.length]? = some x := by
      obtain ⟨r, hr⟩ := hpx
      rw [← hr, List.append_assoc]
      simp
    obtain ⟨m, hml⟩ : ∃ m, pre.length = m := ⟨_, rfl⟩
    have hml1 : (pre ++ [x]).length = m + 1 := by rw [List.length_append, hml]; rfl
    rw [hml] at hj hn hmat hlen hx
    have hml2 : m ≤ 1000000 := by have := HL.out; omega
    have cy := hy.cell
    have cn := hn.cell
    have hWz := HZ2.out
    have hMlt := HML.out
    have hXoM : Xo M := hsub _ (.inr (.inr rfl))
    have hXoY : Xo W.heap.size := hsub _ (.inr (.inl ⟨Nat.le_refl _, by omega⟩))
    have hXoN : Xo (W.heap.size + 1) := hsub _ (.inr (.inl ⟨by omega, by omega⟩))
    have hXoC : Xo w1.heap.size := hsub _ (.inr (.inl ⟨by omega, by omega⟩))
    have hst := stF_succ HW.out hx
    obtain ⟨fn, tmps, assign, body, hyy, hR⟩ := yieldAt_any 2 (HY.out Xo (List.range m) m W1 (by rw [range_more]; exact range_prefix (by omega)) hj ⟨A1, hmat⟩)
    replace hyy : (Instr.yield lp #[.int .i64 (m : Nat)]).run Tryz.prog W1 = .ok (.round lp fn tmps assign body) W1 := hyy
    have HR := Lib.hid (roundIn_inQ (l2 := l2) hR)
    have HML1 := Lib.hid hml1
    have HK : Hid (∀ W3, Moves (fun k => ¬ Xo k ∧ ¬ DepP pb b o lo xs l k) W1 W3 → Hid (PlDep W3 pb b M o lo xs l) ∧ Hid (MatAt W3 M (.slice lo l.length lcap) back (.slice o xs.length cap) A1 (stF xs T m) (.map (some b))) ∧ Hid (Boxed W3 W.heap.size 81 (.func (.yield lp) #[] #[])) ∧ Hid (Boxed W3 (W.heap.size + 1) 3 (.int .i64 (m : Nat))) ∧ Hid (Moves (fun k => ¬ X k ∧ ¬ DepN w1.heap.size lo l k) W1 W3) ∧ W1.heap.size ≤ W3.heap.size) := Lib.hid fun W3 h3 =>
      ⟨Lib.hid (hd.moves h3 (fun k hk h => h.2 hk)), Lib.hid (hmat.keep h3 (fun h => h.1 hXoM)), Lib.hid (row_keep hy h3 (fun h => h.1 hXoY)), Lib.hid (row_keep hn h3 (fun h => h.1 hXoN)), Lib.hid (h3.mono fun k e => ⟨fun h => e.1 (hsub k (.inl h)), fun h => by
        rcases h with rfl | h
        · exact e.1 hXoC
        · exact e.2 (.inr (.inr (.inr h)))⟩), h3.size⟩
    have HTA : Hid (∀ W3, PlDep W3 pb b M o lo xs l → MatAt W3 M (.slice lo l.length lcap) back (.slice o xs.length cap) A1 (stF xs T m) (.map (some b)) → Calls Tryz.prog 128 #[mV M, .int .i64 x] W3 (MatQ W3 M (.slice lo l.length lcap) back (.slice o xs.length cap) (stF xs T m) (stF xs T (m + 1)) (.map (some b)))) := Lib.hid fun W3 d3 m3 => by
      have := take_any M b (.slice lo l.length lcap) back o xs cap A1 (stF xs T m) x HN.out HW.out W3 m3 d3.its HNI.out d3.fit HBM.out
      rw [← hst] at this
      exact this
    have HSUB := Lib.hid hsub
    have HLT := Lib.hid hlt
    have HGE := Lib.hid hge
    have HX4 : Hid (Xo M ∧ Xo W.heap.size ∧ Xo (W.heap.size + 1) ∧ Xo w1.heap.size) := Lib.hid ⟨hXoM, hXoY, hXoN, hXoC⟩
    clear hR hj hsub hlt hge hd hmat hy hn hpx hm hXn hXn1 hXlt hst hx hml hml1 hXoM hXoY hXoN hXoC hWz hA hAB
    gi_wp2
    refine HR.out.mono ?_
    rintro e W3 (⟨rfl, hJ4, hk4⟩ | ⟨rfl, hJx4, hk4⟩)
    · obtain ⟨D3, M3, Y3, N3, V3, s3⟩ := HK.out W3 hk4
      have HT3 := Lib.hid (HTA.out W3 D3.out M3.out)
      have p3 : W3.cell? ⟨pb, 0, none⟩ = some (mV M) := by rw [cell_of_row _ _ 0 _ _ _ D3.out.box]; rfl
      have HJ4 := Lib.hid hJ4
      clear hk4 hJ4 cy cn
      gi_wp2_with fail
      refine ⟨trivial, CallsIn.inRound l2 ((callsIn_wide.2 HT3.out).mono ?_)⟩
      rintro e w4 ⟨⟨v4, rfl⟩, hm4, mv4⟩
      have hy4 : Boxed w4 W.heap.size 81 (.func (.yield lp) #[] #[]) := row_keep Y3.out mv4 (by omega)
      have hn4 : Boxed w4 (W.heap.size + 1) 3 (.int .i64 (m : Nat)) := row_keep N3.out mv4 (by omega)
      have hd4 := D3.out.moves mv4 HDM.out
      have mv5 : Moves (fun k => k = W.heap.size + 1) w4 (w4.setCell ⟨W.heap.size + 1, 0, none⟩ (.int .i64 ((m : Nat) + 1))) := Moves.setCell rfl
      have cn := hn4.cell
      have fn0 := hn4.frozen
      have hln := hn4.lt
      have hFIN : seqEndX (DepN w1.heap.size lo l) X (fun X pre A => ∃ Xo : Nat → Prop, J Xo (List.range pre.length) A ∧ (∀ k, X k ∨ (W.heap.size ≤ k ∧ k < w2.heap.size) ∨ k = M → Xo k) ∧ (∀ k, Xo k → k < A.heap.size) ∧ Boxed A W.heap.size 81 (.func (.yield lp) #[] #[]) ∧ Boxed A (W.heap.size + 1) 3 (.int .i64 (pre.length : Nat)) ∧ (∀ k, X k → w2.heap.size ≤ k) ∧ PlDep A pb b M o lo xs l ∧ StP M b (.slice lo l.length lcap) (.slice o xs.length cap) back xs T pre.length A)
          (fun c X pre A => c = .ret ∧ ∃ Xo : Nat → Prop, Jx Xo (List.range pre.length) A ∧ (∀ k, X k → Xo k) ∧ (∀ k, Xo k → k < A.heap.size)) (pre ++ [x]) W1 .normal ({ tmps := #[], defers := [] } : Act) (w4.setCell ⟨W.heap.size + 1, 0, none⟩ (.int .i64 ((m : Nat) + 1))) := by
        have hz4 := mv4.size
        have hz5 := mv5.size
        have hw2 := HZ2.out
        have hlt5 : ∀ k, Xo k → k < (w4.setCell ⟨W.heap.size + 1, 0, none⟩ (.int .i64 ((m : Nat) + 1))).heap.size := fun k h => by have := HLT.out k h; omega
        refine ⟨(V3.out.trans (mv4.mono fun k e => ?_)).trans (mv5.mono fun k e => ?_), Xo, ?_, HSUB.out, hlt5, row_keep hy4 mv5 (by omega), ?_, HGE.out, hd4.moves mv5 (fun k hk e => ?_), stF xs T m, ?_⟩
        · subst e
          refine ⟨fun h => by have := HGE.out _ h; omega, fun h => ?_⟩
          rcases h with h | ⟨h0, h⟩
          · omega
          · exact HNL.out h0 _ h rfl
        · subst e
          refine ⟨fun h => by have := HGE.out _ h; omega, fun h => ?_⟩
          rcases h with h | ⟨h0, h⟩
          · omega
          · have := HDL.out _ (.inr (.inr (.inr ⟨h0, h⟩))); omega
        · rw [HML1.out, ← range_more]
          exact HJ.out _ Xo _ _ _ HJ4.out ((mv4.mono fun k e => by rw [e]; exact HX4.out.1).trans (mv5.mono fun k e => by rw [e]; exact HX4.out.2.2.1)) (fun k h => ⟨.inl h, hlt5 k h⟩)
        · rw [HML1.out]
          exact hn4.set _
        · have := HDL.out _ hk; omega
        · rw [HML1.out]
          exact hm4.keep mv5 (by omega)
      have HF := Lib.hid hFIN
      clear hFIN hm4 mv4 mv5 hd4 hy4 hn4
      gi_wp2
      exact HF.out
    · obtain ⟨D3, M3, Y3, N3, V3, s3⟩ := HK.out W3 hk4
      have HJ4 := Lib.hid hJx4
      clear hk4 hJx4 cy cn
      gi_wp2
      refine ⟨V3.out, rfl, Xo, ?_, fun k h => HSUB.out k (.inl h), fun k h => ?_⟩
      · rw [HML1.out, ← range_more]; exact HJ4.out
      · have := HLT.out k h; omega
  case done =>
    rintro X D W1 hD hXD ⟨Xo, hj, hsub, hlt, hy, hn, hge, hd, A1, hmat⟩ hX hK
    obtain ⟨m, hml⟩ : ∃ m, T.length = m := ⟨_, rfl⟩
    rw [hml] at hj hn hmat
    have hm2 : m = l.length := by rw [← hml]; exact HTL.out
    have cy := hy.cell
    have cn := hn.cell
    have hXoD : Xo D := hsub _ (.inl hXD)
    obtain ⟨fn, tmps, assign, body, hyy, hR⟩ := HY.out Xo (List.range m) m W1 (by rw [range_more]; exact range_prefix (by omega)) hj ⟨A1, hmat⟩
    replace hyy : (Instr.yield lp #[.int .i64 (m : Nat)]).run Tryz.prog W1 = .ok (.round lp fn tmps assign body) W1 := hyy
    have HR := Lib.hid hR
    have HKK := Lib.hid hK
    have HLT := Lib.hid hlt
    have HXD := Lib.hid hXoD
    have HM2 := Lib.hid hm2
    clear hR hj hsub hlt hge hd hmat hy hn hml hXoD hK hX hm2
    gi_wp2
    refine HR.out.mono ?_
    rintro e W3 (⟨rfl, hJ4, hk4⟩ | ⟨rfl, hJx4, hk4⟩)
    · have hK3 := row_keep HKK.out hk4 (fun h => h.1 HXD.out)
      have hlt3 : ∀ k, Xo k → k < (W3.putObj D (.deferred none)).heap.size := fun k h => by have := HLT.out k h; have := hk4.size; rw [World.putObj_size]; omega
      have HJ4 := Lib.hid (HJ.out _ Xo _ _ _ hJ4 (Moves.putObj (w := W3) (o := .deferred none) HXD.out) (fun k h => ⟨.inl h, hlt3 k h⟩))
      clear hJ4 hk4 hlt3 cy cn
      gi_wp2
      refine ⟨by simp, .inl ⟨_, _, rfl, run_takeDeferred hK3, ?_⟩⟩
      refine ⟨_, results_none rfl _ _ _, ⟨_, rfl⟩, Xo, .inl ?_⟩
      have := HJ4.out
      rw [range_more, HM2.out] at this
      exact this
    · have hK3 := row_keep HKK.out hk4 (fun h => h.1 HXD.out)
      have hlt3 : ∀ k, Xo k → k < (W3.putObj D (.deferred none)).heap.size := fun k h => by have := HLT.out k h; have := hk4.size; rw [World.putObj_size]; omega
      have HJ4 := Lib.hid (HJx.out _ Xo _ _ _ hJx4 (Moves.putObj (w := W3) (o := .deferred none) HXD.out) (fun k h => ⟨.inl h, hlt3 k h⟩))
      clear hJx4 hk4 hlt3 cy cn
      gi_wp2
      refine ⟨by simp, .inl ⟨_, _, rfl, run_takeDeferred hK3, ?_⟩⟩
      refine ⟨_, results_none rfl _ _ _, ⟨_, rfl⟩, Xo, .inr ⟨_, ?_, HJ4.out⟩⟩
      rw [range_more, HM2.out]
      exact List.prefix_rfl
  case stop =>
    rintro X D c pre W1 hD hXD hpre ⟨rfl, Xo, hj, hsub, hlt⟩ hX hK
    have hj2 := HJx.out _ Xo _ _ _ hj (Moves.putObj (w := W1) (o := .deferred none) (hsub D hXD)) (fun k h => ⟨.inl h, by rw [World.putObj_size]; exact hlt k h⟩)
    have HJ2 := Lib.hid hj2
    have hpl := HPRE.out _ hpre
    clear hj hj2 hsub hlt hX
    gi_wp2
    refine ⟨by simp, .inl ⟨_, _, rfl, run_takeDeferred hK, ?_⟩⟩
    exact ⟨_, results_none rfl _ _ _, ⟨_, rfl⟩, Xo, .inr ⟨_, range_prefix (by omega), HJ2.out⟩⟩
end Go.Proofs.YtgcapoejieolnaaGreatDoor
namespace Go.Proofs.YtgcapoejieolnaaGreatDoor

def fitsG (whole : Bool) (xs : List ItemP) (T : List Int) : Bool := if whole then fitsB xs T else someB xs T
def noAcc (whole : Bool) (xs : List ItemP) (T : List Int) (k : Nat) : Prop := ∀ j, j < k → ¬ (fitsB xs (T.take j) = true ∧ (whole = true → j = T.length))
theorem noAcc_zero (whole : Bool) (xs : List ItemP) (T : List Int) : noAcc whole xs T 0 := fun _ h => absurd h (Nat.not_lt_zero _)
theorem noAcc_more {whole : Bool} {xs : List ItemP} {T : List Int} {k : Nat} (h : noAcc whole xs T k) (hk : ¬ (fitsB xs (T.take k) = true ∧ (whole = true → k = T.length))) : noAcc whole xs T (k + 1) := fun j hj => by
  rcases Nat.lt_or_ge j k with h1 | h1
  · exact h j h1
  · obtain rfl : j = k := by omega
    exact hk
theorem fits_acc {whole : Bool} {xs : List ItemP} {T : List Int} {k : Nat} (hk : k ≤ T.length) (h1 : fitsB xs (T.take k) = true) (h2 : whole = true → k = T.length) : fitsG whole xs T = true := by
  unfold fitsG
  cases whole with
  | true =>
    have := h2 rfl
    rw [if_pos rfl, ← h1, this, List.take_length]
  | false => exact (someB_iff xs T).2 ⟨k, hk, h1⟩
theorem fits_end {whole : Bool} {xs : List ItemP} {T : List Int} (h : noAcc whole xs T (T.length + 1)) : fitsG whole xs T = false := by
  unfold fitsG
  cases whole with
  | true =>
    rw [if_pos rfl, Bool.eq_false_iff]
    intro e
    refine h T.length (by omega) ⟨by rw [List.take_length]; exact e, fun _ => rfl⟩
  | false =>
    show someB xs T = false
    rw [Bool.eq_false_iff]
    intro e
    obtain ⟨k, hk, h1⟩ := (someB_iff xs T).1 e
    exact h k (by omega) ⟨h1, fun h => by cases h⟩
theorem fits_dead {whole : Bool} {xs : List ItemP} {T : List Int} {k : Nat} (h : noAcc whole xs T k) (_hk : k ≤ T.length) (hd : ∀ r, fitsB xs (T.take k ++ r) = false) : fitsG whole xs T = false := by
  refine fits_end fun j hj ⟨h1, h2⟩ => ?_
  rcases Nat.lt_or_ge j k with h3 | h3
  · exact h j h3 ⟨h1, h2⟩
  · have e : T.take j = T.take k ++ (T.take j).drop k := by
      have := List.take_append_drop k (T.take j)
      rw [List.take_take, Nat.min_eq_left h3] at this
      exact this.symm
    rw [e, hd] at h1
    cases h1
def deadF (C : Fit) : Bool := ((List.range 11).all fun i => !C.1 i) && ((List.range 10).all fun i => !C.2 i)
theorem deadF_iff (C : Fit) : deadF C = true ↔ (∀ i, i ≤ 10 → C.1 i = false) ∧ ∀ i, i < 10 → C.2 i = false := by
  unfold deadF
  simp only [Bool.and_eq_true, List.all_eq_true, List.mem_range, Bool.not_eq_true']
  constructor
  · rintro ⟨a, b⟩; exact ⟨fun i hi => a i (by omega), b⟩
  · rintro ⟨a, b⟩; exact ⟨fun i hi => a i (by omega), b⟩
theorem stF_end (xs : List ItemP) (T : List Int) (k : Nat) : (stF xs T k).1 xs.length = fitsB xs (T.take k) := by
  unfold stF cutF fitsB
  simp
theorem stF_dead {xs : List ItemP} (hw : howP xs) (hn : xs.length ≤ 10) {T : List Int} {k : Nat} (h : deadF (stF xs T k) = true) (r : List Int) : fitsB xs (T.take k ++ r) = false := by
  obtain ⟨h1, h2⟩ := (deadF_iff _).1 h
  refine stop_dead hw (fun i hi => ?_) (fun i hi => ?_) r
  · have := h1 i (by omega)
    unfold stF cutF at this
    simpa [hi] using this
  · have := h2 i (by omega)
    unfold stF cutF at this
    simpa [hi] using this
end Go.Proofs.YtgcapoejieolnaaGreatDoor
namespace Go.Proofs.YtgcapoejieolnaaGreatDoor
open Go.RowKit

def noDeferQ (o : Oper) : Bool := match o.op with
  | .defer _ => false
  | _ => true
theorem wpOperIn_roundQ {F : Fence} {n : Nat} {P : Program} {Q : Exit → Act → World → Prop} {o : Oper} {a : Act} {w : World} {K K' : Act → World → Prop} (l0 : Nat) (hd : noDeferQ o = true) (hK : ∀ a w, K a w → K' a w)
    (h : o.wpIn F n P a w K Q) : o.wpIn (F.inRound l0) n P a w K' Q := by
  have hs : ∀ c, o.op ≠ .defer c := fun c e => by unfold noDeferQ at hd; rw [e] at hd; cases hd
  unfold Oper.wpIn at h ⊢
  refine ⟨h.1, ?_⟩
  have h2 := h.2
  rw [Oper.semAt_plain F _ _ hs] at h2
  rw [Oper.semAt_plain (F.inRound l0) _ _ hs]
  revert h2
  generalize (execOp a.eval o).run P w = R
  intro h2
  cases R with
  | ok nx w' =>
    cases nx
    case value v => exact hK _ _ h2
    case skip => exact hK _ _ h2
    case defer d => exact hK _ _ h2
    case enter f args => exact ⟨h2.1, CallsIn.inRound l0 (CallsIn.mono h2.2 fun e w'' h3 => by cases e <;> first | exact hK _ _ h3 | exact h3)⟩
    case row r args => exact ⟨h2.1, RowsIn.mono (F := F) h2.2 fun v w'' h3 => hK _ _ h3⟩
    case round l f tmps assign body => exact ⟨h2.1, RoundIn.mono (F := F) h2.2 fun e w'' h3 => by cases e <;> first | exact hK _ _ h3 | exact h3⟩
    all_goals exact h2
  | halt hlt w' => cases hlt <;> exact h2
theorem wpAnyIn_roundQ {F : Fence} {n : Nat} {P : Program} {md : Region.Mode} {ops : Array Oper} {Q : Exit → Act → World → Prop} (l0 : Nat) (hd : ∀ o ∈ ops.toList, noDeferQ o = true) :
    ∀ (fuel : Nat) (listed : Array Bool) (a : Act) (w : World), wpAnyIn F n P md ops Q fuel listed a w → wpAnyIn (F.inRound l0) n P md ops Q fuel listed a w
  | 0, _, _, _, h => h
  | fuel + 1, listed, a, w, h => by
    refine ⟨h.1, fun i hi => ?_⟩
    have h2 := h.2 i hi
    unfold wpOpIn at h2 ⊢
    cases ho : ops[i]? with
    | none => rw [ho] at h2; exact wpAnyIn_roundQ l0 hd fuel _ _ _ h2
    | some o =>
      rw [ho] at h2
      simp only at h2 ⊢
      split at h2
      · rename_i hw
        rw [if_pos hw]
        refine wpOperIn_roundQ l0 (hd o ?_) (fun a w h => wpAnyIn_roundQ l0 hd fuel _ _ _ h) h2
        exact Array.mem_toList_iff.2 (Array.mem_of_getElem? ho)
      · rename_i hw
        rw [if_neg hw]
        exact ⟨h2.1, wpAnyIn_roundQ l0 hd fuel _ _ _ h2.2⟩
theorem wpIn_quiet_roundQ {P : Program} {id n : Nat} {Q : Exit → Act → World → Prop} {a : Act} {w : World} {l : List Oper} (l0 : Nat) (hd : l.all noDeferQ = true) (hm : P.follows .mixedOrders = true) (hB : Region.lexB .any l.toArray = true)
    (h : wpQuietIn Fence.wide n P l.toArray (fun w' => ∃ n, w' = w.drewN n) (fun a' => ∀ w', (∃ n, w' = w.drewN n) → Q .normal a' w') l a) : (Code.region id l.toArray true).wpIn (Fence.wide.inRound l0) n P Q a w := by
  simp only [Region.lexB, Bool.and_eq_true] at hB
  refine wpIn_region_any hm (wpAnyIn_roundQ l0 (fun o ho => List.all_eq_true.1 hd o (by simpa using ho)) _ _ _ _ ?_)
  refine wpAnyIn_of_quiet (C := fun w' => ∃ n, w' = w.drewN n) (Q := fun a' => ∀ w', (∃ n, w' = w.drewN n) → Q .normal a' w') rfl (fun _ w' hw' h => h w' hw') _ _ _ _ ⟨1, rfl⟩ ?_
  have hq := wpAnyQIn_lex (F := Fence.wide) (n := n) (P := P) (C := fun w' => ∃ n, w' = w.drewN n) (md := .any) hB.1 l.toArray.toList 0 (Array.replicate l.toArray.size false) a (by simp) (by simpa using hB.2) (by simpa using h)
  simpa using hq
end Go.Proofs.YtgcapoejieolnaaGreatDoor
