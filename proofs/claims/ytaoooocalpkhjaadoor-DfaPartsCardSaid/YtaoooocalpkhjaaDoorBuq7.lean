/- Shaken by bunq.py. -/
import Derived.Test.YtaoooocalpkhjaaDoorBuq1
import Derived.Test.YtaoooocalpkhjaaDoorBuq6
import Derived.Test.YtaoooocalpkhjaaDoorBuq5
import Derived.Laws.MakeOwn
namespace Go.Proofs.YtaoooocalpkhjaaDoor
open Go.RowKit Go.Shelf
attribute [local go_sem] Oper.semAt_some

def SeqOfV {α : Type} (P : Program) (n : Nat) (f : Nat) (lb : Array Value) (encs : α → Array Value) (Ow Dep : Nat → Prop) (all : List α) (V : List α → World → Prop) (w : World) : Prop :=
  ∀ (W : World) (l : Nat) (J Jx : (Nat → Prop) → List α → World → Prop), Moves (fun _ => False) w W →
    (∀ X X' xs A B, J X xs A → Moves X A B → (∀ k, X' k → (X k ∨ A.heap.size ≤ k) ∧ k < B.heap.size) → J X' xs B) →
    (∀ X X' xs A B, Jx X xs A → Moves X A B → (∀ k, X' k → (X k ∨ A.heap.size ≤ k) ∧ k < B.heap.size) → Jx X' xs B) →
    (∀ X xs A, J X xs A → V xs A) →
    (∀ X xs x A, xs ++ [x] <+: all → J X xs A → YieldAt Fence.wide (n - 1) P l (encs x) A fun e A' => (e = .returned (.bool true) ∧ J X (xs ++ [x]) A' ∧ Moves (fun k => ¬ X k ∧ ¬ Dep k) A A') ∨ (e = .returned (.bool false) ∧ Jx X (xs ++ [x]) A' ∧ Moves (fun k => ¬ X k ∧ ¬ Dep k) A A')) →
    J Ow [] W →
    CallsIn Fence.wide n P f (#[.func (.yield l) #[] #[]] ++ lb) W fun e W' => (∃ v, e = .returned v) ∧ ∃ X, (J X all W' ∨ ∃ xs, xs <+: all ∧ Jx X xs W')

set_option maxHeartbeats 1000000 in
theorem wpIn_seqV {α : Type} {P : Program} {n : Nat} {f : Nat} {lb : Array Value} {encs : α → Array Value} {Ow Dep : Nat → Prop} {all : List α} {V : List α → World → Prop} {g : Operand} {ps : Array Tmp} {assign body : Code} {Q : Exit → Act → World → Prop} {a : Act} {w : World} (hn : 4 ≤ n)
    (hg : a.eval g = .func (.func f) #[] lb) (henter : ∀ args w, (callFunc f args).run P w = .ok (.enter f args) w) (hps : ∀ x, (encs x).size = ps.size) (hs : SeqOfV P (n - 1) f lb encs Ow Dep all V w)
    (hOw : ∀ k, Ow k → k < w.heap.size) (hDep : ∀ k, Dep k → k < w.heap.size)
    (I : (Nat → Prop) → List α → World → Prop) (hV : ∀ X xs A, I X xs A → V xs A) (Ix : Code → (Nat → Prop) → List α → World → Prop)
    (hI : ∀ X X' xs A B, I X xs A → Moves X A B → (∀ k, X' k → (X k ∨ A.heap.size ≤ k) ∧ k < B.heap.size) → I X' xs B)
    (hIx : ∀ c X X' xs A B, Ix c X xs A → Moves X A B → (∀ k, X' k → (X k ∨ A.heap.size ≤ k) ∧ k < B.heap.size) → Ix c X' xs B) (h0 : I Ow [] w)
    (a₁ : Nat → α → Act) (G : World → α → World → Prop) (hG : ∀ A x B, G A x B → Moves (fun _ => False) A B)
    (hassign : ∀ (l : Nat) (x : α) (A : World) (K : Act → World → Prop), (∀ B, G A x B → K (a₁ A.heap.size x) B) →
      assign.wpIn (Fence.wide.inRound l) (n - 1 - 1) P (Exit.then K (fun _ _ _ => False)) { tmps := (ps.zip (encs x)).foldl (fun t (p, v) => t.setIfInBounds p v) a.tmps, defers := [] } A)
    (hbody : ∀ (l : Nat) (X : Nat → Prop) (pre : List α) (x : α) (A B W : World), w.heap.size + 2 ≤ A.heap.size → pre ++ [x] <+: all → G A x B → Moves (fun k => k = w.heap.size + 1) B W → X w.heap.size → X (w.heap.size + 1) → (∀ k, X k → k < A.heap.size) → I X pre A → I X pre W →
      body.wpIn (Fence.wide.inRound l) (n - 1 - 1) P (seqEndX Dep X I Ix (pre ++ [x]) W) (a₁ A.heap.size x) W)
    (hdone : ∀ (X : Nat → Prop) (D : Nat) (W : World), w.heap.size ≤ D → X D → I X all W → (∀ k, X k → k < W.heap.size) → W.heap[D]? = some (.deferred (some [])) → Q .normal { a with defers := { target := .collected D, args := #[] } :: a.defers } W)
    (hstop : ∀ (X : Nat → Prop) (D : Nat) (c : Code) (pre : List α) (W : World), w.heap.size ≤ D → X D → pre <+: all → Ix c X pre W → (∀ k, X k → k < W.heap.size) → W.heap[D]? = some (.deferred (some [])) →
      c.wpIn Fence.wide n P Q { a with defers := { target := .collected D, args := #[] } :: a.defers } W) :
    (Code.rangeFunc g ps assign body).wpIn Fence.wide n P Q a w := by
  refine wpIn_rangeFunc ?_
  intro fn hfn
  obtain ⟨rec, hrec⟩ : ∃ rec : LoopState → Option Code → Loop, rec = fun st pe => { state := st, pending := pe, fn, tmps := a.tmps, params := ps, assign, body, defers := w.heap.size } := ⟨_, rfl⟩
  obtain ⟨W1, hW1⟩ : ∃ W1, (w.alloc (.deferred (some []))).alloc (.loop (rec .ready none)) = W1 := ⟨_, rfl⟩
  have hL1 : W1.heap[w.heap.size + 1]? = some (.loop (rec .ready none)) := by
    rw [← hW1]; have := World.alloc_heap_new (w.alloc (.deferred (some []))) (.loop (rec .ready none)); rwa [World.size_alloc] at this
  have hK1 : W1.heap[w.heap.size]? = some (.deferred (some [])) := by
    rw [← hW1]; exact (Below.heap_alloc _ _ _ (by simp)).trans (World.alloc_heap_new w _)
  have hb1 : Below w.heap.size w W1 := by
    rw [← hW1]; exact ((Below.refl _ w).alloc (Nat.le_refl _) _).alloc (by simp) _
  have hz1 : W1.heap.size = w.heap.size + 2 := by rw [← hW1]; simp
  have hOl : ∀ k, w.heap.size ≤ k → ¬ Ow k := fun k hk h => by have := hOw k h; omega
  have hI1 : I (BookX Ow w.heap.size) [] W1 := hI _ _ _ _ _ h0 (Moves.of_below hb1) (by
    rintro k (h | h)
    · have := hOw _ h; exact ⟨.inl h, by omega⟩
    · exact ⟨.inr (by omega), by omega⟩)
  have keep : ∀ {S : Nat → Prop} {A B : World} {k : Nat} {o : Obj}, Moves S A B → ¬ S k → A.heap[k]? = some o → B.heap[k]? = some o := fun hm hk h => (hm.block _ (Array.getElem?_eq_some_iff.1 h).1 hk).trans h
  have put : ∀ {X : Nat → Prop} {A : World} {k : Nat} {o : Obj}, k = w.heap.size ∨ k = w.heap.size + 1 → Moves (BookX X w.heap.size) A (A.putObj k o) := fun hk => Moves.putObj (.inr hk)
  refine ⟨w.heap.size + 1, [{ target := .collected w.heap.size, args := #[] }], W1, { target := .fn (.func f) lb, args := #[.func (.yield (w.heap.size + 1)) #[] #[]] }, W1, f,
    #[.func (.yield (w.heap.size + 1)) #[] #[]] ++ lb, W1, ?_, ?_, ?_, ?_, fun _ => by omega, ?_⟩
  · rw [← hW1, hrec]; exact run_enterLoop_outer _ _ _ _ _
  · simp only [resolve, hg]
    simp [go_sem]
  · intro f' hf'; exact trivial
  · simp [invoke, go_sem, henter]
  · refine (hs W1 (w.heap.size + 1)
      (fun X pre W => I (BookX X w.heap.size) pre W ∧ W.heap[w.heap.size + 1]? = some (.loop (rec .ready none)) ∧ W.heap[w.heap.size]? = some (.deferred (some [])) ∧ ¬ X w.heap.size ∧ ¬ X (w.heap.size + 1) ∧ ∀ k, X k → k < W.heap.size)
      (fun X pre W => ∃ c, Ix c (BookX X w.heap.size) pre W ∧ W.heap[w.heap.size + 1]? = some (.loop (rec .done (some c))) ∧ W.heap[w.heap.size]? = some (.deferred (some [])) ∧ ¬ X w.heap.size ∧ ¬ X (w.heap.size + 1) ∧ ∀ k, X k → k < W.heap.size)
      (Moves.of_below hb1) ?_ ?_ (fun X pre A h => hV _ _ _ h.1) ?_ ⟨hI1, hL1, hK1, hOl _ (Nat.le_refl _), hOl _ (by omega), fun k h => by have := hOw k h; omega⟩).mono ?_
    · rintro X X' xs A B ⟨hi, hl, hk, n1, n2, hX⟩ hm hX'
      have hlA := (Array.getElem?_eq_some_iff.1 hl).1
      refine ⟨hI _ _ _ _ _ hi (hm.mono fun k h => .inl h) ?_, keep hm n2 hl, keep hm n1 hk, fun h => ?_, fun h => ?_, fun k h => (hX' k h).2⟩
      · have := hm.size
        rintro k (h | h)
        · exact ⟨(hX' k h).1.imp .inl id, (hX' k h).2⟩
        · exact ⟨.inl (.inr h), by omega⟩
      · rcases (hX' _ h).1 with h | h
        · exact n1 h
        · omega
      · rcases (hX' _ h).1 with h | h
        · exact n2 h
        · omega
    · rintro X X' xs A B ⟨c, hi, hl, hk, n1, n2, hX⟩ hm hX'
      have hlA := (Array.getElem?_eq_some_iff.1 hl).1
      refine ⟨c, hIx _ _ _ _ _ _ hi (hm.mono fun k h => .inl h) ?_, keep hm n2 hl, keep hm n1 hk, fun h => ?_, fun h => ?_, fun k h => (hX' k h).2⟩
      · have := hm.size
        rintro k (h | h)
        · exact ⟨(hX' k h).1.imp .inl id, (hX' k h).2⟩
        · exact ⟨.inl (.inr h), by omega⟩
      · rcases (hX' _ h).1 with h | h
        · exact n1 h
        · omega
      · rcases (hX' _ h).1 with h | h
        · exact n2 h
        · omega
    · rintro X pre x W hpx ⟨hi, hl, hk, n1, n2, hX⟩
      have hlt1 : w.heap.size + 1 < W.heap.size := (Array.getElem?_eq_some_iff.1 hl).1
      have hy := run_yield (P := P) (args := encs x) hl (by rw [hrec]; exact hps x)
      rw [hrec] at hy
      refine ⟨fn, _, assign, body, hy, roundIn_of_wpIn hfn (hassign _ x W _ fun B hGB => ?_)⟩
      have hGm := hG _ _ _ hGB
      have hlB : B.heap[w.heap.size + 1]? = some (.loop (rec .ready none)) := keep hGm id hl
      have hkB : B.heap[w.heap.size]? = some (.deferred (some [])) := keep hGm id hk
      have hltB : w.heap.size + 1 < B.heap.size := (Array.getElem?_eq_some_iff.1 hlB).1
      refine ⟨_, run_beginRound hlB (by rw [hrec]), ?_⟩
      have hl2 : (B.putObj (w.heap.size + 1) (.loop { rec .ready none with state := .busy })).heap[w.heap.size + 1]? = some (.loop { rec .ready none with state := .busy }) := World.putObj_heap_same hltB
      have hk2 : (B.putObj (w.heap.size + 1) (.loop { rec .ready none with state := .busy })).heap[w.heap.size]? = some (.deferred (some [])) := (World.putObj_heap_other (by omega)).trans hkB
      have hw2 : Moves (fun k => k = w.heap.size + 1) W (B.putObj (w.heap.size + 1) (.loop { rec .ready none with state := .busy })) := (hGm.mono fun k h => h.elim).trans (Moves.putObj rfl)
      have hXb : ∀ k, BookX X w.heap.size k → k < W.heap.size := by
        rintro k (h | h)
        · exact hX k h
        · omega
      have hXs : ∀ {B' : World}, W.heap.size ≤ B'.heap.size → ∀ k, BookX X w.heap.size k → (BookX X w.heap.size k ∨ W.heap.size ≤ k) ∧ k < B'.heap.size := fun hz k h => ⟨.inl h, by have := hXb k h; omega⟩
      have hIB := hI _ _ _ _ _ hi (hw2.mono fun k h => .inr (.inr h)) (hXs hw2.size)
      refine wpIn_mono (hbody _ _ pre x W B _ (by omega) hpx hGB (Moves.putObj rfl) (.inr (.inl rfl)) (.inr (.inr rfl)) hXb hi hIB) ?_
      have fin : ∀ (jump : Option Code) (W3 : World), Moves (fun k => ¬ BookX X w.heap.size k ∧ ¬ Dep k) (B.putObj (w.heap.size + 1) (.loop { rec .ready none with state := .busy })) W3 →
          (Instr.endRound (w.heap.size + 1) jump).run P W3 = .ok (.bool jump.isNone) (W3.putObj (w.heap.size + 1) (.loop (rec (if jump.isNone then .ready else .done) jump))) ∧
          (W3.putObj (w.heap.size + 1) (.loop (rec (if jump.isNone then .ready else .done) jump))).heap[w.heap.size + 1]? = some (.loop (rec (if jump.isNone then .ready else .done) jump)) ∧
          (W3.putObj (w.heap.size + 1) (.loop (rec (if jump.isNone then .ready else .done) jump))).heap[w.heap.size]? = some (.deferred (some [])) ∧ W.heap.size ≤ W3.heap.size := fun jump W3 hk3 => by
        have hl3 := keep hk3 (fun h => h.1 (.inr (.inr rfl))) hl2
        have hz3 := hk3.size
        have hz2 := hw2.size
        have := run_endRound (P := P) jump hl3
        rw [hrec] at this ⊢
        exact ⟨this, World.putObj_heap_same (Array.getElem?_eq_some_iff.1 hl3).1, (World.putObj_heap_other (by omega)).trans (keep hk3 (fun h => h.1 (.inr (.inl rfl))) hk2), by omega⟩
      have hb2 : ∀ k, k = w.heap.size + 1 → ¬ X k ∧ ¬ Dep k := by
        rintro k rfl
        exact ⟨n2, fun h => by have := hDep _ h; omega⟩
      have all : ∀ {W3 : World} {o : Obj}, Moves (fun k => ¬ BookX X w.heap.size k ∧ ¬ Dep k) (B.putObj (w.heap.size + 1) (.loop { rec .ready none with state := .busy })) W3 → Moves (fun k => ¬ X k ∧ ¬ Dep k) W (W3.putObj (w.heap.size + 1) o) := fun hk3 => ((hw2.mono hb2).trans (hk3.mono fun k h => ⟨fun hx => h.1 (.inl hx), h.2⟩)).trans (Moves.putObj (hb2 _ rfl))
      have hXp : ∀ {W3 : World} {o : Obj}, W.heap.size ≤ W3.heap.size → ∀ k, BookX X w.heap.size k → (BookX X w.heap.size k ∨ W3.heap.size ≤ k) ∧ k < (W3.putObj (w.heap.size + 1) o).heap.size := fun hz k h => ⟨.inl h, by rw [World.putObj_size]; have := hXb k h; omega⟩
      have hXq : ∀ {W3 : World} {o : Obj}, W.heap.size ≤ W3.heap.size → ∀ k, X k → k < (W3.putObj (w.heap.size + 1) o).heap.size := fun hz k h => by rw [World.putObj_size]; have := hX k h; omega
      rintro e a3 W3 hp
      cases e with
      | normal =>
        obtain ⟨hk3, hi3⟩ := hp
        obtain ⟨hr, hl4, hk4, hz⟩ := fin none W3 hk3
        exact ⟨_, _, hr, .inl ⟨rfl, ⟨hI _ _ _ _ _ hi3 (put (.inr rfl)) (hXp hz), hl4, hk4, n1, n2, hXq hz⟩, all hk3⟩⟩
      | ret =>
        obtain ⟨hk3, hi3⟩ := hp
        obtain ⟨hr, hl4, hk4, hz⟩ := fin (some .ret) W3 hk3
        exact ⟨_, _, hr, .inr ⟨rfl, ⟨.ret, hIx _ _ _ _ _ _ hi3 (put (.inr rfl)) (hXp hz), hl4, hk4, n1, n2, hXq hz⟩, all hk3⟩⟩
      | exit id =>
        obtain ⟨hk3, hi3⟩ := hp
        obtain ⟨hr, hl4, hk4, hz⟩ := fin (some (.exit id)) W3 hk3
        exact ⟨_, _, hr, .inr ⟨rfl, ⟨.exit id, hIx _ _ _ _ _ _ hi3 (put (.inr rfl)) (hXp hz), hl4, hk4, n1, n2, hXq hz⟩, all hk3⟩⟩
      | goto t =>
        obtain ⟨hk3, hi3⟩ := hp
        obtain ⟨hr, hl4, hk4, hz⟩ := fin (some (.goto t)) W3 hk3
        exact ⟨_, _, hr, .inr ⟨rfl, ⟨.goto t, hIx _ _ _ _ _ _ hi3 (put (.inr rfl)) (hXp hz), hl4, hk4, n1, n2, hXq hz⟩, all hk3⟩⟩
      | panic ch => exact hp.elim
      | outgrown => exact hp.elim
    · rintro e W2 ⟨⟨v, rfl⟩, X, (⟨hi, hl, hk, n1, n2, hX⟩ | ⟨pre, hSp, c, hi, hl, hk, n1, n2, hX⟩)⟩
      · have hlt1 : w.heap.size + 1 < W2.heap.size := (Array.getElem?_eq_some_iff.1 hl).1
        have hXb : ∀ {o : Obj} k, BookX X w.heap.size k → k < (W2.putObj (w.heap.size + 1) o).heap.size := by
          rintro o k (h | h) <;> rw [World.putObj_size]
          · exact hX k h
          · omega
        exact ⟨none, _, by have := run_endLoop (P := P) hl (by rw [hrec]; simp); rw [hrec] at this; exact this, hdone (BookX X w.heap.size) _ _ (Nat.le_refl _) (.inr (.inl rfl)) (hI _ _ _ _ _ hi (put (.inr rfl)) (fun k h => ⟨.inl h, hXb k h⟩)) hXb ((World.putObj_heap_other (by omega)).trans hk)⟩
      · have hlt1 : w.heap.size + 1 < W2.heap.size := (Array.getElem?_eq_some_iff.1 hl).1
        have hXb : ∀ {o : Obj} k, BookX X w.heap.size k → k < (W2.putObj (w.heap.size + 1) o).heap.size := by
          rintro o k (h | h) <;> rw [World.putObj_size]
          · exact hX k h
          · omega
        exact ⟨some c, _, by have := run_endLoop (P := P) hl (by rw [hrec]; simp); rw [hrec] at this; exact this, hstop (BookX X w.heap.size) _ c pre _ (Nat.le_refl _) (.inr (.inl rfl)) hSp (hIx _ _ _ _ _ _ hi (put (.inr rfl)) (fun k h => ⟨.inl h, hXb k h⟩)) hXb ((World.putObj_heap_other (by omega)).trans hk)⟩
end Go.Proofs.YtaoooocalpkhjaaDoor
namespace Go.Proofs.YtaoooocalpkhjaaDoor
open Go.RowKit Go.Shelf Go.Maps
attribute [local go_sem] Oper.semAt_some
attribute [local go_sem ↓] app_hide cop_hideD ld_hideD st_hideD lk_hideD mu_hideD bs_hideD

theorem run_ldD_at {w : World} {a : Addr} {c : List Int} (hc : c.length = 40) (h : ∀ (j : Nat) (v : Int), c[j]? = some v → w.cell? (a.add j) = some (.int .i64 v)) : (ldD a).run Tryd.prog w = .ok (setsV c) w := by
  have hl : (loadCells a (cellsD c).toList.length).run Tryd.prog w = .ok (cellsD c).toList.toArray w :=
    run_loadCells_list (P := Tryd.prog) w a (cellsD c).toList (fun j v hv => by
      unfold cellsD at hv
      rw [List.toList_toArray, List.getElem?_map] at hv
      obtain ⟨x, hx, rfl⟩ := Option.map_eq_some_iff.1 hv
      exact h j x hx)
  obtain ⟨i0, hi, hz0, hz1, hz2⟩ := info_parts infoSetsD
  rw [Array.length_toList, cellsD_size, hc, Array.toArray_toList] at hl
  unfold ldD
  simp [loadVar, run_underlying Tryd.underlying120, isAgg, sizeOf, typeInfo, hi, hz1, hl]
def ViewD (G : Nat) (all xs : List (List Nat)) (W : World) : Prop := ∃ ao al ac, W.cell? ⟨G, 5, none⟩ = some (.slice ao al ac) ∧ al ≤ 100000 ∧
  ((xs.length = al ∧ xs = all) ∨ (xs.length < al ∧ ∃ g S, ao = some ⟨g, 0, none⟩ ∧ all[xs.length]? = some S ∧ (padD S).length = 40 ∧ ∀ (j : Nat) (v : Int), (padD S)[j]? = some v → W.cell? ⟨g, xs.length * 40 + j, none⟩ = some (.int .i64 v)))
theorem statesC_at : ∀ {A : List (List Nat)} {i : Nat} {S : List Nat}, (∀ T ∈ A, T.length ≤ 40) → A[i]? = some S → ∀ (j : Nat) (v : Int), (padD S)[j]? = some v → (statesC A)[i * 40 + j]? = some (.int .i64 v)
  | [], i, S, _, h => by simp at h
  | T :: A, 0, S, hA, h => fun j v hv => by
    obtain rfl : T = S := by simpa using h
    have hj := (List.getElem?_eq_some_iff.1 hv).1
    unfold statesC
    rw [List.flatMap_cons, Nat.zero_mul, Nat.zero_add, List.getElem?_append_left (by rw [Array.length_toList, cellsD_size]; exact hj), Array.getElem?_toList]
    exact cellsD_get hv
  | T :: A, i + 1, S, hA, h => fun j v hv => by
    have ih := statesC_at (A := A) (i := i) (fun U hU => hA U (List.mem_cons_of_mem _ hU)) (by simpa using h) j v hv
    have hl : (cellsD (padD T)).toList.length = 40 := by rw [Array.length_toList, cellsD_size, padD_len (hA T (by simp))]
    unfold statesC at ih ⊢
    rw [List.flatMap_cons, List.getElem?_append_right (by omega), ← ih]
    congr 1
    omega
theorem MetD.view {w : World} {base G M ac : Nat} {nx fi ru wy : Value} {n : Int} {ao : Option Addr} {A all xs : List (List Nat)} (h : MetD w base G M nx fi ru n ao ac wy A) (hA : A.length ≤ 100000) (h40 : ∀ T ∈ A, T.length ≤ 40) (hx : (xs.length = A.length ∧ xs = all) ∨ (xs.length < A.length ∧ A <+: all)) : ViewD G all xs w := by
  refine ⟨ao, A.length, ac, (bldD_cells h.row).2.2.2.2.2.1, hA, hx.imp id fun ⟨h1, h2⟩ => ?_⟩
  obtain ⟨S, hS⟩ : ∃ S, A[xs.length]? = some S := ⟨_, List.getElem?_eq_getElem h1⟩
  obtain ⟨g, rfl, hc⟩ := row_placeK h.all (by omega)
  obtain ⟨r, hr⟩ := h2
  refine ⟨h1, g, S, rfl, by rw [← hr, List.getElem?_append_left h1]; exact hS, padD_len (h40 S (List.mem_of_getElem? hS)), fun j v hv => ?_⟩
  exact hc _ _ (statesC_at h40 hS j v hv)
theorem eachD_any (G : Nat) (w : World) : Calls Tryd.prog 75 #[.pointer (some ⟨G, 4, none⟩)] w fun e w' => e = .returned (.func (.func 95) #[] #[.pointer (some ⟨w.heap.size, 0, none⟩)]) ∧ w.alloc (.cells #[.pointer (some ⟨G, 4, none⟩)] 159) = w' := by
  go_enter Tryd.func75, Tryd.ntmps75
  go_wp2
  go_ret
  exact ⟨rfl, rfl⟩
set_option maxRecDepth 100000 in
set_option maxHeartbeats 2000000 in
theorem seqStatesD {cb G : Nat} {all : List (List Nat)} {w : World} (hall : all.length ≤ 100000) (hc : w.heap[cb]? = some (.cells #[.pointer (some ⟨G, 4, none⟩)] 159 (0, 0))) :
    SeqOfV Tryd.prog 5 95 #[.pointer (some ⟨cb, 0, none⟩)] (fun S : List Nat => #[setsV (padD S)]) (fun _ => False) (fun k => k = cb) all (ViewD G all) w := by
  intro W lp J Jx hm hJ hJx hV hY h0
  have h1 : 1 ≤ 5 := by omega
  have rc := row_keep hc hm id
  have HRC := Lib.hid rc
  refine callsIn_of_wp Tryd.func95 rfl trivial ?_ rfl
  simp only [Tryd.ntmps95, List.size_toArray, List.length_cons, List.length_nil, Nat.reduceAdd, Nat.reduceSub, Array.replicate_succ, Array.replicate_zero, List.push_toArray, List.append_toArray, List.nil_append, List.cons_append]
  have HJ := Lib.hid hJ
  have HY := Lib.hid hY
  have HV := Lib.hid hV
  clear hJ hJx hY hV hm hc rc
  gi_wp2
  gi_loopg [3] (all.length + 1) (fun k v wr => ∃ (i : Nat), v = .int .i64 (i : Nat) ∧ i ≤ all.length ∧ k = all.length + 1 - i ∧ Hid (wr.heap[cb]? = some (.cells #[.pointer (some ⟨G, 4, none⟩)] 159 (0, 0))) ∧ J (fun _ => False) (all.take i) wr)
  case atStart => exact ⟨0, rfl, Nat.zero_le _, rfl, HRC, by simpa using h0⟩
  case round =>
    obtain ⟨i, rfl, hi, rfl, HC, hJ'⟩ := hrel
    obtain ⟨ao, al, ac, c5, hal, hv⟩ := HV.out _ _ _ hJ'
    have hlt0 : (all.take i).length = i := by rw [List.length_take]; omega
    rw [hlt0] at hv
    have c0 : wr.cell? ⟨cb, 0, none⟩ = some (.pointer (some ⟨G, 4, none⟩)) := by rw [cell_of_row _ _ 0 _ _ _ HC.out]; rfl
    have him : i < 1000000 := by omega
    rcases hv with ⟨rfl, hall2⟩ | ⟨hlt, g, S, rfl, hS, hp, hcs⟩
    · have d1 : decide (((i : Nat) : Int) < ((i : Nat) : Int)) = false := decide_eq_false (by omega)
      rw [hall2] at hJ'
      gi_wp2
      go_end0
      exact ⟨⟨_, rfl⟩, _, .inl hJ'⟩
    · have d1 : decide (((i : Nat) : Int) < ((al : Nat) : Int)) = true := decide_eq_true (by omega)
      have hld : (ldD ⟨g, i * 40, none⟩).run Tryd.prog wr = .ok (setsV (padD S)) wr := run_ldD_at hp (fun j v hv => by
        have hadd : (⟨g, i * 40, none⟩ : Addr).add j = ⟨g, i * 40 + j, none⟩ := by unfold Addr.add; split <;> simp_all
        rw [hadd]
        exact hcs j v hv)
      have hlt3 := (List.getElem?_eq_some_iff.1 hS).1
      have hpx : all.take i ++ [S] = all.take (i + 1) := by rw [List.take_add_one, hS]; rfl
      obtain ⟨fn, tmps, assign, body, hy, hR⟩ := HY.out _ _ _ _ (by rw [hpx]; exact List.take_prefix _ _) hJ'
      have HPX := Lib.hid hpx
      clear hcs hp hpx hS
      gi_wp2
      refine hR.mono ?_
      rintro e w3 (⟨rfl, hJ4, hk4⟩ | ⟨rfl, hJx4, _⟩)
      · gi_wp2
        gi_roundg (all.length + 1 - (i + 1))
        case measure => omega
        case rel => exact ⟨i + 1, by simp, by omega, rfl, Lib.hid (row_keep HC.out hk4 (fun h => h.2 rfl)), by rw [← HPX.out]; exact hJ4⟩
      · gi_wp2
        refine bodyPost_ret (results_none rfl _ _ _) rfl ?_
        exact ⟨⟨_, rfl⟩, _, .inr ⟨_, by rw [HPX.out]; exact List.take_prefix _ _, hJx4⟩⟩
end Go.Proofs.YtaoooocalpkhjaaDoor
namespace Go.Proofs.YtaoooocalpkhjaaDoor
open Go.RowKit Go.Shelf Go.Maps
attribute [local go_sem] Oper.semAt_some
attribute [local go_sem ↓] app_hide cop_hideD ld_hideD st_hideD lk_hideD mu_hideD bs_hideD

abbrev leftX (x : RulX) : PatP := plP x.1
theorem i64_ownD {W : World} {base k : Nat} {v : Value} {xs : List Value} (s : Nat) (ho : W.ownsRow base 2 1 v k xs) (hk : k ≤ 100000) (hbase : base ≤ W.heap.size) :
    ∃ g cap w6, (appSem #[23, 23] 23 #[v, .slice (some ⟨W.heap.size, 0, none⟩) 1 1]).run Tryd.prog (W.alloc (.cells #[.int .i64 (s : Nat)] 2)) = .ok (.slice (some ⟨g, 0, none⟩) (k + 1) cap) w6 ∧
      w6.ownsRow base 2 1 (.slice (some ⟨g, 0, none⟩) (k + 1) cap) (k + 1) (xs ++ [.int .i64 (s : Nat)]) ∧ (W.alloc (.cells #[.int .i64 (s : Nat)] 2)).grownBy w6 v.ownBlock ∧ (∀ q, (Value.slice (some ⟨g, 0, none⟩) (k + 1) cap).ownBlock = some q → v.ownBlock = some q ∨ W.heap.size ≤ q) := by
  obtain ⟨i0, hi, hz0, hz1, hz2⟩ := info_parts infoI64H
  have hb : Below W.heap.size W (W.alloc (.cells #[.int .i64 (s : Nat)] 2)) := (Below.refl _ _).alloc (Nat.le_refl _) _
  obtain ⟨v', w6, hr, h2, h3, h4, h5⟩ := run_append_own_at (P := Tryd.prog) _ base 23 23 2 i0 (.int .i64 0) 1 8 Tryd.underlying23 hi hz0 hz1 hz2 rfl (by decide) v k xs (own_below ho hb) ⟨W.heap.size, 0, none⟩ 1 1 [.int .i64 (s : Nat)] rfl
    (cell_one_new _ _ _) (by simp [Value.oneCell']) (by unfold maxLen; omega) (by omega) (by simp; omega)
  obtain ⟨g, cap, rfl⟩ := ownsRow_succ h2
  refine ⟨g, cap, w6, hr, h2, h3, fun q hq => ?_⟩
  rcases h5 with e | e
  · exact .inl (e.symm.trans hq)
  · rw [e] at hq
    have := Option.some.inj hq
    rw [World.size_alloc] at this
    exact .inr (by omega)
theorem step_len (R : List PatP) (S : List Nat) (c : Int) (h : S.length = R.length) : (stepD R S c).length = R.length := by
  unfold stepD
  rw [List.length_zipWith, h, Nat.min_self]
theorem step_at {l : List RulX} {S : List Nat} {c : Int} {j s : Nat} {x : RulX} (hx : l[j]? = some x) (hs : S[j]? = some s) : (stepD (l.map leftX) S c)[j]? = some (stepS x.1.2.2.1 x.1.1 c s) := by
  unfold stepD
  rw [List.getElem?_zipWith, List.getElem?_map, hx, hs]
  rfl
theorem nums_ownD {w : World} {base cap : Nat} {o : Option Addr} {l : List Nat} (h : w.ownsRow base 2 1 (.slice o l.length cap) l.length (l.map fun s => .int .i64 ((s : Nat) : Int))) : NumsAt w o (l.map fun s => ((s : Nat) : Int)) := fun hn => by
  obtain ⟨g, ho, hc⟩ := row_placeK h (by simpa using hn)
  refine ⟨g, 0, ho, fun j x hx => ?_⟩
  rw [Nat.zero_add]
  rw [List.getElem?_map] at hx
  obtain ⟨y, hy, rfl⟩ := Option.map_eq_some_iff.1 hx
  exact hc j _ (by rw [List.getElem?_map, hy]; rfl)
theorem own_rowD' {w : World} {base n : Nat} {e : TypeId} {size : Nat} {v : Value} {xs : List Value} (h : w.ownsRow base e size v n xs) {k : Nat} (hk : v.ownBlock = some k) : base ≤ k := by
  obtain ⟨_, _, h2⟩ := own_rowD h hk
  exact h2
structure RulesD (w : World) (o : Option Addr) (l : List RulX) : Prop where
  at_ : AtC w o l
  its : ItsC w l
  len : l.length ≤ 40
  right : ∀ x ∈ l, rightB x.1.2.2.1 32 = true
theorem RulesD.below {w w' : World} {o : Option Addr} {l : List RulX} (h : RulesD w o l) (hb : Below w.heap.size w w') : RulesD w' o l := ⟨h.at_.below hb, h.its.below hb, h.len, h.right⟩
def KnowD (l : List RulX) (S : List Nat) : Prop := S.length = l.length ∧ ∀ (j : Nat) (x : RulX) (s : Nat), l[j]? = some x → S[j]? = some s → knowsB x.1.2.2.1.length ((s : Nat) : Int) = true
set_option maxRecDepth 100000 in
set_option maxHeartbeats 4000000 in
theorem steps1_any (G cb db : Nat) (o : Option Addr) (l : List RulX) (cap : Nat) (S : List Nat) (c : Int) (w : World) (aP aS : Addr) (hQ : GlobH w aP aS) (hR : RulesD w o l) (hK : KnowD l S) (hC : w.heap[cb]? = some (.cells #[.pointer (some ⟨G, 0, none⟩)] 122 (0, 0))) (hD : w.heap[db]? = some (setsO (padD S))) (hG : w.cell? ⟨G, 2, none⟩ = some (.slice o l.length cap)) :
    Calls Tryd.prog 96 #[.int .i64 c, .pointer (some ⟨cb, 0, none⟩), .pointer (some ⟨db, 0, none⟩)] w fun e w' => e = .returned (setsV (padD (stepD (l.map leftX) S c))) ∧ Below w.heap.size w w' := by
  have hlen := hR.len
  obtain ⟨w1, hw1⟩ : ∃ w1, w.alloc (setsO (padD [])) = w1 := ⟨_, rfl⟩
  have b1 : Below w.heap.size w w1 := by rw [← hw1]; exact (Below.refl _ _).alloc (Nat.le_refl _) _
  have z1 : w1.heap.size = w.heap.size + 1 := by rw [← hw1]; simp
  have r1 : w1.heap[w.heap.size]? = some (setsO (padD [])) := by rw [← hw1]; exact heap_alloc_new _ _
  obtain ⟨n, hnn⟩ : ∃ n, l.length = n := ⟨_, rfl⟩
  obtain ⟨i0, hi, hz0, hz1, hz2⟩ := info_parts infoI64H
  obtain ⟨w2, hmk, hown, hgr⟩ := run_makeSlice_owned (P := Tryd.prog) (w := w1) w1.heap.size 23 2 i0 (.int .i64 0) 1 Tryd.underlying23 hi hz0 hz1 .i64 .i64 n (by omega) (by rw [hz2]; omega) (by unfold maxLen; omega) (Nat.le_refl _)
  have m2 : Below w1.heap.size w1 w2 := ⟨hgr.os, hgr.tape, hgr.output, hgr.size, fun k hk => hgr.block k hk (by simp)⟩
  have B2 := b1.trans (m2.mono b1.size)
  rw [z1] at hmk
  rw [← hw1, ← zerosOD] at hmk
  have z2 := m2.size
  have cb0 : w.cell? ⟨cb, 0, none⟩ = some (.pointer (some ⟨G, 0, none⟩)) := by rw [cell_of_row _ _ 0 _ _ _ hC]; rfl
  have lcb := World.block_lt_of_cell? w _ cb0
  have lG := World.block_lt_of_cell? w _ hG
  have cb2 := cell_keepQ B2 cb0
  have g2 := cell_keepQ B2 hG
  have HRW := Lib.hid hR
  have HQW := Lib.hid hQ
  have HDW := Lib.hid hD
  have HB2 := Lib.hid B2
  have HR1 := Lib.hid (row_below r1 m2)
  have HOW := Lib.hid hown
  rw [z1] at HOW
  have HN := Lib.hid hnn
  have HK := Lib.hid hK
  have HL2 : Hid (w.heap.size < w2.heap.size) := Lib.hid (by omega)
  obtain ⟨P, hP⟩ : ∃ P, (fun (e : Ending) (w' : World) => e = .returned (setsV (padD (stepD (l.map leftX) S c))) ∧ Below w.heap.size w w') = P := ⟨_, rfl⟩
  have HP := Lib.hid hP
  rw [hP]
  rw [hnn] at hG g2 hlen
  clear hP hw1 b1 r1 hown hgr m2 B2 hC hD hR hQ hi hz0 hz1 hz2 z2 hK hnn
  go_enter Tryd.func96, Tryd.ntmps96
  go_wp2_with fail
  go_loopg [5, 21] n (fun k v5 v21 wr => ∃ (j : Nat) (ro : Option Addr) (rc : Nat), v21 = .int .i64 (j : Nat) ∧ v5 = .slice ro j rc ∧ j ≤ n ∧ k = n - j ∧ Hid (wr.ownsRow (w.heap.size + 1) 2 1 (.slice ro j rc) j (((stepD (l.map leftX) S c).take j).map fun s => .int .i64 ((s : Nat) : Int))) ∧ Hid (Below (w.heap.size + 1) w2 wr))
  case atStart => exact ⟨0, _, _, rfl, rfl, Nat.zero_le _, rfl, Lib.hid (by simpa using HOW.out), Lib.hid (Below.refl _ _)⟩
  case round =>
    obtain ⟨j, ro, rc, rfl, rfl, hj, rfl, HO, HB⟩ := hrel
    have hbw := HB2.out.trans (HB.out.mono (by omega))
    have hsw := hbw.size
    have hsw2 : w.heap.size + 1 ≤ wr.heap.size := by have h1 := HB.out.size; have h2 := HL2.out; omega
    rcases Nat.lt_or_ge j n with hlt | hge
    · have d1 : decide (((j : Nat) : Int) < ((n : Nat) : Int)) = true := decide_eq_true (by omega)
      obtain ⟨x, hx⟩ : ∃ x, l[j]? = some x := ⟨_, List.getElem?_eq_getElem (by rw [HN.out]; exact hlt)⟩
      obtain ⟨s, hs⟩ : ∃ s, S[j]? = some s := ⟨_, List.getElem?_eq_getElem (by rw [HK.out.1, HN.out]; exact hlt)⟩
      have hxm := List.mem_of_getElem? hx
      obtain ⟨g, off, rfl, hc⟩ := HRW.out.at_ (by rw [HN.out]; omega)
      obtain ⟨u0, u1, u2, u3, u4⟩ := hc j x hx
      have t0 := cell_keepQ hbw u0
      have t1 := cell_keepQ hbw u1
      have t2 := cell_keepQ hbw u2
      have t3 := cell_keepQ hbw u3
      have t4 := cell_keepQ hbw u4
      have hlt2 := World.block_lt_of_cell? wr _ t0
      obtain ⟨w3, hw3⟩ : ∃ w3, wr.alloc (rulO x) = w3 := ⟨_, rfl⟩
      have b3 : Below wr.heap.size wr w3 := by rw [← hw3]; exact (Below.refl _ _).alloc (Nat.le_refl _) _
      have r3 : w3.heap[wr.heap.size]? = some (rulO x) := by rw [← hw3]; exact heap_alloc_new _ _
      have b3d : Below wr.heap.size wr w3.drew := b3.drew
      have hb3 := hbw.trans (b3d.mono hsw)
      obtain ⟨⟨i1, l1⟩, _⟩ := (HRW.out.its.below hb3) x hxm
      have hSt := Step_right x.1.1 x.1.2.1 x.1.2.2.1 x.1.2.2.2 (HRW.out.right x hxm) ((s : Nat) : Int) c (HK.out.2 j x s hx hs) w3.drew aP aS (HQW.out.below hb3) i1
      rw [Int.toNat_natCast] at hSt
      have hsd := step_at (c := c) hx hs
      have dj : w3.cell? ⟨db, j, none⟩ = some (.int .i64 ((s : Nat) : Int)) := sets_cellD (row_below HDW.out (hbw.trans (b3.mono hsw))) (padD_get hs)
      have hSN : Hid (((stepD (l.map leftX) S c).take (j + 1)).map (fun s => (Value.int .i64 ((s : Nat) : Int))) = (((stepD (l.map leftX) S c).take j).map fun s => .int .i64 ((s : Nat) : Int)) ++ [.int .i64 ((stepS x.1.2.2.1 x.1.1 c s : Nat) : Int)]) := Lib.hid (by
        rw [List.take_add_one, hsd, List.map_append]
        rfl)
      obtain ⟨y, hy⟩ : ∃ y, stepS x.1.2.2.1 x.1.1 c s = y := ⟨_, rfl⟩
      rw [hy] at hSt hSN
      obtain ⟨c0, c1, c2, c3, c4⟩ := rul_cells r3
      have hdl := World.block_lt_of_cell? w3 _ dj
      obtain ⟨⟨s1, p1, xs1, k1⟩, ⟨s2, p2, xs2, k2⟩, br⟩ := x
      replace hw3 : wr.alloc (.cells #[.bool s1, .slice p1 xs1.length k1, .bool s2, .slice p2 xs2.length k2, .bool br] 42) = w3 := hw3
      replace hSt : Calls Tryd.prog 97 #[.agg #[.bool s1, .slice p1 xs1.length k1], .int .i64 ((s : Nat) : Int), .int .i64 c] w3.drew fun e w' => e = .returned (.tuple #[.int .i64 ((y : Nat) : Int), .int .i64 0]) ∧ Below w3.drew.heap.size w3.drew w' := hSt
      simp only at t0 t1 t2 t3 t4 c0 c1 c2 c3 c4
      obtain ⟨m1, hm1⟩ : ∃ k, xs1.length = k := ⟨_, rfl⟩
      obtain ⟨m2, hm2⟩ : ∃ k, xs2.length = k := ⟨_, rfl⟩
      simp only [hm1, hm2] at t1 t3 c1 c3 hw3 hSt
      have HST := Lib.hid hSt
      have HW3 := Lib.hid hw3
      have HB3 := Lib.hid b3d
      have hjm : j < 1000000 := by omega
      clear hc hx hs hxm u0 u1 u2 u3 u4 b3 r3 hb3 i1 l1 hSt hsd hy hm1 hm2 hw3 hbw b3d
      go_wp2_with fail
      rw [HW3.out]
      go_region_with (go_at_call 97; refine HST.out.mono ?_; rintro e w4 ⟨rfl, b4⟩)
      all_goals
        have HB4 := Lib.hid (HB3.out.trans (show Below wr.heap.size w3.drew w4 from b4.mono HB3.out.size))
        have hz4 := HB4.out.size
        obtain ⟨g', cap', w6, hrun, hown', hgrow, _⟩ := i64_ownD y (own_below HO.out HB4.out) (by omega) (by omega)
        rw [← hSN.out] at hown'
        have HO6 := Lib.hid hown'
        have HB6 : Hid (Below (w.heap.size + 1) w2 w6) := Lib.hid (((HB.out.trans (HB4.out.mono (by omega))).alloc (by omega) _).grown hgrow (by rw [World.size_alloc]; omega) (fun k hk => own_rowD' HO.out hk))
        clear hown' hgrow b4
        go_wp2_with fail
        go_roundg (n - (j + 1))
        case measure => omega
        case rel => exact ⟨j + 1, _, _, by simp, rfl, by omega, rfl, HO6, HB6⟩
    · obtain rfl : j = n := by omega
      have hsl : (stepD (l.map leftX) S c).length = j := by rw [step_len _ _ _ (by rw [HK.out.1, List.length_map]), List.length_map, HN.out]
      have ho := HO.out
      rw [List.take_of_length_le (by rw [hsl]; exact Nat.le_refl _)] at ho
      have d1 : decide (((j : Nat) : Int) < ((j : Nat) : Int)) = false := decide_eq_false (by omega)
      have hSO := setsOf_any ro (stepD (l.map leftX) S c) rc (by omega) wr (nums_ownD (by rw [hsl]; exact ho))
      rw [hsl] at hSO
      have HSO := Lib.hid hSO
      have hr1 : wr.heap[w.heap.size]? = some (setsO (padD [])) := (HB.out.block _ (by omega)).trans HR1.out
      have HRR := Lib.hid hr1
      have HBW := Lib.hid hbw
      obtain ⟨T, hT⟩ : ∃ q, stepD (l.map leftX) S c = q := ⟨_, rfl⟩
      rw [hT] at HSO HP hsl
      clear ho hSO hbw hr1 hT
      go_wp2_with fail
      refine HSO.out.mono ?_
      rintro e w4 ⟨rfl, b4⟩
      obtain ⟨w5, hst, r5, m5⟩ := store_setsD (c := padD T) (padD_len (by omega)) (padD_len (S := []) (by simp)) (row_below HRR.out b4)
      have hb4 := HBW.out.trans (b4.mono HBW.out.size)
      have HQ : Hid (P (.returned (setsV (padD T))) w5) := Lib.hid (by
        rw [← HP.out]
        exact ⟨rfl, Moves.below hb4 hb4.size m5 (fun k hk => by omega)⟩)
      have HR5 := Lib.hid r5
      have hp40 : (padD T).length = 40 := padD_len (by omega)
      clear r5 m5 b4 hb4
      go_wp2_with fail
      exact bodyPost_ret (v := setsV (padD T)) (results_cellD rfl _ _ w.heap.size _ _ _ _ rfl HR5.out Tryd.underlying120 rfl (by rw [cellsD_size, hp40]; exact sets_infoD)) rfl HQ.out
end Go.Proofs.YtaoooocalpkhjaaDoor
namespace Go.Proofs.YtaoooocalpkhjaaDoor
open Go.RowKit Go.Shelf Go.Maps
attribute [local go_sem] Oper.semAt_some
attribute [local go_sem ↓] app_hide cop_hideD ld_hideD st_hideD lk_hideD mu_hideD bs_hideD

abbrev bldC (nx fi ru : Value) (n : Int) (m s wy : Value) : Array Value := #[nx, fi, ru, .int .i64 n, m, s, wy]
abbrev bldO (nx fi ru : Value) (n : Int) (m s wy : Value) : Obj := .cells (bldC nx fi ru n m s wy) 97 (0, 0)
theorem seven_setD {w : World} {g : Nat} {t : TypeId} {u0 u1 u2 u3 u4 u5 u6 : Value} (a b c d e f i : Value) (h : w.heap[g]? = some (.cells #[u0, u1, u2, u3, u4, u5, u6] t (0, 0))) :
    (((((((w.setCell ⟨g, 0, none⟩ a).setCell ⟨g, 1, none⟩ b).setCell ⟨g, 2, none⟩ c).setCell ⟨g, 3, none⟩ d).setCell ⟨g, 4, none⟩ e).setCell ⟨g, 5, none⟩ f).setCell ⟨g, 6, none⟩ i).heap[g]? = some (.cells #[a, b, c, d, e, f, i] t (0, 0)) ∧ Moves (fun k => k = g) w (((((((w.setCell ⟨g, 0, none⟩ a).setCell ⟨g, 1, none⟩ b).setCell ⟨g, 2, none⟩ c).setCell ⟨g, 3, none⟩ d).setCell ⟨g, 4, none⟩ e).setCell ⟨g, 5, none⟩ f).setCell ⟨g, 6, none⟩ i) := by
  have h1 : (w.setCell ⟨g, 0, none⟩ a).heap[g]? = some (.cells #[a, u1, u2, u3, u4, u5, u6] t (0, 0)) := by rw [heap_setCell_same _ _ _ _ _ _ h]; rfl
  have h2 : ((w.setCell ⟨g, 0, none⟩ a).setCell ⟨g, 1, none⟩ b).heap[g]? = some (.cells #[a, b, u2, u3, u4, u5, u6] t (0, 0)) := by rw [heap_setCell_same _ _ _ _ _ _ h1]; rfl
  have h3 : (((w.setCell ⟨g, 0, none⟩ a).setCell ⟨g, 1, none⟩ b).setCell ⟨g, 2, none⟩ c).heap[g]? = some (.cells #[a, b, c, u3, u4, u5, u6] t (0, 0)) := by rw [heap_setCell_same _ _ _ _ _ _ h2]; rfl
  have h4 : ((((w.setCell ⟨g, 0, none⟩ a).setCell ⟨g, 1, none⟩ b).setCell ⟨g, 2, none⟩ c).setCell ⟨g, 3, none⟩ d).heap[g]? = some (.cells #[a, b, c, d, u4, u5, u6] t (0, 0)) := by rw [heap_setCell_same _ _ _ _ _ _ h3]; rfl
  have h5 : (((((w.setCell ⟨g, 0, none⟩ a).setCell ⟨g, 1, none⟩ b).setCell ⟨g, 2, none⟩ c).setCell ⟨g, 3, none⟩ d).setCell ⟨g, 4, none⟩ e).heap[g]? = some (.cells #[a, b, c, d, e, u5, u6] t (0, 0)) := by rw [heap_setCell_same _ _ _ _ _ _ h4]; rfl
  have h6 : ((((((w.setCell ⟨g, 0, none⟩ a).setCell ⟨g, 1, none⟩ b).setCell ⟨g, 2, none⟩ c).setCell ⟨g, 3, none⟩ d).setCell ⟨g, 4, none⟩ e).setCell ⟨g, 5, none⟩ f).heap[g]? = some (.cells #[a, b, c, d, e, f, u6] t (0, 0)) := by rw [heap_setCell_same _ _ _ _ _ _ h5]; rfl
  exact ⟨by rw [heap_setCell_same _ _ _ _ _ _ h6]; rfl, ((((((Moves.setCell (S := fun k => k = g) rfl).trans (Moves.setCell (S := fun k => k = g) rfl)).trans (Moves.setCell (S := fun k => k = g) rfl)).trans (Moves.setCell (S := fun k => k = g) rfl)).trans (Moves.setCell (S := fun k => k = g) rfl)).trans (Moves.setCell (S := fun k => k = g) rfl)).trans (Moves.setCell (S := fun k => k = g) rfl)⟩
theorem seven_cells {w : World} {g : Nat} {t : TypeId} {u0 u1 u2 u3 u4 u5 u6 : Value} (h : w.heap[g]? = some (.cells #[u0, u1, u2, u3, u4, u5, u6] t (0, 0))) :
    w.cell? ⟨g, 0, none⟩ = some u0 ∧ w.cell? ⟨g, 1, none⟩ = some u1 ∧ w.cell? ⟨g, 2, none⟩ = some u2 ∧ w.cell? ⟨g, 3, none⟩ = some u3 ∧ w.cell? ⟨g, 4, none⟩ = some u4 ∧ w.cell? ⟨g, 5, none⟩ = some u5 ∧ w.cell? ⟨g, 6, none⟩ = some u6 ∧ ∀ i, w.frozen? ⟨g, i, none⟩ = false := by
  refine ⟨?_, ?_, ?_, ?_, ?_, ?_, ?_, fun i => frozen_of_row _ _ _ _ _ h⟩
  · rw [cell_of_row _ _ 0 _ _ _ h]; rfl
  · rw [cell_of_row _ _ 1 _ _ _ h]; rfl
  · rw [cell_of_row _ _ 2 _ _ _ h]; rfl
  · rw [cell_of_row _ _ 3 _ _ _ h]; rfl
  · rw [cell_of_row _ _ 4 _ _ _ h]; rfl
  · rw [cell_of_row _ _ 5 _ _ _ h]; rfl
  · rw [cell_of_row _ _ 6 _ _ _ h]; rfl
def BldR (c : List Int) (ru : Value) (n : Int) (w : World) (e : Ending) (w' : World) : Prop := ∃ M B, e = .returned (.agg (bldC (.slice none 0 0) (.slice none 0 0) ru n (.map (some M)) (.slice (some ⟨B, 0, none⟩) 1 1) (.slice none 0 0))) ∧ w.heap.size ≤ M ∧ w.heap.size ≤ B ∧ M ≠ B ∧ PlacesD w' M [c] ∧ w'.heap[B]? = some (setsO c) ∧ Below w.heap.size w w'
theorem first_atD {l : List RulX} {j : Nat} {x : RulX} (hx : l[j]? = some x) : (firstD (l.map leftX))[j]? = some (firstS x.1.2.2.1) := by
  unfold firstD
  rw [List.getElem?_map, List.getElem?_map, hx]
  rfl
theorem first_len (l : List RulX) : (firstD (l.map leftX)).length = l.length := by unfold firstD; rw [List.length_map, List.length_map]
set_option maxRecDepth 100000 in
set_option maxHeartbeats 4000000 in
theorem builderOf_any (o : Option Addr) (l : List RulX) (cap : Nat) (nn : Int) (w : World) (aP aS : Addr) (hQ : GlobH w aP aS) (hR : RulesD w o l) (hf : fitsD (padD (firstD (l.map leftX)))) :
    Calls Tryd.prog 56 #[.int .i64 nn, .slice o l.length cap] w (BldR (padD (firstD (l.map leftX))) (.slice o l.length cap) nn w) := by
  have hlen := hR.len
  obtain ⟨w1, hw1⟩ : ∃ w1, w.alloc (bldO (.slice none 0 0) (.slice none 0 0) (.slice none 0 0) 0 (.map none) (.slice none 0 0) (.slice none 0 0)) = w1 := ⟨_, rfl⟩
  have b1 : Below w.heap.size w w1 := by rw [← hw1]; exact (Below.refl _ _).alloc (Nat.le_refl _) _
  have z1 : w1.heap.size = w.heap.size + 1 := by rw [← hw1]; simp
  have r1 : w1.heap[w.heap.size]? = some (bldO (.slice none 0 0) (.slice none 0 0) (.slice none 0 0) 0 (.map none) (.slice none 0 0) (.slice none 0 0)) := by rw [← hw1]; exact heap_alloc_new _ _
  obtain ⟨n, hnn⟩ : ∃ n, l.length = n := ⟨_, rfl⟩
  obtain ⟨i0, hi, hz0, hz1, hz2⟩ := info_parts infoI64H
  obtain ⟨w2, hmk, hown, hgr⟩ := run_makeSlice_owned (P := Tryd.prog) (w := w1) w1.heap.size 23 2 i0 (.int .i64 0) 1 Tryd.underlying23 hi hz0 hz1 .i64 .i64 n (by omega) (by rw [hz2]; omega) (by unfold maxLen; omega) (Nat.le_refl _)
  have m2 : Below w1.heap.size w1 w2 := ⟨hgr.os, hgr.tape, hgr.output, hgr.size, fun k hk => hgr.block k hk (by simp)⟩
  have B2 := b1.trans (m2.mono b1.size)
  rw [z1] at hmk
  rw [← hw1] at hmk
  have z2 := m2.size
  have HRW := Lib.hid hR
  have HQW := Lib.hid hQ
  have HB2 := Lib.hid B2
  have HR1 := Lib.hid (row_below r1 m2)
  have HOW := Lib.hid hown
  rw [z1] at HOW
  have HN := Lib.hid hnn
  have HW1 := Lib.hid hw1
  have HFI := Lib.hid hf
  have HL2 : Hid (w.heap.size < w2.heap.size) := Lib.hid (by omega)
  obtain ⟨P, hP⟩ : ∃ P, BldR (padD (firstD (l.map leftX))) (.slice o l.length cap) nn w = P := ⟨_, rfl⟩
  have HP := Lib.hid hP
  rw [hP]
  rw [hnn] at hlen ⊢
  clear hP hw1 b1 r1 hown hgr m2 B2 hR hQ hi hz0 hz1 hz2 z2 hf hnn
  go_enter Tryd.func56, Tryd.ntmps56
  go_wp2_with fail
  go_loopg [5, 15] n (fun k v5 v21 wr => ∃ (j : Nat) (ro : Option Addr) (rc : Nat), v21 = .int .i64 (j : Nat) ∧ v5 = .slice ro j rc ∧ j ≤ n ∧ k = n - j ∧ Hid (wr.ownsRow (w.heap.size + 1) 2 1 (.slice ro j rc) j (((firstD (l.map leftX)).take j).map fun s => .int .i64 ((s : Nat) : Int))) ∧ Hid (Below (w.heap.size + 1) w2 wr))
  case atStart => exact ⟨0, _, _, rfl, rfl, Nat.zero_le _, rfl, Lib.hid (by simpa using HOW.out), Lib.hid (Below.refl _ _)⟩
  case round =>
    obtain ⟨j, ro, rc, rfl, rfl, hj, rfl, HO, HB⟩ := hrel
    have hbw := HB2.out.trans (HB.out.mono (by omega))
    have hsw := hbw.size
    have hsw2 : w.heap.size + 1 ≤ wr.heap.size := by have h1 := HB.out.size; have h2 := HL2.out; omega
    rcases Nat.lt_or_ge j n with hlt | hge
    · have d1 : decide (((j : Nat) : Int) < ((n : Nat) : Int)) = true := decide_eq_true (by omega)
      obtain ⟨x, hx⟩ : ∃ x, l[j]? = some x := ⟨_, List.getElem?_eq_getElem (by rw [HN.out]; exact hlt)⟩
      have hxm := List.mem_of_getElem? hx
      obtain ⟨g, off, rfl, hc⟩ := HRW.out.at_ (by rw [HN.out]; omega)
      obtain ⟨u0, u1, u2, u3, u4⟩ := hc j x hx
      have t0 := cell_keepQ hbw u0
      have t1 := cell_keepQ hbw u1
      have t2 := cell_keepQ hbw u2
      have t3 := cell_keepQ hbw u3
      have t4 := cell_keepQ hbw u4
      have hlt2 := World.block_lt_of_cell? wr _ t0
      obtain ⟨w3, hw3⟩ : ∃ w3, wr.alloc (rulO x) = w3 := ⟨_, rfl⟩
      have b3 : Below wr.heap.size wr w3 := by rw [← hw3]; exact (Below.refl _ _).alloc (Nat.le_refl _) _
      have r3 : w3.heap[wr.heap.size]? = some (rulO x) := by rw [← hw3]; exact heap_alloc_new _ _
      have hb3 := hbw.trans (b3.mono hsw)
      obtain ⟨⟨i1, l1⟩, _⟩ := (HRW.out.its.below hb3) x hxm
      have hSt := First_right x.1.1 x.1.2.1 x.1.2.2.1 x.1.2.2.2 (HRW.out.right x hxm) w3 aP aS (HQW.out.below hb3) i1
      have hsd := first_atD hx
      have hSN : Hid (((firstD (l.map leftX)).take (j + 1)).map (fun s => (Value.int .i64 ((s : Nat) : Int))) = (((firstD (l.map leftX)).take j).map fun s => .int .i64 ((s : Nat) : Int)) ++ [.int .i64 ((firstS x.1.2.2.1 : Nat) : Int)]) := Lib.hid (by
        rw [List.take_add_one, hsd, List.map_append]
        rfl)
      obtain ⟨y, hy⟩ : ∃ y, firstS x.1.2.2.1 = y := ⟨_, rfl⟩
      rw [hy] at hSt hSN
      obtain ⟨c0, c1, c2, c3, c4⟩ := rul_cells r3
      obtain ⟨⟨s1, p1, xs1, k1⟩, ⟨s2, p2, xs2, k2⟩, br⟩ := x
      replace hw3 : wr.alloc (.cells #[.bool s1, .slice p1 xs1.length k1, .bool s2, .slice p2 xs2.length k2, .bool br] 42) = w3 := hw3
      replace hSt : Calls Tryd.prog 72 #[.agg #[.bool s1, .slice p1 xs1.length k1]] w3 fun e w' => e = .returned (.tuple #[.int .i64 ((y : Nat) : Int), .int .i64 0]) ∧ Below w3.heap.size w3 w' := hSt
      simp only at t0 t1 t2 t3 t4 c0 c1 c2 c3 c4
      obtain ⟨m1, hm1⟩ : ∃ k, xs1.length = k := ⟨_, rfl⟩
      obtain ⟨m2, hm2⟩ : ∃ k, xs2.length = k := ⟨_, rfl⟩
      simp only [hm1, hm2] at t1 t3 c1 c3 hw3 hSt
      have HST := Lib.hid hSt
      have HW3 := Lib.hid hw3
      have HB3 := Lib.hid b3
      have hjm : j < 1000000 := by omega
      clear hc hx hxm u0 u1 u2 u3 u4 b3 r3 hb3 i1 l1 hSt hsd hy hm1 hm2 hw3 hbw
      go_wp2_with fail
      rw [HW3.out]
      go_wp2_with fail
      refine HST.out.mono ?_
      rintro e w4 ⟨rfl, b4⟩
      have HB4 := Lib.hid (HB3.out.trans (show Below wr.heap.size w3 w4 from b4.mono HB3.out.size))
      have hz4 := HB4.out.size
      obtain ⟨g', cap', w6, hrun, hown', hgrow, _⟩ := i64_ownD y (own_below HO.out HB4.out) (by omega) (by omega)
      rw [← hSN.out] at hown'
      have HO6 := Lib.hid hown'
      have HB6 : Hid (Below (w.heap.size + 1) w2 w6) := Lib.hid (((HB.out.trans (HB4.out.mono (by omega))).alloc (by omega) _).grown hgrow (by rw [World.size_alloc]; omega) (fun k hk => own_rowD' HO.out hk))
      clear hown' hgrow b4
      go_wp2_with fail
      go_roundg (n - (j + 1))
      case measure => omega
      case rel => exact ⟨j + 1, _, _, by simp, rfl, by omega, rfl, HO6, HB6⟩
    · obtain rfl : j = n := by omega
      have hsl : (firstD (l.map leftX)).length = j := by rw [first_len, HN.out]
      have ho := HO.out
      rw [List.take_of_length_le (by rw [hsl]; exact Nat.le_refl _)] at ho
      have d1 : decide (((j : Nat) : Int) < ((j : Nat) : Int)) = false := decide_eq_false (by omega)
      have hSO := setsOf_any ro (firstD (l.map leftX)) rc (by omega) wr (nums_ownD (by rw [hsl]; exact ho))
      rw [hsl] at hSO
      have HSO := Lib.hid hSO
      have hr1 := (HB.out.block w.heap.size (by omega)).trans HR1.out
      have HRR := Lib.hid hr1
      have HBW := Lib.hid hbw
      obtain ⟨T, hT⟩ : ∃ q, firstD (l.map leftX) = q := ⟨_, rfl⟩
      rw [hT] at HSO HP hsl HFI
      have HMW := Lib.hid (fun W => metWith_anyD (padD T) HFI.out W)
      unfold MetR at HMW
      clear ho hSO hbw hr1 hT
      go_wp2_with fail
      refine HSO.out.mono ?_
      rintro e w4 ⟨rfl, b4⟩
      go_wp2_with fail
      refine (HMW.out w4).mono ?_
      rintro e w5 ⟨M, B, rfl, hM, hB, hMB, hpl, hrow, b5⟩
      have b45 := b4.trans (b5.mono b4.size)
      have hr5 := row_below HRR.out b45
      obtain ⟨c0, c1, c2, c3, c4, c5, c6, fz⟩ := seven_cells hr5
      have f0 := fz 0
      have f1 := fz 1
      have f2 := fz 2
      have f3 := fz 3
      have f4 := fz 4
      have f5 := fz 5
      have f6 := fz 6
      have lz : w.heap.size < w5.heap.size := (Array.getElem?_eq_some_iff.1 hr5).1
      obtain ⟨h7, m7⟩ := seven_setD (.slice none 0 0) (.slice none 0 0) (.slice o j cap) (.int .i64 nn) (.map (some M)) (.slice (some ⟨B, 0, none⟩) 1 1) (.slice none 0 0) hr5
      obtain ⟨w7, hw7⟩ : ∃ w7, (((((((w5.setCell ⟨w.heap.size, 0, none⟩ (.slice none 0 0)).setCell ⟨w.heap.size, 1, none⟩ (.slice none 0 0)).setCell ⟨w.heap.size, 2, none⟩ (.slice o j cap)).setCell ⟨w.heap.size, 3, none⟩ (.int .i64 nn)).setCell ⟨w.heap.size, 4, none⟩ (.map (some M))).setCell ⟨w.heap.size, 5, none⟩ (.slice (some ⟨B, 0, none⟩) 1 1)).setCell ⟨w.heap.size, 6, none⟩ (.slice none 0 0)) = w7 := ⟨_, rfl⟩
      rw [hw7] at h7 m7
      have hb4z := b4.size
      have HQ : Hid (P (.returned (.agg (bldC (.slice none 0 0) (.slice none 0 0) (.slice o j cap) nn (.map (some M)) (.slice (some ⟨B, 0, none⟩) 1 1) (.slice none 0 0)))) w7) := Lib.hid (by
        rw [← HP.out]
        refine ⟨M, B, by rw [HN.out], by omega, by omega, hMB, hpl.row (m7.block _ hpl.lt (by omega)), row_keep hrow m7 (by omega), Moves.below (HBW.out.trans (b45.mono HBW.out.size)) (by have := HBW.out.size; omega) m7 (fun k hk => by omega)⟩)
      have HR7 := Lib.hid h7
      have HW7 := Lib.hid hw7
      clear h7 hw7 m7 fz hpl hrow b4 b5 b45 hr5
      go_wp2_with fail
      rw [HW7.out]
      exact bodyPost_ret (v := .agg _) (results_cellD rfl _ _ w.heap.size _ _ _ _ rfl HR7.out Tryd.underlying97 rfl (by kernel_rfl)) rfl HQ.out
end Go.Proofs.YtaoooocalpkhjaaDoor
namespace Go.Proofs.YtaoooocalpkhjaaDoor
open Go.RowKit Go.Shelf Go.Maps
attribute [local go_sem] Oper.semAt_some
attribute [local go_sem ↓] app_hide cop_hideD ld_hideD st_hideD lk_hideD mu_hideD bs_hideD

theorem steps_anyD (G : Nat) (S : List Nat) (w : World) : Calls Tryd.prog 76 #[.pointer (some ⟨G, 0, none⟩), setsV (padD S)] w fun e w' => e = .returned (.func (.func 96) #[] #[.pointer (some ⟨w.heap.size, 0, none⟩), .pointer (some ⟨w.heap.size + 1, 0, none⟩)]) ∧ (w.alloc (.cells #[.pointer (some ⟨G, 0, none⟩)] 122)).alloc (setsO (padD S)) = w' := by
  go_enter Tryd.func76, Tryd.ntmps76
  go_wp2
  go_ret
  exact ⟨rfl, rfl⟩
theorem isOver_any (G al ac : Nat) (ao : Option Addr) (w : World) (h : w.cell? ⟨G, 5, none⟩ = some (.slice ao al ac)) : Calls Tryd.prog 78 #[.pointer (some ⟨G, 0, none⟩)] w fun e w' => e = .returned (.bool (decide (300 < al))) ∧ w = w' := by
  have hlt := World.block_lt_of_cell? w _ h
  obtain ⟨b, hb⟩ : ∃ b, decide (300 < al) = b := ⟨_, rfl⟩
  have e1 : decide ((300 : Int) < ((al : Nat) : Int)) = b := by rw [← hb]; exact decide_eq_decide.2 (by omega)
  rw [hb]
  clear hb
  go_enter Tryd.func78, Tryd.ntmps78
  go_wp2
  go_ret
  exact ⟨rfl, rfl⟩
def doneB (R : List PatP) (S : List Nat) : List Bool := List.zipWith (fun p s => doneS p.2 s) R S
theorem doneB_len {R : List PatP} {S : List Nat} (h : S.length = R.length) : (doneB R S).length = R.length := by
  unfold doneB
  rw [List.length_zipWith, h, Nat.min_self]
theorem done_at {l : List RulX} {S : List Nat} {j s : Nat} {x : RulX} (hx : l[j]? = some x) (hs : S[j]? = some s) : (doneB (l.map leftX) S)[j]? = some (doneS x.1.2.2.1 s) := by
  unfold doneB
  rw [List.getElem?_zipWith, List.getElem?_map, hx, hs]
  rfl
theorem bitsD_lt : ∀ l : List Bool, bitsD l < 2 ^ l.length
  | [] => by simp [bitsD]
  | b :: t => by
    have := bitsD_lt t
    rw [bitsD, List.length_cons, Nat.pow_succ]
    split <;> omega
theorem bits_snoc : ∀ (l : List Bool) (b : Bool), bitsD (l ++ [b]) = bitsD l + (if b then 2 ^ l.length else 0)
  | [], b => by cases b <;> rfl
  | a :: t, b => by
    have ih := bits_snoc t b
    rw [List.cons_append, bitsD, bitsD, ih, List.length_cons, Nat.pow_succ]
    cases b <;> simp <;> omega
theorem or_top {x j : Nat} (h : x < 2 ^ j) : x ||| 2 ^ j = x + 2 ^ j := by
  have := Nat.two_pow_add_eq_or_of_lt h 1
  rw [Nat.mul_one] at this
  rw [Nat.or_comm, ← this]
  omega
theorem orD {x j : Nat} (hx : x < 2 ^ j) (hj : j < 40) : bits .or .i64 ((x : Nat) : Int) ((2 ^ j : Nat) : Int) = ((x + 2 ^ j : Nat) : Int) := by
  have h1 := Nat.pow_le_pow_right (n := 2) (by decide) (show j ≤ 40 by omega)
  rw [(bits_nat .i64 41 (by decide) (fun n h0 h1 => by rw [IntKind.wrap_i64]; omega) x (2 ^ j) (by omega) (by omega)).2, or_top hx]
theorem two_40 {n : Nat} (h : n ≤ 40) : 2 ^ n ≤ 1099511627776 := by
  have := Nat.pow_le_pow_right (n := 2) (by decide) h
  omega
theorem shlD {n : Nat} (h : n ≤ 40) : wrap64 (2 ^ n) = ((2 ^ n : Nat) : Int) := by
  have h2 := two_40 h
  rw [show ((2 : Int) ^ n) = ((2 ^ n : Nat) : Int) by simp]
  obtain ⟨p, hp⟩ : ∃ p, 2 ^ n = p := ⟨_, rfl⟩
  rw [hp] at h2 ⊢
  exact wrap_idK (by omega) (by omega)
theorem shlDI {n : Nat} (h : n ≤ 40) : IntKind.i64.wrap (2 ^ min n 64) = ((2 ^ n : Nat) : Int) := by
  have h2 := two_40 h
  rw [show min n 64 = n by omega, show ((2 : Int) ^ n) = ((2 ^ n : Nat) : Int) by simp]
  obtain ⟨p, hp⟩ : ∃ p, 2 ^ n = p := ⟨_, rfl⟩
  rw [hp] at h2 ⊢
  rw [IntKind.wrap_i64]
  omega
set_option maxRecDepth 100000 in
set_option maxHeartbeats 4000000 in
theorem done_anyD (G : Nat) (o : Option Addr) (l : List RulX) (cap : Nat) (S : List Nat) (w : World) (hR : RulesD w o l) (hK : KnowD l S) (hG : w.cell? ⟨G, 2, none⟩ = some (.slice o l.length cap)) :
    Calls Tryd.prog 79 #[.pointer (some ⟨G, 0, none⟩), setsV (padD S)] w fun e w' => e = .returned (.int .i64 ((doneD (l.map leftX) S : Nat) : Int)) ∧ Below w.heap.size w w' := by
  have hlen := hR.len
  show Calls _ _ _ _ fun e w' => e = .returned (.int .i64 ((bitsD (doneB (l.map leftX) S) : Nat) : Int)) ∧ Below w.heap.size w w'
  obtain ⟨w1, hw1⟩ : ∃ w1, w.alloc (setsO (padD S)) = w1 := ⟨_, rfl⟩
  have b1 : Below w.heap.size w w1 := by rw [← hw1]; exact (Below.refl _ _).alloc (Nat.le_refl _) _
  have z1 : w1.heap.size = w.heap.size + 1 := by rw [← hw1]; simp
  have r1 : w1.heap[w.heap.size]? = some (setsO (padD S)) := by rw [← hw1]; exact heap_alloc_new _ _
  obtain ⟨n, hnn⟩ : ∃ n, l.length = n := ⟨_, rfl⟩
  have lG := World.block_lt_of_cell? w _ hG
  have g1 := cell_keepQ b1 hG
  have HRW := Lib.hid hR
  have HB1 := Lib.hid b1
  have HR1 := Lib.hid r1
  have HZ1 := Lib.hid z1
  have HN := Lib.hid hnn
  have HK := Lib.hid hK
  have HW1 := Lib.hid hw1
  rw [hnn] at hG g1 hlen
  clear hw1 b1 r1 hR hK hnn z1
  go_enter Tryd.func79, Tryd.ntmps79
  go_wp2_with fail
  rw [HW1.out]
  go_wp2_with fail
  go_loopg [5, 13] n (fun k v5 v13 wr => ∃ (j : Nat), v13 = .int .i64 (j : Nat) ∧ v5 = .int .i64 ((bitsD ((doneB (l.map leftX) S).take j) : Nat) : Int) ∧ j ≤ n ∧ k = n - j ∧ Hid (Below (w.heap.size + 1) w1 wr))
  case atStart => exact ⟨0, rfl, by simp [bitsD], Nat.zero_le _, rfl, Lib.hid (Below.refl _ _)⟩
  case round =>
    obtain ⟨j, rfl, rfl, hj, rfl, HB⟩ := hrel
    have hbw := HB1.out.trans (HB.out.mono (by omega))
    have hsw := hbw.size
    have hsw2 : w.heap.size + 1 ≤ wr.heap.size := by have h1 := HB.out.size; have h2 := HZ1.out; omega
    have hdl : (doneB (l.map leftX) S).length = n := by rw [doneB_len (by rw [HK.out.1, List.length_map]), List.length_map, HN.out]
    rcases Nat.lt_or_ge j n with hlt | hge
    · have d1 : decide (((j : Nat) : Int) < ((n : Nat) : Int)) = true := decide_eq_true (by omega)
      obtain ⟨x, hx⟩ : ∃ x, l[j]? = some x := ⟨_, List.getElem?_eq_getElem (by rw [HN.out]; exact hlt)⟩
      obtain ⟨s, hs⟩ : ∃ s, S[j]? = some s := ⟨_, List.getElem?_eq_getElem (by rw [HK.out.1, HN.out]; exact hlt)⟩
      have hxm := List.mem_of_getElem? hx
      obtain ⟨g, off, rfl, hc⟩ := HRW.out.at_ (by rw [HN.out]; omega)
      obtain ⟨u0, u1, u2, u3, u4⟩ := hc j x hx
      have t0 := cell_keepQ hbw u0
      have t1 := cell_keepQ hbw u1
      have t2 := cell_keepQ hbw u2
      have t3 := cell_keepQ hbw u3
      have t4 := cell_keepQ hbw u4
      have hlt2 := World.block_lt_of_cell? wr _ t0
      obtain ⟨w3, hw3⟩ : ∃ w3, wr.alloc (rulO x) = w3 := ⟨_, rfl⟩
      have b3 : Below wr.heap.size wr w3 := by rw [← hw3]; exact (Below.refl _ _).alloc (Nat.le_refl _) _
      have r3 : w3.heap[wr.heap.size]? = some (rulO x) := by rw [← hw3]; exact heap_alloc_new _ _
      have b3d : Below wr.heap.size wr w3.drew := b3.drew
      have hb3 := hbw.trans (b3d.mono hsw)
      obtain ⟨⟨i1, l1⟩, _⟩ := (HRW.out.its.below hb3) x hxm
      have hSt := Done_right x.1.1 x.1.2.1 x.1.2.2.1 x.1.2.2.2 (HRW.out.right x hxm) ((s : Nat) : Int) w3.drew i1
      rw [HK.out.2 j x s hx hs, Bool.true_and, Int.toNat_natCast] at hSt
      have hsd := done_at hx hs
      have hr1 : wr.heap[w.heap.size]? = some (setsO (padD S)) := row_below HR1.out (show Below w1.heap.size w1 wr by rw [HZ1.out]; exact HB.out)
      have dj : w3.cell? ⟨w.heap.size, j, none⟩ = some (.int .i64 ((s : Nat) : Int)) := sets_cellD (row_below hr1 b3) (padD_get hs)
      obtain ⟨y, hy⟩ : ∃ y, doneS x.1.2.2.1 s = y := ⟨_, rfl⟩
      rw [hy] at hSt hsd
      obtain ⟨X, hX⟩ : ∃ X, bitsD ((doneB (l.map leftX) S).take j) = X := ⟨_, rfl⟩
      have hXl : X < 2 ^ j := by
        have := bitsD_lt ((doneB (l.map leftX) S).take j)
        rw [hX, List.length_take, hdl, Nat.min_eq_left hj] at this
        exact this
      have hSN : Hid (bitsD ((doneB (l.map leftX) S).take (j + 1)) = X + (if y then 2 ^ j else 0)) := Lib.hid (by
        rw [List.take_add_one, hsd, Option.toList_some, bits_snoc, hX, List.length_take, hdl, Nat.min_eq_left hj])
      have hor := orD hXl (show j < 40 by omega)
      have hs1 := shlD (show j ≤ 40 by omega)
      have hs2 := shlDI (show j ≤ 40 by omega)
      rw [hX]
      obtain ⟨p, hp⟩ : ∃ p, 2 ^ j = p := ⟨_, rfl⟩
      rw [hp] at hor hs1 hs2 hXl hSN
      obtain ⟨c0, c1, c2, c3, c4⟩ := rul_cells r3
      have hdl3 := World.block_lt_of_cell? w3 _ dj
      obtain ⟨⟨s1, p1, xs1, k1⟩, ⟨s2, p2, xs2, k2⟩, br⟩ := x
      replace hw3 : wr.alloc (.cells #[.bool s1, .slice p1 xs1.length k1, .bool s2, .slice p2 xs2.length k2, .bool br] 42) = w3 := hw3
      replace hSt : Calls Tryd.prog 98 #[.agg #[.bool s1, .slice p1 xs1.length k1], .int .i64 ((s : Nat) : Int)] w3.drew fun e w' => e = .returned (.bool y) ∧ Below w3.drew.heap.size w3.drew w' := hSt
      simp only at t0 t1 t2 t3 t4 c0 c1 c2 c3 c4
      obtain ⟨m1, hm1⟩ : ∃ k, xs1.length = k := ⟨_, rfl⟩
      obtain ⟨m2, hm2⟩ : ∃ k, xs2.length = k := ⟨_, rfl⟩
      simp only [hm1, hm2] at t1 t3 c1 c3 hw3 hSt
      have HST := Lib.hid hSt
      have HW3 := Lib.hid hw3
      have HB3 := Lib.hid b3d
      have hjm : j < 1000000 := by omega
      clear hc hx hs hxm u0 u1 u2 u3 u4 b3 r3 hb3 i1 l1 hSt hsd hy hm1 hm2 hw3 hbw b3d hp hX hr1 hdl
      go_wp2_with fail
      rw [HW3.out]
      go_region_with (go_at_call 98; refine HST.out.mono ?_; rintro e w4 ⟨rfl, b4⟩)
      all_goals
        have HB4 := Lib.hid (HB3.out.trans (show Below wr.heap.size w3.drew w4 from b4.mono HB3.out.size))
        have HB6 : Hid (Below (w.heap.size + 1) w1 w4) := Lib.hid (HB.out.trans (HB4.out.mono (by omega)))
        clear b4
        cases y
        · go_wp2_with fail
          go_roundg (n - (j + 1))
          case measure => omega
          case rel => exact ⟨j + 1, by simp, by rw [hSN.out]; simp, by omega, rfl, HB6⟩
        · go_wp2_with fail
          go_roundg (n - (j + 1))
          case measure => omega
          case rel => exact ⟨j + 1, by simp, by rw [hSN.out]; simp, by omega, rfl, HB6⟩
    · obtain rfl : j = n := by omega
      have d1 : decide (((j : Nat) : Int) < ((j : Nat) : Int)) = false := decide_eq_false (by omega)
      rw [List.take_of_length_le (by rw [hdl]; exact Nat.le_refl _)]
      have HBW := Lib.hid hbw
      clear hbw hdl
      go_wp2_with fail
      go_ret
      exact ⟨rfl, HBW.out⟩
end Go.Proofs.YtaoooocalpkhjaaDoor
