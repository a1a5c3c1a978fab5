/- A range over what goes through a text: the same law, where the rounds also turn blocks that they have laid themselves. -/
import Derived.Test.YtcdgmamlmapbcaaDoorRange
import Derived.Test.YtcdgmamlmapbcaaDoorSeqWalk2
namespace Go.Proofs.YtcdgmamlmapbcaaDoor
open Go.RowKit Go.Shelf
attribute [local go_sem] Oper.semAt_some

/-- What turns beside the body's own: the reader's blocks, and the two of the statement's book-keeping. -/
abbrev Beside2 (p : Nat) (mb : Option Nat) (n : Nat) (k : Nat) : Prop := Own p mb k ∨ k = n ∨ k = n + 1

set_option maxHeartbeats 1000000 in
theorem wpIn_scalars2 {n : Nat} {g : Operand} {ps : Array Tmp} {assign body : Code} {Q : Exit → Act → World → Prop} {a : Act} {w : World} {p b : Nat} {mb : Option Nat} {s : ByteArray} {aU aS : Addr} (hn : 4 ≤ n)
    (hg : a.eval g = .func (.func 55) #[] #[.pointer (some ⟨b, 0, none⟩)]) (hps : ps.size = 2) (hs : Sit w p s mb b aU aS) (Sc : Nat → Prop) (hA : Apart Sc p mb b aU aS) (hlt : ¬ Sc w.heap.size ∧ ¬ Sc (w.heap.size + 1))
    (I : List (Nat × Bool) → World → Prop) (Ix : Code → List (Nat × Bool) → World → Prop)
    (hI : ∀ xs A B, I xs A → Moves (Beside2 p mb w.heap.size) A B → I xs B) (hIx : ∀ c xs A B, Ix c xs A → Moves (Beside2 p mb w.heap.size) A B → Ix c xs B) (h0 : I [] w) (a₁ : Nat × Bool → Act)
    (hassign : ∀ (l : Nat) (x : Nat × Bool) (W : World) (K : Act → World → Prop), K (a₁ x) W →
      assign.wpIn (Fence.wide.inRound l) (n - 1 - 1) Tryd.prog (Exit.then K (fun _ _ _ => False)) { tmps := (ps.zip (encs aU x)).foldl (fun t (p, v) => t.setIfInBounds p v) a.tmps, defers := [] } W)
    (hbody : ∀ (l : Nat) (pre : List (Nat × Bool)) (x : Nat × Bool) (W : World), w.heap.size + 2 ≤ W.heap.size → pre ++ [x] <+: evs s.data.toList → I pre W → body.wpIn (Fence.wide.inRound l) (n - 1 - 1) Tryd.prog (roundEnd Sc I Ix (pre ++ [x]) W) (a₁ x) W)
    (hdone : ∀ (D : Nat) (W : World), w.heap.size ≤ D → I (evs s.data.toList) W → W.heap[D]? = some (.deferred (some [])) → Q .normal { a with defers := { target := .collected D, args := #[] } :: a.defers } W)
    (hstop : ∀ (D : Nat) (c : Code) (pre : List (Nat × Bool)) (W : World), w.heap.size ≤ D → pre <+: evs s.data.toList → Ix c pre W → W.heap[D]? = some (.deferred (some [])) →
      c.wpIn Fence.wide n Tryd.prog Q { a with defers := { target := .collected D, args := #[] } :: a.defers } W) :
    (Code.rangeFunc g ps assign body).wpIn Fence.wide n Tryd.prog Q a w := by
  refine wpIn_rangeFunc ?_
  intro fn hfn
  obtain ⟨rec, hrec⟩ : ∃ rec : LoopState → Option Code → Loop, rec = fun st pe => { state := st, pending := pe, fn, tmps := a.tmps, params := ps, assign, body, defers := w.heap.size } := ⟨_, rfl⟩
  obtain ⟨W1, hW1⟩ : ∃ W1, (w.alloc (.deferred (some []))).alloc (.loop (rec .ready none)) = W1 := ⟨_, rfl⟩
  have hL1 : W1.heap[w.heap.size + 1]? = some (.loop (rec .ready none)) := by
    rw [← hW1]; have := World.alloc_heap_new (w.alloc (.deferred (some []))) (.loop (rec .ready none)); rwa [World.size_alloc] at this
  have hK1 : W1.heap[w.heap.size]? = some (.deferred (some [])) := by
    rw [← hW1]; exact (Below.heap_alloc _ _ _ (by simp)).trans (World.alloc_heap_new w _)
  have hb1 : Below w.heap.size w W1 := by
    rw [← hW1]; exact ((Below.refl _ w).alloc (Nat.le_refl _) _).alloc (by simp) _
  have hI1 : I [] W1 := hI _ _ _ h0 (Moves.of_below hb1)
  have hs1 : Sit W1 p s mb b aU aS := hs.apart (Sc := fun _ => False) ⟨id, fun _ _ => id, id, id, id, id, id⟩ (Moves.of_below hb1)
  have hpl : ∀ k, Own p mb k → k < w.heap.size := by
    rintro k (rfl | e)
    · exact hs.rd.lt
    · obtain ⟨es, c, hh, _⟩ := hs.rd.good k e
      exact (Array.getElem?_eq_some_iff.1 hh).1
  have hbl : b < w.heap.size := by obtain ⟨t, hb⟩ := hs.box; exact (Array.getElem?_eq_some_iff.1 hb).1
  have keep : ∀ {S : Nat → Prop} {A B : World} {k : Nat} {o : Obj}, Moves S A B → ¬ S k → A.heap[k]? = some o → B.heap[k]? = some o := fun hm hk h => (hm.block _ (Array.getElem?_eq_some_iff.1 h).1 hk).trans h
  have put : ∀ {A : World} {k : Nat} {o : Obj}, k = w.heap.size ∨ k = w.heap.size + 1 → Moves (Beside2 p mb w.heap.size) A (A.putObj k o) := fun hk => Moves.putObj (.inr hk)
  let Sd : Nat → Prop := fun k => Sc k ∨ k = w.heap.size + 1
  have hAd : Apart Sd p mb b aU aS := by
    have l1 := hs.gl.ltU
    have l2 := hs.gl.ltS
    have l3 := hs.gl.lt_aU
    have l4 := hs.gl.lt_aS
    have l5 := hs.rd.lt
    exact {
      p := by rintro (h | h); exact hA.p h; omega
      m := by
        rintro m e (h | h)
        · exact hA.m m e h
        · have := hpl m (.inr e); omega
      b := by rintro (h | h); exact hA.b h; omega
      gU := by rintro (h | h); exact hA.gU h; omega
      gS := by rintro (h | h); exact hA.gS h; omega
      aU := by rintro (h | h); exact hA.aU h; omega
      aS := by rintro (h | h); exact hA.aS h; omega }
  have hOl : ∀ k, w.heap.size ≤ k → ¬ Own p mb k := fun k hk h => by have := hpl k h; omega
  refine ⟨w.heap.size + 1, [{ target := .collected w.heap.size, args := #[] }], W1, { target := .fn (.func 55) #[.pointer (some ⟨b, 0, none⟩)], args := #[.func (.yield (w.heap.size + 1)) #[] #[]] }, W1, 55,
    #[.func (.yield (w.heap.size + 1)) #[] #[]] ++ #[.pointer (some ⟨b, 0, none⟩)], W1, ?_, ?_, ?_, ?_, fun _ => by omega, ?_⟩
  · rw [← hW1, hrec]; exact run_enterLoop_outer _ _ _ _ _
  · simp only [resolve, hg]
    simp [go_sem]
  · intro f' hf'; exact trivial
  · have eg : ∀ args w, (callFunc 55 args).run Tryd.prog w = .ok (.enter 55 args) w := enters_of Tryd.func55 (by kernel_rfl) rfl
    simp [invoke, go_sem, eg]
  · refine (scalars1_told (n := n - 1) (l := w.heap.size + 1) (Sc := Sd)
      (J := fun pre W => I pre W ∧ W.heap[w.heap.size + 1]? = some (.loop (rec .ready none)) ∧ W.heap[w.heap.size]? = some (.deferred (some [])))
      (Jx := fun pre W => ∃ c, Ix c pre W ∧ W.heap[w.heap.size + 1]? = some (.loop (rec .done (some c))) ∧ W.heap[w.heap.size]? = some (.deferred (some [])))
      (by omega) hAd ?_ ?_ hs1 ⟨hI1, hL1, hK1⟩).mono ?_
    · rintro xs A B ⟨hi, hl, hk⟩ hm
      exact ⟨hI _ _ _ hi (hm.mono fun k h => .inl h), keep hm (hOl _ (by omega)) hl, keep hm (hOl _ (Nat.le_refl _)) hk⟩
    · rintro pre x W hpx ⟨hi, hl, hk⟩
      have hlt1 : w.heap.size + 1 < W.heap.size := (Array.getElem?_eq_some_iff.1 hl).1
      have hy := run_yield (P := Tryd.prog) (args := encs aU x) hl (by rw [hrec]; exact hps.symm)
      rw [hrec] at hy
      refine ⟨fn, _, assign, body, hy, roundIn_of_wpIn hfn (hassign _ x W _ ⟨_, run_beginRound hl (by rw [hrec]), ?_⟩)⟩
      have hl2 : (W.putObj (w.heap.size + 1) (.loop { rec .ready none with state := .busy })).heap[w.heap.size + 1]? = some (.loop { rec .ready none with state := .busy }) := World.putObj_heap_same hlt1
      have hk2 : (W.putObj (w.heap.size + 1) (.loop { rec .ready none with state := .busy })).heap[w.heap.size]? = some (.deferred (some [])) := (World.putObj_heap_other (by omega)).trans hk
      have hw2 : Moves Sd W (W.putObj (w.heap.size + 1) (.loop { rec .ready none with state := .busy })) := Moves.putObj (.inr rfl)
      refine wpIn_mono (hbody _ pre x _ (by rw [World.putObj_size]; omega) hpx (hI _ _ _ hi (put (.inr rfl)))) ?_
      have fin : ∀ (jump : Option Code) (W3 : World), Moves Sc (W.putObj (w.heap.size + 1) (.loop { rec .ready none with state := .busy })) W3 →
          (Instr.endRound (w.heap.size + 1) jump).run Tryd.prog W3 = .ok (.bool jump.isNone) (W3.putObj (w.heap.size + 1) (.loop (rec (if jump.isNone then .ready else .done) jump))) ∧
          (W3.putObj (w.heap.size + 1) (.loop (rec (if jump.isNone then .ready else .done) jump))).heap[w.heap.size + 1]? = some (.loop (rec (if jump.isNone then .ready else .done) jump)) ∧
          (W3.putObj (w.heap.size + 1) (.loop (rec (if jump.isNone then .ready else .done) jump))).heap[w.heap.size]? = some (.deferred (some [])) := fun jump W3 hk3 => by
        have hl3 := keep hk3 hlt.2 hl2
        have := run_endRound (P := Tryd.prog) jump hl3
        rw [hrec] at this ⊢
        exact ⟨this, World.putObj_heap_same (Array.getElem?_eq_some_iff.1 hl3).1, (World.putObj_heap_other (by omega)).trans (keep hk3 hlt.1 hk2)⟩
      have all : ∀ {W3 : World} {o : Obj}, Moves Sc (W.putObj (w.heap.size + 1) (.loop { rec .ready none with state := .busy })) W3 → Moves Sd W (W3.putObj (w.heap.size + 1) o) := fun hk3 => (hw2.trans (hk3.mono fun k h => .inl h)).trans (Moves.putObj (.inr rfl))
      rintro e a3 W3 hp
      cases e with
      | normal =>
        obtain ⟨hk3, hi3⟩ := hp
        obtain ⟨hr, hl4, hk4⟩ := fin none W3 hk3
        exact ⟨_, _, hr, .inl ⟨rfl, ⟨hI _ _ _ hi3 (put (.inr rfl)), hl4, hk4⟩, all hk3⟩⟩
      | ret =>
        obtain ⟨hk3, hi3⟩ := hp
        obtain ⟨hr, hl4, hk4⟩ := fin (some .ret) W3 hk3
        exact ⟨_, _, hr, .inr ⟨rfl, .ret, hIx _ _ _ _ hi3 (put (.inr rfl)), hl4, hk4⟩⟩
      | exit id =>
        obtain ⟨hk3, hi3⟩ := hp
        obtain ⟨hr, hl4, hk4⟩ := fin (some (.exit id)) W3 hk3
        exact ⟨_, _, hr, .inr ⟨rfl, .exit id, hIx _ _ _ _ hi3 (put (.inr rfl)), hl4, hk4⟩⟩
      | goto t =>
        obtain ⟨hk3, hi3⟩ := hp
        obtain ⟨hr, hl4, hk4⟩ := fin (some (.goto t)) W3 hk3
        exact ⟨_, _, hr, .inr ⟨rfl, .goto t, hIx _ _ _ _ hi3 (put (.inr rfl)), hl4, hk4⟩⟩
      | panic ch => exact hp.elim
      | outgrown => exact hp.elim
    · rintro e W2 ⟨⟨v, rfl⟩, (⟨hi, hl, hk⟩ | ⟨pre, hSp, c, hi, hl, hk⟩)⟩
      · exact ⟨none, _, by have := run_endLoop (P := Tryd.prog) hl (by rw [hrec]; simp); rw [hrec] at this; exact this, hdone _ _ (Nat.le_refl _) (hI _ _ _ hi (put (.inr rfl))) ((World.putObj_heap_other (by omega)).trans hk)⟩
      · exact ⟨some c, _, by have := run_endLoop (P := Tryd.prog) hl (by rw [hrec]; simp); rw [hrec] at this; exact this, hstop _ c pre _ (Nat.le_refl _) hSp (hIx _ _ _ _ hi (put (.inr rfl))) ((World.putObj_heap_other (by omega)).trans hk)⟩
end Go.Proofs.YtcdgmamlmapbcaaDoor
