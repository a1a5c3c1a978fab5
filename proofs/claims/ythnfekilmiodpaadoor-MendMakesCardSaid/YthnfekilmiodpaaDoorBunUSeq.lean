/- A range over a function, whatever it goes through: the law of the statement at the contract of the function that yields. units: what goes through a text's units: the contract of the function that yields them. whole, units; Bad. -/
import Derived.Test.YthnfekilmiodpaaDoorBunNext
import Derived.RangeFuncNested
import Derived.RangeFuncBound
import Derived.RangeFuncCalls
import Derived.RangeFuncLeaves
import Derived.Shelf.Abstract
import Derived.Shelf.RegionOpen
import Derived.WalkKit
import Derived.OwnWalkIn
import Derived.TacticsInMore
import Derived.LoopNIn
import Derived.LoopIn
import Derived.Sort.LoopGhostIn
import Derived.Test.YthnfekilmiodpaaDoorBunUBad
import Derived.Test.YthnfekilmiodpaaDoorBunSeq
namespace Go.Proofs.YthnfekilmiodpaaDoor
open Go.RowKit Go.Shelf
attribute [local go_sem] Oper.semAt_some

/-- THE CONTRACT OF A FUNCTION THAT YIELDS all, one by one. It may turn the blocks Ow alone, beside new ones; it leans on the blocks Dep, and on what it has laid itself since. A round that begins in the world A may turn the blocks S A alone, beside new ones: none of Dep; and what the iterator does makes S no greater. -/
def SeqOf {α : Type} (P : Program) (n : Nat) (f : Nat) (lb : Array Value) (encs : α → Array Value) (Ow Dep : Nat → Prop) (all : List α) (w : World) : Prop :=
  ∀ (W : World) (l : Nat) (S : World → Nat → Prop) (J Jx : List α → World → Prop), Moves (fun _ => False) w W →
    (∀ xs A k, J xs A → S A k → k < A.heap.size ∧ ¬ Dep k) → (∀ xs A B k, J xs A → Moves Ow A B → S B k → S A k) →
    (∀ xs A B, J xs A → Moves Ow A B → J xs B) →
    (∀ xs x A, xs ++ [x] <+: all → J xs A → YieldAt Fence.wide (n - 1) P l (encs x) A fun e A' => (e = .returned (.bool true) ∧ J (xs ++ [x]) A' ∧ Moves (S A) A A') ∨ (e = .returned (.bool false) ∧ Jx (xs ++ [x]) A')) →
    J [] W →
    CallsIn Fence.wide n P f (#[.func (.yield l) #[] #[]] ++ lb) W fun e W' => (∃ v, e = .returned v) ∧ (J all W' ∨ ∃ xs, xs <+: all ∧ Jx xs W')

theorem SeqOf.later {α : Type} {P : Program} {n f : Nat} {lb : Array Value} {encs : α → Array Value} {Ow Dep : Nat → Prop} {all : List α} {w w' : World} (h : SeqOf P n f lb encs Ow Dep all w) (hm : Moves (fun _ => False) w w') : SeqOf P n f lb encs Ow Dep all w' :=
  fun W l S J Jx h1 => h W l S J Jx (hm.trans h1)

/-- How the body of a round may be left. -/
def seqEnd {α : Type} (S : World → Nat → Prop) (I : List α → World → Prop) (Ix : Code → List α → World → Prop) (xs : List α) (W : World) : Exit → Act → World → Prop
  | .normal, _, W' => Moves (S W) W W' ∧ I xs W'
  | .ret, _, W' => Moves (S W) W W' ∧ Ix .ret xs W'
  | .exit id, _, W' => Moves (S W) W W' ∧ Ix (.exit id) xs W'
  | .goto t, _, W' => Moves (S W) W W' ∧ Ix (.goto t) xs W'
  | .panic _, _, _ => False
  | .outgrown, _, _ => False
/-- What turns beside the body's own: the iterator's blocks, and the two of the statement's book-keeping. -/
abbrev BesideS (Ow : Nat → Prop) (n : Nat) (k : Nat) : Prop := Ow k ∨ k = n ∨ k = n + 1

set_option maxHeartbeats 1000000 in
theorem wpIn_seq {α : Type} {P : Program} {n : Nat} {f : Nat} {lb : Array Value} {encs : α → Array Value} {Ow Dep : Nat → Prop} {all : List α} {g : Operand} {ps : Array Tmp} {assign body : Code} {Q : Exit → Act → World → Prop} {a : Act} {w : World} (hn : 4 ≤ n)
    (hg : a.eval g = .func (.func f) #[] lb) (henter : ∀ args w, (callFunc f args).run P w = .ok (.enter f args) w) (hps : ∀ x, (encs x).size = ps.size) (hs : SeqOf P (n - 1) f lb encs Ow Dep all w)
    (hOw : ∀ k, Ow k → k < w.heap.size) (hDep : ∀ k, Dep k → k < w.heap.size)
    (I : List α → World → Prop) (Ix : Code → List α → World → Prop) (S : World → Nat → Prop)
    (hS1 : ∀ xs A k, w.heap.size + 2 ≤ A.heap.size → I xs A → S A k → k < A.heap.size ∧ ¬ Dep k ∧ k ≠ w.heap.size ∧ k ≠ w.heap.size + 1) (hS2 : ∀ xs A B k, I xs A → Moves (BesideS Ow w.heap.size) A B → S B k → S A k)
    (hI : ∀ xs A B, I xs A → Moves (BesideS Ow w.heap.size) A B → I xs B) (hIx : ∀ c xs A B, Ix c xs A → Moves (BesideS Ow w.heap.size) A B → Ix c xs B) (h0 : I [] w)
    (a₁ : Nat → α → Act) (G : World → α → World → Prop) (hG : ∀ A x B, G A x B → Moves (fun _ => False) A B)
    (hassign : ∀ (l : Nat) (x : α) (A : World) (K : Act → World → Prop), (∀ B, G A x B → K (a₁ A.heap.size x) B) →
      assign.wpIn (Fence.wide.inRound l) (n - 1 - 1) P (Exit.then K (fun _ _ _ => False)) { tmps := (ps.zip (encs x)).foldl (fun t (p, v) => t.setIfInBounds p v) a.tmps, defers := [] } A)
    (hbody : ∀ (l : Nat) (pre : List α) (x : α) (A B W : World), w.heap.size + 2 ≤ A.heap.size → pre ++ [x] <+: all → G A x B → Moves (fun k => k = w.heap.size + 1) B W → I pre W →
      body.wpIn (Fence.wide.inRound l) (n - 1 - 1) P (seqEnd S I Ix (pre ++ [x]) W) (a₁ A.heap.size x) W)
    (hdone : ∀ (D : Nat) (W : World), w.heap.size ≤ D → I all W → W.heap[D]? = some (.deferred (some [])) → Q .normal { a with defers := { target := .collected D, args := #[] } :: a.defers } W)
    (hstop : ∀ (D : Nat) (c : Code) (pre : List α) (W : World), w.heap.size ≤ D → pre <+: all → Ix c pre W → W.heap[D]? = some (.deferred (some [])) →
      c.wpIn Fence.wide n P Q { a with defers := { target := .collected D, args := #[] } :: a.defers } W) :
    (Code.rangeFunc g ps assign body).wpIn Fence.wide n P Q a w := by
  refine wpIn_rangeFunc ?_
  intro fn hfn
  obtain ⟨rec, hrec⟩ : ∃ rec : LoopState → Option Code → Loop, rec = fun st pe => { state := st, pending := pe, fn, tmps := a.tmps, params := ps, assign, body, defers := w.heap.size } := ⟨_, rfl⟩
  obtain ⟨W1, hW1⟩ : ∃ W1, (w.alloc (.deferred (some []))).alloc (.loop (rec .ready none)) = W1 := ⟨_, rfl⟩
  have hL1 : W1.heap[w.heap.size + 1]? = some (.loop (rec .ready none)) := by
    rw [← hW1]; have := World.alloc_heap_new (w.alloc (.deferred (some []))) (.loop (rec .ready none)); rwa [World.size_alloc] at this
  have hK1 : W1.heap[w.heap.size]? = some (.deferred (some [])) := by
    rw [← hW1]; exact (Below.heap_alloc _ _ _ (by simp)).trans (World.alloc_heap_new w _)
  have hb1 : Below w.heap.size w W1 := by
    rw [← hW1]; exact ((Below.refl _ w).alloc (Nat.le_refl _) _).alloc (by simp) _
  have hI1 : I [] W1 := hI _ _ _ h0 (Moves.of_below hb1)
  have keep : ∀ {S : Nat → Prop} {A B : World} {k : Nat} {o : Obj}, Moves S A B → ¬ S k → A.heap[k]? = some o → B.heap[k]? = some o := fun hm hk h => (hm.block _ (Array.getElem?_eq_some_iff.1 h).1 hk).trans h
  have put : ∀ {A : World} {k : Nat} {o : Obj}, k = w.heap.size ∨ k = w.heap.size + 1 → Moves (BesideS Ow w.heap.size) A (A.putObj k o) := fun hk => Moves.putObj (.inr hk)
  have hOl : ∀ k, w.heap.size ≤ k → ¬ Ow k := fun k hk h => by have := hOw k h; omega
  refine ⟨w.heap.size + 1, [{ target := .collected w.heap.size, args := #[] }], W1, { target := .fn (.func f) lb, args := #[.func (.yield (w.heap.size + 1)) #[] #[]] }, W1, f,
    #[.func (.yield (w.heap.size + 1)) #[] #[]] ++ lb, W1, ?_, ?_, ?_, ?_, fun _ => by omega, ?_⟩
  · rw [← hW1, hrec]; exact run_enterLoop_outer _ _ _ _ _
  · simp only [resolve, hg]
    simp [go_sem]
  · intro f' hf'; exact trivial
  · simp [invoke, go_sem, henter]
  · refine (hs W1 (w.heap.size + 1) (fun A k => S A k ∨ k = w.heap.size + 1)
      (fun pre W => I pre W ∧ W.heap[w.heap.size + 1]? = some (.loop (rec .ready none)) ∧ W.heap[w.heap.size]? = some (.deferred (some [])))
      (fun pre W => ∃ c, Ix c pre W ∧ W.heap[w.heap.size + 1]? = some (.loop (rec .done (some c))) ∧ W.heap[w.heap.size]? = some (.deferred (some [])))
      (Moves.of_below hb1) ?_ ?_ ?_ ?_ ⟨hI1, hL1, hK1⟩).mono ?_
    · rintro xs A k ⟨hi, hl, hk⟩ (h | rfl)
      · have hlt1 : w.heap.size + 1 < A.heap.size := (Array.getElem?_eq_some_iff.1 hl).1
        have := hS1 _ _ _ (by omega) hi h; exact ⟨this.1, this.2.1⟩
      · exact ⟨(Array.getElem?_eq_some_iff.1 hl).1, fun h => by have := hDep _ h; omega⟩
    · rintro xs A B k ⟨hi, hl, hk⟩ hm (h | h)
      · exact .inl (hS2 _ _ _ _ hi (hm.mono fun k h => .inl h) h)
      · exact .inr h
    · rintro xs A B ⟨hi, hl, hk⟩ hm
      exact ⟨hI _ _ _ hi (hm.mono fun k h => .inl h), keep hm (hOl _ (by omega)) hl, keep hm (hOl _ (Nat.le_refl _)) hk⟩
    · rintro pre x W hpx ⟨hi, hl, hk⟩
      have hlt1 : w.heap.size + 1 < W.heap.size := (Array.getElem?_eq_some_iff.1 hl).1
      have hy := run_yield (P := P) (args := encs x) hl (by rw [hrec]; exact hps x)
      rw [hrec] at hy
      refine ⟨fn, _, assign, body, hy, roundIn_of_wpIn hfn (hassign _ x W _ fun B hGB => ?_)⟩
      have hGm := hG _ _ _ hGB
      have hlB : B.heap[w.heap.size + 1]? = some (.loop (rec .ready none)) := keep hGm id hl
      have hkB : B.heap[w.heap.size]? = some (.deferred (some [])) := keep hGm id hk
      have hltB : w.heap.size + 1 < B.heap.size := (Array.getElem?_eq_some_iff.1 hlB).1
      refine ⟨_, run_beginRound hlB (by rw [hrec]), ?_⟩
      have hl2 : (B.putObj (w.heap.size + 1) (.loop { rec .ready none with state := .busy })).heap[w.heap.size + 1]? = some (.loop { rec .ready none with state := .busy }) := World.putObj_heap_same hltB
      have hk2 : (B.putObj (w.heap.size + 1) (.loop { rec .ready none with state := .busy })).heap[w.heap.size]? = some (.deferred (some [])) := (World.putObj_heap_other (by omega)).trans hkB
      have hw2 : Moves (fun k => k = w.heap.size + 1) W (B.putObj (w.heap.size + 1) (.loop { rec .ready none with state := .busy })) := (hGm.mono fun k h => h.elim).trans (Moves.putObj rfl)
      have hIB := hI _ _ _ hi (hw2.mono fun k h => .inr (.inr h))
      have hS3 : ∀ k, S (B.putObj (w.heap.size + 1) (.loop { rec .ready none with state := .busy })) k → S W k := fun k h => hS2 _ _ _ _ hi (hw2.mono fun k h => .inr (.inr h)) h
      have hS4 : ∀ k, S (B.putObj (w.heap.size + 1) (.loop { rec .ready none with state := .busy })) k → k ≠ w.heap.size ∧ k ≠ w.heap.size + 1 := fun k h => (hS1 _ _ _ (by rw [World.putObj_size]; omega) hIB h).2.2
      refine wpIn_mono (hbody _ pre x W B _ (by omega) hpx hGB (Moves.putObj rfl) hIB) ?_
      have fin : ∀ (jump : Option Code) (W3 : World), Moves (S (B.putObj (w.heap.size + 1) (.loop { rec .ready none with state := .busy }))) (B.putObj (w.heap.size + 1) (.loop { rec .ready none with state := .busy })) W3 →
          (Instr.endRound (w.heap.size + 1) jump).run P W3 = .ok (.bool jump.isNone) (W3.putObj (w.heap.size + 1) (.loop (rec (if jump.isNone then .ready else .done) jump))) ∧
          (W3.putObj (w.heap.size + 1) (.loop (rec (if jump.isNone then .ready else .done) jump))).heap[w.heap.size + 1]? = some (.loop (rec (if jump.isNone then .ready else .done) jump)) ∧
          (W3.putObj (w.heap.size + 1) (.loop (rec (if jump.isNone then .ready else .done) jump))).heap[w.heap.size]? = some (.deferred (some [])) := fun jump W3 hk3 => by
        have hl3 := keep hk3 (fun h => (hS4 _ h).2 rfl) hl2
        have := run_endRound (P := P) jump hl3
        rw [hrec] at this ⊢
        exact ⟨this, World.putObj_heap_same (Array.getElem?_eq_some_iff.1 hl3).1, (World.putObj_heap_other (by omega)).trans (keep hk3 (fun h => (hS4 _ h).1 rfl) hk2)⟩
      have all : ∀ {W3 : World} {o : Obj}, Moves (S (B.putObj (w.heap.size + 1) (.loop { rec .ready none with state := .busy }))) (B.putObj (w.heap.size + 1) (.loop { rec .ready none with state := .busy })) W3 → Moves (fun k => S W k ∨ k = w.heap.size + 1) W (W3.putObj (w.heap.size + 1) o) := fun hk3 => ((hw2.mono fun k h => .inr h).trans (hk3.mono fun k h => .inl (hS3 k h))).trans (Moves.putObj (.inr rfl))
      rintro e a3 W3 hp
      cases e with
      | normal =>
        obtain ⟨hk3, hi3⟩ := hp
        obtain ⟨hr, hl4, hk4⟩ := fin none W3 hk3
        exact ⟨_, _, hr, .inl ⟨rfl, ⟨hI _ _ _ hi3 (put (.inr rfl)), hl4, hk4⟩, all hk3⟩⟩
      | ret =>
        obtain ⟨hk3, hi3⟩ := hp
        obtain ⟨hr, hl4, hk4⟩ := fin (some .ret) W3 hk3
        exact ⟨_, _, hr, .inr ⟨rfl, .ret, hIx _ _ _ _ hi3 (put (.inr rfl)), hl4, hk4⟩⟩
      | exit id =>
        obtain ⟨hk3, hi3⟩ := hp
        obtain ⟨hr, hl4, hk4⟩ := fin (some (.exit id)) W3 hk3
        exact ⟨_, _, hr, .inr ⟨rfl, .exit id, hIx _ _ _ _ hi3 (put (.inr rfl)), hl4, hk4⟩⟩
      | goto t =>
        obtain ⟨hk3, hi3⟩ := hp
        obtain ⟨hr, hl4, hk4⟩ := fin (some (.goto t)) W3 hk3
        exact ⟨_, _, hr, .inr ⟨rfl, .goto t, hIx _ _ _ _ hi3 (put (.inr rfl)), hl4, hk4⟩⟩
      | panic ch => exact hp.elim
      | outgrown => exact hp.elim
    · rintro e W2 ⟨⟨v, rfl⟩, (⟨hi, hl, hk⟩ | ⟨pre, hSp, c, hi, hl, hk⟩)⟩
      · exact ⟨none, _, by have := run_endLoop (P := P) hl (by rw [hrec]; simp); rw [hrec] at this; exact this, hdone _ _ (Nat.le_refl _) (hI _ _ _ hi (put (.inr rfl))) ((World.putObj_heap_other (by omega)).trans hk)⟩
      · exact ⟨some c, _, by have := run_endLoop (P := P) hl (by rw [hrec]; simp); rw [hrec] at this; exact this, hstop _ c pre _ (Nat.le_refl _) hSp (hIx _ _ _ _ hi (put (.inr rfl))) ((World.putObj_heap_other (by omega)).trans hk)⟩
end Go.Proofs.YthnfekilmiodpaaDoor

namespace Go.Proofs.YthnfekilmiodpaaDoor
open Go.RowKit Go.Shelf
attribute [local go_sem] Oper.semAt_some

abbrev encU (x : Nat × Nat × Bool) : Array Value := #[unitV x.1 x.2.1 x.2.2]
abbrev menderC (s : ByteArray) (p : Nat) : Array Value := #[.string s, .int .i64 (p : Nat)]
/-- What the iterator leans on. -/
def DepU (b : Nat) (aU aS : Addr) (k : Nat) : Prop := k = b ∨ k = 1 ∨ k = 2 ∨ k = aU.block ∨ k = aS.block

theorem row_keep {S : Nat → Prop} {A B : World} {k : Nat} {o : Obj} (h : A.heap[k]? = some o) (hm : Moves S A B) (hk : ¬ S k) : B.heap[k]? = some o := (hm.block _ (Array.getElem?_eq_some_iff.1 h).1 hk).trans h
theorem row_below {A B : World} {k : Nat} {o : Obj} (h : A.heap[k]? = some o) (hb : Below A.heap.size A B) : B.heap[k]? = some o := (hb.block _ (Array.getElem?_eq_some_iff.1 h).1).trans h
theorem row_cells {A : World} {k : Nat} {t : TypeId} {u v : Value} (h : A.heap[k]? = some (.cells #[u, v] t (0, 0))) : A.cell? ⟨k, 0, none⟩ = some u ∧ A.cell? ⟨k, 1, none⟩ = some v := by
  constructor
  · rw [cell_of_row _ _ 0 _ _ _ h]; rfl
  · rw [cell_of_row _ _ 1 _ _ _ h]; rfl

set_option maxRecDepth 100000 in
set_option maxHeartbeats 1000000 in
theorem seqUnits {b p : Nat} {s : ByteArray} {w : World} {aU aS : Addr} (hs : s.size ≤ 50000) (hp : p ≤ 50000) (hb : w.heap[b]? = some (.cells (menderC s p) 54 (0, 0))) (hG : Glob w aU aS) :
    SeqOf Tryd.prog 4 37 #[.pointer (some ⟨b, 0, none⟩)] encU (fun _ => False) (DepU b aU aS) (uevs p (s.data.toList.drop p)) w := by
  intro W l S J Jx hm hS1 hS2 hJ hY h0
  have h1 : 1 ≤ 4 := by omega
  have hbW := row_keep hb hm id
  have hGW := hG.apart hm id id id id
  obtain ⟨c0, c1⟩ := row_cells hbW
  refine callsIn_of_wp Tryd.func37 rfl trivial ?_ rfl
  simp only [Tryd.ntmps37, List.size_toArray, List.length_cons, List.length_nil, Nat.reduceAdd, Nat.reduceSub, Array.replicate_succ, Array.replicate_zero, List.push_toArray, List.append_toArray, List.nil_append, List.cons_append]
  have HJ := Lib.hid hJ
  have HY := Lib.hid hY
  have HS1 := Lib.hid hS1
  have HS2 := Lib.hid hS2
  have HSZ := Lib.hid hs
  clear hJ hY hS1 hS2 hm hb hG
  gi_wp2
  gi_loopg [3] (s.size - p) (fun k v wr => ∃ (q : Nat) (pre : List (Nat × Nat × Bool)), v = .int .i64 (q : Nat) ∧ k = s.size - q ∧ q ≤ 50000 ∧ Hid (uevs p (s.data.toList.drop p) = pre ++ uevs q (s.data.toList.drop q)) ∧
    wr.heap[b]? = some (.cells (menderC s p) 54 (0, 0)) ∧ Glob wr aU aS ∧ J pre wr)
  case atStart => exact ⟨p, [], rfl, rfl, hp, Lib.hid rfl, hbW, hGW, h0⟩
  case round =>
    obtain ⟨q, pre, rfl, rfl, hq, he, hbr, hg, hJ'⟩ := hrel
    obtain ⟨d0, d1⟩ := row_cells hbr
    have A1 : Below wr.heap.size wr (wr.alloc (.cells #[.string s] 38)) := (Below.refl _ _).alloc (Nat.le_refl _) _
    gi_wp2_with fail
    refine ⟨trivial, (callsIn_wide.2 (thas_any s _ wr)).mono ?_⟩
    rintro e w' ⟨rfl, rfl⟩
    have hb1 := row_below hbr A1
    have hg1 := hg.below A1
    have hJ1 := HJ.out _ _ _ hJ' (Moves.of_below A1)
    obtain ⟨f0, f1⟩ := row_cells hb1
    rcases Nat.lt_or_ge q s.size with hlt | hge
    · have hd : decide (0 ≤ ((q : Nat) : Int) ∧ ((q : Nat) : Int) < (s.size : Nat)) = true := by simp; omega
      have hne : s.data.toList.drop q ≠ [] := by
        intro e
        have h1 := congrArg List.length e
        rw [List.length_drop] at h1
        simp at h1
        omega
      have hul := unitL_le _ hne
      rw [List.length_drop] at hul
      have hll : s.data.toList.length = s.size := by simp
      obtain ⟨n, ok, hu⟩ : ∃ n ok, unitL (s.data.toList.drop q) = (n, ok) := ⟨_, _, rfl⟩
      have hn1 : 1 ≤ n ∧ n ≤ 4 ∧ q + n ≤ s.size := by rw [hu] at hul; simp only at hul; omega
      have hev : uevs p (s.data.toList.drop p) = (pre ++ [(q, n, ok)]) ++ uevs (q + n) (s.data.toList.drop (q + n)) := by
        rw [he.out, uevs_cons q hne, hu, List.drop_drop]; simp
      have HE := Lib.hid hev
      have HU := Lib.hid hu
      clear hul hne hev he hu hll
      rw [hd]
      gi_wp2_with fail
      refine ⟨trivial, (callsIn_wide.2 (unit_some s (by have := HSZ.out; omega) q hlt HU.out _ aU aS hg1)).mono ?_⟩
      rintro e w2 ⟨rfl, B2⟩
      have hb2 := row_below hb1 B2
      have hg2 := hg1.below B2
      have hJ2 := HJ.out _ _ _ hJ1 (Moves.of_below B2)
      have A3 : Below w2.heap.size w2 (w2.alloc (.cells (unitC q n ok) 36)) := (Below.refl _ _).alloc (Nat.le_refl _) _
      have hb3 := row_below hb2 A3
      have hg3 := hg2.below A3
      have hJ3 := HJ.out _ _ _ hJ2 (Moves.of_below A3)
      have hS3 : ∀ k, S (w2.alloc (.cells (unitC q n ok) 36)) k → k < w2.heap.size ∧ ¬ DepU b aU aS k := fun k h => HS1.out _ _ _ hJ2 (HS2.out _ _ _ _ hJ2 (Moves.of_below A3) h)
      have hbx : (w2.alloc (.cells (unitC q n ok) 36)).heap[w2.heap.size]? = some (.cells (unitC q n ok) 36 (0, 0)) := heap_alloc_new _ _
      obtain ⟨fn, tmps, assign, body, hy, hR⟩ := HY.out pre (q, n, ok) _ (by rw [HE.out]; exact List.prefix_append _ _) hJ3
      replace hy : (Instr.yield l #[unitV q n ok]).run Tryd.prog (w2.alloc (.cells (unitC q n ok) 36)) = .ok (.round l fn tmps assign body) (w2.alloc (.cells (unitC q n ok) 36)) := hy
      have HS3 := Lib.hid hS3
      clear hS3
      gi_wp2
      refine hR.mono ?_
      rintro e w3 (⟨rfl, hJ4, hk4⟩ | ⟨rfl, hJx4⟩)
      · have hb4 := row_keep hb3 hk4 (fun h => (HS3.out _ h).2 (.inl rfl))
        have hbx4 := row_keep hbx hk4 (fun h => Nat.lt_irrefl _ (HS3.out _ h).1)
        have hg4 := hg3.apart hk4 (fun h => (HS3.out _ h).2 (.inr (.inl rfl))) (fun h => (HS3.out _ h).2 (.inr (.inr (.inl rfl)))) (fun h => (HS3.out _ h).2 (.inr (.inr (.inr (.inl rfl))))) (fun h => (HS3.out _ h).2 (.inr (.inr (.inr (.inr rfl)))))
        obtain ⟨u0, u1⟩ := row_cells hbx4
        gi_wp2_with fail
        refine ⟨trivial, (callsIn_wide.2 (end_any q n ok (by omega) (by omega) w3)).mono ?_⟩
        rintro e w4 ⟨rfl, B5⟩
        gi_wp2
        gi_roundg (s.size - (q + n))
        case measure => omega
        case rel => exact ⟨q + n, pre ++ [(q, n, ok)], by simp, rfl, by have := HSZ.out; omega, HE, row_below hb4 B5, hg4.below B5, HJ.out _ _ _ hJ4 (Moves.of_below B5)⟩
      · gi_wp2
        refine bodyPost_ret (results_none rfl _ _ _) rfl ?_
        exact ⟨⟨_, rfl⟩, .inr ⟨_, by rw [HE.out]; exact List.prefix_append _ _, hJx4⟩⟩
    · have hd : decide (0 ≤ ((q : Nat) : Int) ∧ ((q : Nat) : Int) < (s.size : Nat)) = false := by simp; omega
      have hall : uevs p (s.data.toList.drop p) = pre := by
        rw [he.out, List.drop_eq_nil_of_le (by simpa using hge), uevs_nil, List.append_nil]
      have HA := Lib.hid hall
      clear hall he
      rw [hd]
      gi_wp2
      go_end0
      exact ⟨⟨_, rfl⟩, .inl (by rw [HA.out]; exact hJ1)⟩
end Go.Proofs.YthnfekilmiodpaaDoor

namespace Go.Proofs.YthnfekilmiodpaaDoor
open Go.RowKit Go.Shelf
attribute [local go_sem] Oper.semAt_some

theorem whole_any (s : ByteArray) (w : World) :
    Calls Tryd.prog 27 #[.string s] w fun e w' => e = .returned (.agg (menderC s 0)) ∧ w.alloc (.cells (menderC s 0) 54) = w' := by
  go_enter Tryd.func27, Tryd.ntmps27
  go_wp2
  exact bodyPost_ret (v := .agg (menderC s 0)) (by simp [results, Tryd.results27, go_sem]) rfl ⟨rfl, rfl⟩
theorem units_any (s : ByteArray) (p : Nat) (w : World) :
    Calls Tryd.prog 28 #[.agg (menderC s p)] w fun e w' => e = .returned (.func (.func 37) #[] #[.pointer (some ⟨w.heap.size, 0, none⟩)]) ∧ w.alloc (.cells (menderC s p) 54) = w' := by
  go_enter Tryd.func28, Tryd.ntmps28
  go_wp2
  go_ret
  exact ⟨rfl, rfl⟩

/-- What the assignment of a round lays. -/
def UnitLaid (A : World) (x : Nat × Nat × Bool) (B : World) : Prop := A.alloc (.cells (unitC x.1 x.2.1 x.2.2) 36) = B
theorem UnitLaid.moves {A B : World} {x : Nat × Nat × Bool} (h : UnitLaid A x B) : Moves (fun _ => False) A B := by
  unfold UnitLaid at h
  rw [← h]
  exact Moves.of_below ((Below.refl _ _).alloc (Nat.le_refl _) _)
theorem UnitLaid.row {A B W : World} {x : Nat × Nat × Bool} {n : Nat} (h : UnitLaid A x B) (hm : Moves (fun k => k = n + 1) B W) (hn : n + 2 ≤ A.heap.size) : W.heap[A.heap.size]? = some (.cells (unitC x.1 x.2.1 x.2.2) 36 (0, 0)) := by
  unfold UnitLaid at h
  rw [← h] at hm
  exact row_keep (heap_alloc_new _ _) hm (by omega)
/-- A RANGE OVER UNITS: the law of the statement. What the body turns lies behind where the function began, so the sentinels stay. -/
theorem wpIn_units {g : Operand} {ps : Array Tmp} {assign body : Code} {Q : Exit → Act → World → Prop} {a : Act} {w0 w : World} {b p : Nat} {s : ByteArray} {aU aS : Addr}
    (hg : a.eval g = .func (.func 37) #[] #[.pointer (some ⟨b, 0, none⟩)]) (hps : ps.size = 1) (hs : s.size ≤ 50000) (hp : p ≤ 50000)
    (hb : w.heap[b]? = some (.cells (menderC s p) 54 (0, 0))) (hG0 : Glob w0 aU aS) (hB : Below w0.heap.size w0 w)
    (I : List (Nat × Nat × Bool) → World → Prop) (Ix : Code → List (Nat × Nat × Bool) → World → Prop) (S : World → Nat → Prop)
    (hS1 : ∀ xs A k, w.heap.size + 2 ≤ A.heap.size → I xs A → S A k → k < A.heap.size ∧ w0.heap.size ≤ k ∧ k ≠ b ∧ k ≠ w.heap.size ∧ k ≠ w.heap.size + 1)
    (hS2 : ∀ xs A B k, I xs A → Moves (fun k => k = w.heap.size ∨ k = w.heap.size + 1) A B → S B k → S A k)
    (hI : ∀ xs A B, I xs A → Moves (fun k => k = w.heap.size ∨ k = w.heap.size + 1) A B → I xs B) (hIx : ∀ c xs A B, Ix c xs A → Moves (fun k => k = w.heap.size ∨ k = w.heap.size + 1) A B → Ix c xs B)
    (h0 : I [] w) (a₁ : Nat → Nat × Nat × Bool → Act)
    (hassign : ∀ (l : Nat) (x : Nat × Nat × Bool) (A : World) (K : Act → World → Prop), K (a₁ A.heap.size x) (A.alloc (.cells (unitC x.1 x.2.1 x.2.2) 36)) →
      assign.wpIn (Fence.wide.inRound l) 3 Tryd.prog (Exit.then K (fun _ _ _ => False)) { tmps := (ps.zip (encU x)).foldl (fun t (p, v) => t.setIfInBounds p v) a.tmps, defers := [] } A)
    (hbody : ∀ (l : Nat) (pre : List (Nat × Nat × Bool)) (x : Nat × Nat × Bool) (u : Nat) (W : World), w.heap.size + 2 ≤ u → pre ++ [x] <+: uevs p (s.data.toList.drop p) → W.heap[u]? = some (.cells (unitC x.1 x.2.1 x.2.2) 36 (0, 0)) → Glob W aU aS → Below w0.heap.size w0 W → I pre W →
      body.wpIn (Fence.wide.inRound l) 3 Tryd.prog (seqEnd S I Ix (pre ++ [x]) W) (a₁ u x) W)
    (hdone : ∀ (D : Nat) (W : World), w.heap.size ≤ D → I (uevs p (s.data.toList.drop p)) W → Glob W aU aS → Below w0.heap.size w0 W → W.heap[D]? = some (.deferred (some [])) → Q .normal { a with defers := { target := .collected D, args := #[] } :: a.defers } W)
    (hstop : ∀ (D : Nat) (c : Code) (pre : List (Nat × Nat × Bool)) (W : World), w.heap.size ≤ D → pre <+: uevs p (s.data.toList.drop p) → Ix c pre W → Glob W aU aS → Below w0.heap.size w0 W → W.heap[D]? = some (.deferred (some [])) →
      c.wpIn Fence.wide 5 Tryd.prog Q { a with defers := { target := .collected D, args := #[] } :: a.defers } W) :
    (Code.rangeFunc g ps assign body).wpIn Fence.wide 5 Tryd.prog Q a w := by
  have hGw := hG0.below hB
  have z0 := hB.size
  have l1 := hG0.ltU
  have l2 := hG0.ltS
  have l3 := hG0.lt_aU
  have l4 := hG0.lt_aS
  have lb : b < w.heap.size := (Array.getElem?_eq_some_iff.1 hb).1
  have far : ∀ {T : Nat → Prop} {A B : World}, (∀ k, T k → w0.heap.size ≤ k) → Moves T A B → Glob A aU aS ∧ Below w0.heap.size w0 A → Glob B aU aS ∧ Below w0.heap.size w0 B := by
    rintro T A B hT hm ⟨h1, h2⟩
    exact ⟨h1.apart hm (fun h => by have := hT _ h; omega) (fun h => by have := hT _ h; omega) (fun h => by have := hT _ h; omega) (fun h => by have := hT _ h; omega), Moves.below h2 h2.size hm hT⟩
  refine wpIn_seq (n := 5) (Ow := fun _ => False) (Dep := DepU b aU aS) (encs := encU) (all := uevs p (s.data.toList.drop p)) (by omega) hg (enters_of Tryd.func37 (by kernel_rfl) rfl) (fun x => hps.symm) (seqUnits hs hp hb hGw)
    (fun k h => h.elim) ?_ (fun xs W => I xs W ∧ Glob W aU aS ∧ Below w0.heap.size w0 W) (fun c xs W => Ix c xs W ∧ Glob W aU aS ∧ Below w0.heap.size w0 W) S ?_ ?_ ?_ ?_ ⟨h0, hGw, hB⟩ a₁ UnitLaid (fun A x B h => h.moves) ?_ ?_ ?_ ?_
  · rintro k (rfl | rfl | rfl | rfl | rfl) <;> omega
  · rintro xs A k hA ⟨h1, _⟩ h
    obtain ⟨e1, e2, e3, e4, e5⟩ := hS1 _ _ _ hA h1 h
    refine ⟨e1, ?_, e4, e5⟩
    rintro (rfl | rfl | rfl | rfl | rfl) <;> omega
  · rintro xs A B k ⟨h1, _⟩ hm h
    exact hS2 _ _ _ _ h1 (hm.mono fun k h => h.elim (fun h => h.elim) id) h
  · rintro xs A B ⟨h1, h2⟩ hm
    have hm' : Moves (fun k => k = w.heap.size ∨ k = w.heap.size + 1) A B := hm.mono fun k h => h.elim (fun h => h.elim) id
    exact ⟨hI _ _ _ h1 hm', far (fun k h => by omega) hm' h2⟩
  · rintro c xs A B ⟨h1, h2⟩ hm
    have hm' : Moves (fun k => k = w.heap.size ∨ k = w.heap.size + 1) A B := hm.mono fun k h => h.elim (fun h => h.elim) id
    exact ⟨hIx _ _ _ _ h1 hm', far (fun k h => by omega) hm' h2⟩
  · intro l x A K hK
    exact hassign l x A K (hK _ rfl)
  · rintro l pre x A B W hA hpx hGB hm ⟨h1, h2, h3⟩
    refine wpIn_mono (hbody l pre x _ W hA hpx (hGB.row hm hA) h2 h3 h1) ?_
    have hW2 : w.heap.size + 2 ≤ W.heap.size := by have := hGB.moves.size; have := hm.size; omega
    have fw : ∀ {W' : World}, Moves (S W) W W' → Glob W' aU aS ∧ Below w0.heap.size w0 W' := fun h => far (fun k hk => (hS1 _ _ _ hW2 h1 hk).2.1) h ⟨h2, h3⟩
    rintro e a3 W3 hp
    cases e with
    | normal => exact ⟨hp.1, hp.2, fw hp.1⟩
    | ret => exact ⟨hp.1, hp.2, fw hp.1⟩
    | exit id => exact ⟨hp.1, hp.2, fw hp.1⟩
    | goto t => exact ⟨hp.1, hp.2, fw hp.1⟩
    | panic ch => exact hp.elim
    | outgrown => exact hp.elim
  · rintro D W hD ⟨h1, h2, h3⟩ hK
    exact hdone D W hD h1 h2 h3 hK
  · rintro D c pre W hD hpre ⟨h1, h2, h3⟩ hK
    exact hstop D c pre W hD hpre h1 h2 h3 hK

/-- How many are bad, so far. -/
def badN (l : List (Nat × Nat × Bool)) : Nat := (l.filter fun x => !x.2.2).length
theorem badN_snoc (l : List (Nat × Nat × Bool)) (x : Nat × Nat × Bool) : badN (l ++ [x]) = badN l + (if x.2.2 then 0 else 1) := by
  unfold badN
  rw [List.filter_append, List.length_append]
  cases h : x.2.2 <;> simp [h]
theorem badN_le (l : List (Nat × Nat × Bool)) : badN l ≤ l.length := List.length_filter_le _ _

set_option maxRecDepth 100000 in
set_option maxHeartbeats 1000000 in
theorem bad_any (s : ByteArray) (hs : s.size ≤ 50000) (w : World) (aU aS : Addr) (hG : Glob w aU aS) :
    Calls Tryd.prog 17 #[.string s] w fun e w' => e = .returned (.int .i64 (badsL s.data.toList : Nat)) ∧ Below w.heap.size w w' := by
  refine (callsIn_wide (n := 5)).1 ?_
  have h1 : 1 ≤ 5 := by omega
  refine callsIn_of_wp_marks Tryd.func17 rfl trivial ?_ rfl
  simp only [Tryd.ntmps17, List.size_toArray, List.length_cons, List.length_nil, Nat.reduceAdd, Nat.reduceSub, Array.replicate_succ, Array.replicate_zero, List.push_toArray, List.append_toArray, List.nil_append, List.cons_append]
  have ltU := hG.ltU
  have ltS := hG.ltS
  have lU := hG.lt_aU
  have lS := hG.lt_aS
  gi_wp2_with fail
  refine ⟨trivial, (callsIn_wide.2 (whole_any s _)).mono ?_⟩
  rintro e w1 ⟨rfl, rfl⟩
  gi_wp2_with fail
  refine ⟨trivial, (callsIn_wide.2 (units_any s 0 _)).mono ?_⟩
  rintro e w2 ⟨rfl, hw2⟩
  simp only [World.size_alloc] at hw2 ⊢
  have B2 : Below w.heap.size w w2 := by rw [← hw2]; exact (((Below.refl _ _).alloc (Nat.le_refl _) _).alloc (by simp) _).alloc (by simp; omega) _
  have hb : w2.heap[w.heap.size + 1 + 1]? = some (.cells (menderC s 0) 54 (0, 0)) := by
    rw [← hw2]
    have := heap_alloc_new ((w.alloc (.cells #[.int .i64 0] 3)).alloc (.cells (menderC s 0) 54)) (.cells (menderC s 0) 54)
    simpa using this
  have X2 : Box w2 w.heap.size (.int .i64 0) := by
    refine ⟨3, ?_⟩
    rw [← hw2, Below.heap_alloc _ _ _ (by simp; omega), Below.heap_alloc _ _ _ (by simp)]
    exact heap_alloc_new _ _
  have z2 : w2.heap.size = w.heap.size + 3 := by rw [← hw2]; simp
  clear hw2
  gi_wp2_with fail
  refine wpIn_units (w0 := w) (b := w.heap.size + 1 + 1) (p := 0) (s := s) (aU := aU) (aS := aS) rfl rfl hs (by omega) hb hG B2
    (fun pre W => Box W w.heap.size (.int .i64 (badN pre : Nat))) (fun _ _ _ => False) (fun _ k => k = w.heap.size) ?S1 ?S2 ?hI ?hIx X2
    (fun u x => { tmps := #[.string s, undef, .int .i64 0, .pointer (some ⟨w.heap.size, 0, none⟩), .pointer (some ⟨u, 0, none⟩), .string s, .agg (menderC s 0), .func (.func 37) #[] #[.pointer (some ⟨w.heap.size + 1 + 1, 0, none⟩)], unitV x.1 x.2.1 x.2.2, undef, undef, undef, undef, undef, undef], defers := [] }) ?assign ?body ?done ?stop
  case S1 =>
    rintro xs A k hA hX rfl
    have := hX.lt
    omega
  case S2 => rintro xs A B k hX hm rfl; rfl
  case hI =>
    rintro xs A B hX hm
    exact hX.moves hm (by omega)
  case hIx => rintro c xs A B h; exact h.elim
  case assign =>
    rintro l ⟨p, n, ok⟩ A K hK
    gi_wp2
    exact hK
  case body =>
    rintro l pre ⟨p, n, ok⟩ u W hu hpx hrow hg hB hX
    obtain ⟨c0, c1⟩ := row_cells hrow
    have hc := hX.cell
    have hf := hX.froz
    have hlen : badN pre ≤ 100000 := by
      have h1 := hpx.length_le
      have h2 := uevs_length 0 (s.data.toList.drop 0)
      have h3 := badN_le pre
      rw [List.length_append, List.length_singleton] at h1
      rw [List.length_drop] at h2
      have h4 : s.data.toList.length = s.size := by simp
      omega
    have HS := Lib.hid (badN_snoc pre (p, n, ok))
    cases ok with
    | true =>
      gi_wp2
      refine ⟨Moves.refl _ _, ?_⟩
      show Box W w.heap.size (.int .i64 (badN (pre ++ [(p, n, true)]) : Nat))
      rw [HS.out]
      exact hX
    | false =>
      gi_wp2
      refine ⟨Moves.setCell rfl, ?_⟩
      show Box _ w.heap.size (.int .i64 (badN (pre ++ [(p, n, false)]) : Nat))
      rw [HS.out]
      have := hX.set (.int .i64 ((badN pre : Nat) + 1))
      simpa using this
  case done =>
    rintro D W hD hX hg hB hK
    have hc := hX.cell
    have hne : D ≠ w.heap.size := by omega
    gi_wp2
    refine ⟨by simp, .inl ⟨_, _, rfl, run_takeDeferred hK, ?_⟩⟩
    refine ⟨.int .i64 (badsL s.data.toList : Nat), ?_, rfl, Moves.below hB hB.size (Moves.putObj (S := fun k => k = D) rfl) (fun k e => by have := hB.size; omega)⟩
    simp [results, Tryd.f17, go_sem, badsL, badN]
  case stop =>
    rintro D c pre W hD hpre h
    exact h.elim
end Go.Proofs.YthnfekilmiodpaaDoor

