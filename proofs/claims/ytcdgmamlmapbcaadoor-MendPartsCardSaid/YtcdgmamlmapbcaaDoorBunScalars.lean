/- reader.scalars: the same walk; each round is told that what has come is a beginning of what comes. A range over what goes through a text: the same law, where the rounds also turn blocks that they have laid themselves. Scalars. -/
import Derived.Test.YtcdgmamlmapbcaaDoorBunSeq
import Derived.Test.YtcdgmamlmapbcaaDoorBunPut
import Derived.Maps.AppendAt
import Derived.Scope
namespace Go.Proofs.YtcdgmamlmapbcaaDoor
open Go.RowKit Go.Shelf
attribute [local go_sem] Oper.semAt_some

set_option maxRecDepth 100000 in
set_option maxHeartbeats 1000000 in
theorem scalars1_told {n l p b : Nat} {mb : Option Nat} {aU aS : Addr} {s : ByteArray} {Sc : Nat → Prop} {J Jx : List (Nat × Bool) → World → Prop} {W : World} (hn : 3 ≤ n) (hA : Apart Sc p mb b aU aS)
    (hJ : ∀ xs A B, J xs A → Moves (Own p mb) A B → J xs B)
    (hY : ∀ xs x A, xs ++ [x] <+: evs s.data.toList → J xs A → YieldAt Fence.wide (n - 1) Tryd.prog l (encs aU x) A fun e A' => (e = .returned (.bool true) ∧ J (xs ++ [x]) A' ∧ Moves Sc A A') ∨ (e = .returned (.bool false) ∧ Jx (xs ++ [x]) A'))
    (hs : Sit W p s mb b aU aS) (h0 : J [] W) :
    CallsIn Fence.wide n Tryd.prog 55 #[.func (.yield l) #[] #[], .pointer (some ⟨b, 0, none⟩)] W fun e W' => (∃ v, e = .returned v) ∧
      (J (evs s.data.toList) W' ∨ ∃ xs, xs <+: evs s.data.toList ∧ Jx xs W') := by
  have h1 : 1 ≤ n := by omega
  refine callsIn_of_wp Tryd.func55 rfl trivial ?_ rfl
  simp only [Tryd.ntmps55, List.size_toArray, List.length_cons, List.length_nil, Nat.reduceAdd, Nat.reduceSub, Array.replicate_succ, Array.replicate_zero, List.push_toArray, List.append_toArray, List.nil_append, List.cons_append]
  gi_wp2
  gi_loopg [] s.size (fun k wr => ∃ (pre : List (Nat × Bool)) (s' : ByteArray), s'.size = k ∧ evs s.data.toList = pre ++ evs s'.data.toList ∧ Sit wr p s' mb b aU aS ∧ J pre wr)
  case atStart => exact ⟨[], s, rfl, rfl, hs, h0⟩
  case round =>
    obtain ⟨pre, s', rfl, he, hs', hJ'⟩ := hrel
    have cb := hs'.cellb
    have c0 := hs'.rd.cell0
    have hp := hs'.rd.lt
    have HJ := Lib.hid hJ
    have HY := Lib.hid hY
    have HE := Lib.hid he
    clear hJ hY he
    gi_wp2_with fail
    refine ⟨trivial, (callsIn_wide.2 (left_any p s' _ (by exact c0))).mono ?_⟩
    rintro e w' ⟨rfl, rfl⟩
    rcases Nat.eq_zero_or_pos s'.size with hz | hz
    · have e0 : decide ((0 : Int) < ((s'.size : Nat) : Int)) = false := by rw [hz]; rfl
      gi_wp2
      go_end0
      refine ⟨⟨_, rfl⟩, .inl ?_⟩
      have : s'.data.toList = [] := List.eq_nil_of_length_eq_zero (by simpa using hz)
      rw [HE.out, this, evs_nil, List.append_nil]
      exact hJ'
    · have e0 : decide ((0 : Int) < ((s'.size : Nat) : Int)) = true := by simp; omega
      gi_wp2_with fail
      refine ⟨trivial, (callsIn_wide.2 (next_any p s' mb wr hs'.rd aU aS hs'.gl)).mono ?_⟩
      rintro e w1 ⟨rfl, hr1, hm1⟩
      have hs1 := hs'.next hr1 hm1
      have hJ1 := HJ.out _ _ _ hJ' (hm1.mono fun k e => .inr e)
      have cb1 := hs1.cellb
      have c1 := hs1.rd.cell0
      have f1 := hs1.rd.froz 0
      cases hd : decL s'.data.toList with
      | none =>
        rw [nextV_none hd]
        gi_wp2_with fail
        refine ⟨trivial, (callsIn_wide.2 (drop_any p s' 0 w1 c1 f1 (Nat.zero_le _))).mono ?_⟩
        rintro e w2 ⟨rfl, hw2⟩
        have hs2 := hs1.drop (s' := s'.extract 0 s'.size)
        have hJ2 := HJ.out _ _ _ hJ1 (Moves.setCell (S := Own p mb) (w := w1) (a := ⟨p, 0, none⟩) (v := .string (s'.extract 0 s'.size)) (.inl rfl))
        rw [hw2] at hs2 hJ2
        clear hw2
        have hev : evs s.data.toList = pre ++ [(0, true)] := by rw [HE.out, evs_none hd (ne_nil_of_size hz)]
        obtain ⟨fn, tmps, assign, body, hy, hR⟩ := HY.out pre (0, true) _ (by rw [hev]; exact List.prefix_rfl) hJ2
        have HV := Lib.hid hev
        clear hev hd
        replace hy : (Instr.yield l #[.int .i64 0, errV aU]).run Tryd.prog w2 = .ok (.round l fn tmps assign body) w2 := hy
        gi_wp2
        refine hR.mono ?_
        rintro e w3 (⟨rfl, hJ3, hk3⟩ | ⟨rfl, hJx3⟩)
        · gi_wp2
          refine bodyPost_ret (results_none rfl _ _ _) rfl ?_
          exact ⟨⟨_, rfl⟩, .inl (by rw [HV.out]; exact hJ3)⟩
        · gi_wp2
          refine bodyPost_ret (results_none rfl _ _ _) rfl ?_
          exact ⟨⟨_, rfl⟩, .inr ⟨_, by rw [HV.out]; exact List.prefix_rfl, hJx3⟩⟩
      | some x =>
        obtain ⟨r, n'⟩ := x
        rw [nextV_some hd]
        have hlen := decL_len hd
        have hsz : n' ≤ s'.size := by simpa using hlen.2.2
        gi_wp2_with fail
        refine ⟨trivial, (callsIn_wide.2 (drop_any p s' n' w1 c1 f1 hsz)).mono ?_⟩
        rintro e w2 ⟨rfl, hw2⟩
        have hs2 := hs1.drop (s' := s'.extract n' s'.size)
        have hJ2 := HJ.out _ _ _ hJ1 (Moves.setCell (S := Own p mb) (w := w1) (a := ⟨p, 0, none⟩) (v := .string (s'.extract n' s'.size)) (.inl rfl))
        rw [hw2] at hs2 hJ2
        clear hw2
        have hex : (s'.extract n' s'.size).data.toList = s'.data.toList.drop n' := drop_toList s' n'
        have hev : evs s.data.toList = (pre ++ [(r, false)]) ++ evs (s'.extract n' s'.size).data.toList := by rw [HE.out, evs_some hd, hex]; simp
        obtain ⟨fn, tmps, assign, body, hy, hR⟩ := HY.out pre (r, false) _ (by rw [hev]; exact List.prefix_append _ _) hJ2
        have HV := Lib.hid hev
        have HX := Lib.hid hex
        clear hev hex hd
        replace hy : (Instr.yield l #[.int .i64 (r : Nat), .nilIface]).run Tryd.prog w2 = .ok (.round l fn tmps assign body) w2 := hy
        gi_wp2
        refine hR.mono ?_
        rintro e w3 (⟨rfl, hJ3, hk3⟩ | ⟨rfl, hJx3⟩)
        · gi_wp2
          gi_roundg (s'.extract n' s'.size).size
          case measure => rw [ByteArray.size_extract]; omega
          case rel => exact ⟨_, _, rfl, HV.out, hs2.apart hA hk3, hJ3⟩
        · gi_wp2
          refine bodyPost_ret (results_none rfl _ _ _) rfl ?_
          exact ⟨⟨_, rfl⟩, .inr ⟨_, by rw [HV.out]; exact List.prefix_append _ _, hJx3⟩⟩
end Go.Proofs.YtcdgmamlmapbcaaDoor

namespace Go.Proofs.YtcdgmamlmapbcaaDoor
open Go.RowKit Go.Shelf
attribute [local go_sem] Oper.semAt_some

/-- What turns beside the body's own: the reader's blocks, and the two of the statement's book-keeping. -/
abbrev Beside2 (p : Nat) (mb : Option Nat) (n : Nat) (k : Nat) : Prop := Own p mb k ∨ k = n ∨ k = n + 1

set_option maxHeartbeats 1000000 in
theorem wpIn_scalars2 {n : Nat} {g : Operand} {ps : Array Tmp} {assign body : Code} {Q : Exit → Act → World → Prop} {a : Act} {w : World} {p b : Nat} {mb : Option Nat} {s : ByteArray} {aU aS : Addr} (hn : 4 ≤ n)
    (hg : a.eval g = .func (.func 55) #[] #[.pointer (some ⟨b, 0, none⟩)]) (hps : ps.size = 2) (hs : Sit w p s mb b aU aS) (Sc : Nat → Prop) (hA : Apart Sc p mb b aU aS) (hlt : ¬ Sc w.heap.size ∧ ¬ Sc (w.heap.size + 1))
    (I : List (Nat × Bool) → World → Prop) (Ix : Code → List (Nat × Bool) → World → Prop)
    (hI : ∀ xs A B, I xs A → Moves (Beside2 p mb w.heap.size) A B → I xs B) (hIx : ∀ c xs A B, Ix c xs A → Moves (Beside2 p mb w.heap.size) A B → Ix c xs B) (h0 : I [] w) (a₁ : Nat × Bool → Act)
    (hassign : ∀ (l : Nat) (x : Nat × Bool) (W : World) (K : Act → World → Prop), K (a₁ x) W →
      assign.wpIn (Fence.wide.inRound l) (n - 1 - 1) Tryd.prog (Exit.then K (fun _ _ _ => False)) { tmps := (ps.zip (encs aU x)).foldl (fun t (p, v) => t.setIfInBounds p v) a.tmps, defers := [] } W)
    (hbody : ∀ (l : Nat) (pre : List (Nat × Bool)) (x : Nat × Bool) (W : World), w.heap.size + 2 ≤ W.heap.size → pre ++ [x] <+: evs s.data.toList → I pre W → body.wpIn (Fence.wide.inRound l) (n - 1 - 1) Tryd.prog (roundEnd Sc I Ix (pre ++ [x]) W) (a₁ x) W)
    (hdone : ∀ (D : Nat) (W : World), w.heap.size ≤ D → I (evs s.data.toList) W → W.heap[D]? = some (.deferred (some [])) → Q .normal { a with defers := { target := .collected D, args := #[] } :: a.defers } W)
    (hstop : ∀ (D : Nat) (c : Code) (pre : List (Nat × Bool)) (W : World), w.heap.size ≤ D → pre <+: evs s.data.toList → Ix c pre W → W.heap[D]? = some (.deferred (some [])) →
      c.wpIn Fence.wide n Tryd.prog Q { a with defers := { target := .collected D, args := #[] } :: a.defers } W) :
    (Code.rangeFunc g ps assign body).wpIn Fence.wide n Tryd.prog Q a w := by
  refine wpIn_rangeFunc ?_
  intro fn hfn
  obtain ⟨rec, hrec⟩ : ∃ rec : LoopState → Option Code → Loop, rec = fun st pe => { state := st, pending := pe, fn, tmps := a.tmps, params := ps, assign, body, defers := w.heap.size } := ⟨_, rfl⟩
  obtain ⟨W1, hW1⟩ : ∃ W1, (w.alloc (.deferred (some []))).alloc (.loop (rec .ready none)) = W1 := ⟨_, rfl⟩
  have hL1 : W1.heap[w.heap.size + 1]? = some (.loop (rec .ready none)) := by
    rw [← hW1]; have := World.alloc_heap_new (w.alloc (.deferred (some []))) (.loop (rec .ready none)); rwa [World.size_alloc] at this
  have hK1 : W1.heap[w.heap.size]? = some (.deferred (some [])) := by
    rw [← hW1]; exact (Below.heap_alloc _ _ _ (by simp)).trans (World.alloc_heap_new w _)
  have hb1 : Below w.heap.size w W1 := by
    rw [← hW1]; exact ((Below.refl _ w).alloc (Nat.le_refl _) _).alloc (by simp) _
  have hI1 : I [] W1 := hI _ _ _ h0 (Moves.of_below hb1)
  have hs1 : Sit W1 p s mb b aU aS := hs.apart (Sc := fun _ => False) ⟨id, fun _ _ => id, id, id, id, id, id⟩ (Moves.of_below hb1)
  have hpl : ∀ k, Own p mb k → k < w.heap.size := by
    rintro k (rfl | e)
    · exact hs.rd.lt
    · obtain ⟨es, c, hh, _⟩ := hs.rd.good k e
      exact (Array.getElem?_eq_some_iff.1 hh).1
  have hbl : b < w.heap.size := by obtain ⟨t, hb⟩ := hs.box; exact (Array.getElem?_eq_some_iff.1 hb).1
  have keep : ∀ {S : Nat → Prop} {A B : World} {k : Nat} {o : Obj}, Moves S A B → ¬ S k → A.heap[k]? = some o → B.heap[k]? = some o := fun hm hk h => (hm.block _ (Array.getElem?_eq_some_iff.1 h).1 hk).trans h
  have put : ∀ {A : World} {k : Nat} {o : Obj}, k = w.heap.size ∨ k = w.heap.size + 1 → Moves (Beside2 p mb w.heap.size) A (A.putObj k o) := fun hk => Moves.putObj (.inr hk)
  let Sd : Nat → Prop := fun k => Sc k ∨ k = w.heap.size + 1
  have hAd : Apart Sd p mb b aU aS := by
    have l1 := hs.gl.ltU
    have l2 := hs.gl.ltS
    have l3 := hs.gl.lt_aU
    have l4 := hs.gl.lt_aS
    have l5 := hs.rd.lt
    exact {
      p := by rintro (h | h); exact hA.p h; omega
      m := by
        rintro m e (h | h)
        · exact hA.m m e h
        · have := hpl m (.inr e); omega
      b := by rintro (h | h); exact hA.b h; omega
      gU := by rintro (h | h); exact hA.gU h; omega
      gS := by rintro (h | h); exact hA.gS h; omega
      aU := by rintro (h | h); exact hA.aU h; omega
      aS := by rintro (h | h); exact hA.aS h; omega }
  have hOl : ∀ k, w.heap.size ≤ k → ¬ Own p mb k := fun k hk h => by have := hpl k h; omega
  refine ⟨w.heap.size + 1, [{ target := .collected w.heap.size, args := #[] }], W1, { target := .fn (.func 55) #[.pointer (some ⟨b, 0, none⟩)], args := #[.func (.yield (w.heap.size + 1)) #[] #[]] }, W1, 55,
    #[.func (.yield (w.heap.size + 1)) #[] #[]] ++ #[.pointer (some ⟨b, 0, none⟩)], W1, ?_, ?_, ?_, ?_, fun _ => by omega, ?_⟩
  · rw [← hW1, hrec]; exact run_enterLoop_outer _ _ _ _ _
  · simp only [resolve, hg]
    simp [go_sem]
  · intro f' hf'; exact trivial
  · have eg : ∀ args w, (callFunc 55 args).run Tryd.prog w = .ok (.enter 55 args) w := enters_of Tryd.func55 (by kernel_rfl) rfl
    simp [invoke, go_sem, eg]
  · refine (scalars1_told (n := n - 1) (l := w.heap.size + 1) (Sc := Sd)
      (J := fun pre W => I pre W ∧ W.heap[w.heap.size + 1]? = some (.loop (rec .ready none)) ∧ W.heap[w.heap.size]? = some (.deferred (some [])))
      (Jx := fun pre W => ∃ c, Ix c pre W ∧ W.heap[w.heap.size + 1]? = some (.loop (rec .done (some c))) ∧ W.heap[w.heap.size]? = some (.deferred (some [])))
      (by omega) hAd ?_ ?_ hs1 ⟨hI1, hL1, hK1⟩).mono ?_
    · rintro xs A B ⟨hi, hl, hk⟩ hm
      exact ⟨hI _ _ _ hi (hm.mono fun k h => .inl h), keep hm (hOl _ (by omega)) hl, keep hm (hOl _ (Nat.le_refl _)) hk⟩
    · rintro pre x W hpx ⟨hi, hl, hk⟩
      have hlt1 : w.heap.size + 1 < W.heap.size := (Array.getElem?_eq_some_iff.1 hl).1
      have hy := run_yield (P := Tryd.prog) (args := encs aU x) hl (by rw [hrec]; exact hps.symm)
      rw [hrec] at hy
      refine ⟨fn, _, assign, body, hy, roundIn_of_wpIn hfn (hassign _ x W _ ⟨_, run_beginRound hl (by rw [hrec]), ?_⟩)⟩
      have hl2 : (W.putObj (w.heap.size + 1) (.loop { rec .ready none with state := .busy })).heap[w.heap.size + 1]? = some (.loop { rec .ready none with state := .busy }) := World.putObj_heap_same hlt1
      have hk2 : (W.putObj (w.heap.size + 1) (.loop { rec .ready none with state := .busy })).heap[w.heap.size]? = some (.deferred (some [])) := (World.putObj_heap_other (by omega)).trans hk
      have hw2 : Moves Sd W (W.putObj (w.heap.size + 1) (.loop { rec .ready none with state := .busy })) := Moves.putObj (.inr rfl)
      refine wpIn_mono (hbody _ pre x _ (by rw [World.putObj_size]; omega) hpx (hI _ _ _ hi (put (.inr rfl)))) ?_
      have fin : ∀ (jump : Option Code) (W3 : World), Moves Sc (W.putObj (w.heap.size + 1) (.loop { rec .ready none with state := .busy })) W3 →
          (Instr.endRound (w.heap.size + 1) jump).run Tryd.prog W3 = .ok (.bool jump.isNone) (W3.putObj (w.heap.size + 1) (.loop (rec (if jump.isNone then .ready else .done) jump))) ∧
          (W3.putObj (w.heap.size + 1) (.loop (rec (if jump.isNone then .ready else .done) jump))).heap[w.heap.size + 1]? = some (.loop (rec (if jump.isNone then .ready else .done) jump)) ∧
          (W3.putObj (w.heap.size + 1) (.loop (rec (if jump.isNone then .ready else .done) jump))).heap[w.heap.size]? = some (.deferred (some [])) := fun jump W3 hk3 => by
        have hl3 := keep hk3 hlt.2 hl2
        have := run_endRound (P := Tryd.prog) jump hl3
        rw [hrec] at this ⊢
        exact ⟨this, World.putObj_heap_same (Array.getElem?_eq_some_iff.1 hl3).1, (World.putObj_heap_other (by omega)).trans (keep hk3 hlt.1 hk2)⟩
      have all : ∀ {W3 : World} {o : Obj}, Moves Sc (W.putObj (w.heap.size + 1) (.loop { rec .ready none with state := .busy })) W3 → Moves Sd W (W3.putObj (w.heap.size + 1) o) := fun hk3 => (hw2.trans (hk3.mono fun k h => .inl h)).trans (Moves.putObj (.inr rfl))
      rintro e a3 W3 hp
      cases e with
      | normal =>
        obtain ⟨hk3, hi3⟩ := hp
        obtain ⟨hr, hl4, hk4⟩ := fin none W3 hk3
        exact ⟨_, _, hr, .inl ⟨rfl, ⟨hI _ _ _ hi3 (put (.inr rfl)), hl4, hk4⟩, all hk3⟩⟩
      | ret =>
        obtain ⟨hk3, hi3⟩ := hp
        obtain ⟨hr, hl4, hk4⟩ := fin (some .ret) W3 hk3
        exact ⟨_, _, hr, .inr ⟨rfl, .ret, hIx _ _ _ _ hi3 (put (.inr rfl)), hl4, hk4⟩⟩
      | exit id =>
        obtain ⟨hk3, hi3⟩ := hp
        obtain ⟨hr, hl4, hk4⟩ := fin (some (.exit id)) W3 hk3
        exact ⟨_, _, hr, .inr ⟨rfl, .exit id, hIx _ _ _ _ hi3 (put (.inr rfl)), hl4, hk4⟩⟩
      | goto t =>
        obtain ⟨hk3, hi3⟩ := hp
        obtain ⟨hr, hl4, hk4⟩ := fin (some (.goto t)) W3 hk3
        exact ⟨_, _, hr, .inr ⟨rfl, .goto t, hIx _ _ _ _ hi3 (put (.inr rfl)), hl4, hk4⟩⟩
      | panic ch => exact hp.elim
      | outgrown => exact hp.elim
    · rintro e W2 ⟨⟨v, rfl⟩, (⟨hi, hl, hk⟩ | ⟨pre, hSp, c, hi, hl, hk⟩)⟩
      · exact ⟨none, _, by have := run_endLoop (P := Tryd.prog) hl (by rw [hrec]; simp); rw [hrec] at this; exact this, hdone _ _ (Nat.le_refl _) (hI _ _ _ hi (put (.inr rfl))) ((World.putObj_heap_other (by omega)).trans hk)⟩
      · exact ⟨some c, _, by have := run_endLoop (P := Tryd.prog) hl (by rw [hrec]; simp); rw [hrec] at this; exact this, hstop _ c pre _ (Nat.le_refl _) hSp (hIx _ _ _ _ hi (put (.inr rfl))) ((World.putObj_heap_other (by omega)).trans hk)⟩
end Go.Proofs.YtcdgmamlmapbcaaDoor

namespace Go.Proofs.YtcdgmamlmapbcaaDoor
open Go.RowKit Go.Shelf
attribute [local go_sem] Oper.semAt_some

theorem infoInt : (Tryd.prog.info? 3).map (fun i => (i.zero, i.size, i.bytes)) = some (some (.int .i64 0), 1, 8) := by kernel_rfl
abbrev intC (r : Nat) : Value := .int .i64 (r : Nat)
/-- The scalars of a text, up to where there is none. -/
def scL (l : List UInt8) : List Nat := if validL l then (evs l).map (·.1) else []
def ScPost (l : List UInt8) (w : World) (e : Ending) (w' : World) : Prop :=
  ∃ v, e = .returned (.tuple #[v, .int .i64 (if validL l then 0 else 11)]) ∧ w'.ownsRow w.heap.size 3 1 v (scL l).length ((scL l).map intC) ∧ Below w.heap.size w w'

theorem own_moves {A B : World} {base : Nat} {e : TypeId} {size : Nat} {v : Value} {n : Nat} {xs : List Value} {S : Nat → Prop} (h : A.ownsRow base e size v n xs) (hm : Moves S A B) (hS : ∀ k, base ≤ k → ¬ S k) : B.ownsRow base e size v n xs := by
  refine ⟨h.1, ?_⟩
  rcases h.2 with hn | ⟨g, cap, cur, hv, hg, hh, rest⟩
  · exact .inl hn
  · exact .inr ⟨g, cap, cur, hv, hg, (hm.block _ (Array.getElem?_eq_some_iff.1 hh).1 (hS g hg)).trans hh, rest⟩
theorem appended_box {W w1 : World} {n0 B : Nat} {t e : TypeId} {size : Nat} {v v' : Value} {k m : Nat} {xs ys : List Value} {tmp : Obj} (hl : Boxed W B t v) (hte : t ≠ e) (ho : W.ownsRow n0 e size v k xs) (hown' : w1.ownsRow n0 e size v' m ys)
    (hgrow : (W.alloc tmp).grownBy w1 v.ownBlock) : Boxed w1 B t v ∧ Boxed (w1.setCell ⟨B, 0, none⟩ v') B t v' ∧ (w1.setCell ⟨B, 0, none⟩ v').ownsRow n0 e size v' m ys ∧ Moves (fun k => k = B ∨ n0 ≤ k) W (w1.setCell ⟨B, 0, none⟩ v') := by
  have hv1 : Boxed w1 B t v := (hl.alloc tmp).kept hgrow (hl.not_row hte ho)
  refine ⟨hv1, hv1.set v', hown'.kept (grownBy_setCell' w1 B v') (.inr (hv1.not_row hte hown').symm), ?_⟩
  have hs := hgrow.size
  rw [World.size_alloc] at hs
  have h1 : Moves (fun k => k = B ∨ n0 ≤ k) W w1 := by
    refine ⟨hgrow.os, hgrow.tape, hgrow.output, by omega, fun j hj hn => ?_⟩
    refine (hgrow.block j (by rw [World.size_alloc]; omega) ?_).trans (Below.heap_alloc _ _ _ hj)
    intro ej
    refine hn (.inr ?_)
    rcases ho.2 with ⟨rfl, _⟩ | ⟨g, cap, cur, rfl, hb, _⟩
    · simp [Value.ownBlock] at ej
    · obtain rfl : j = g := by simpa [Value.ownBlock] using ej
      exact hb
  exact h1.trans (Moves.setCell (.inl rfl))
theorem own_base {A : World} {base base' : Nat} {e : TypeId} {size : Nat} {v : Value} {n : Nat} {xs : List Value} (h : A.ownsRow base e size v n xs) (hb : base' ≤ base) : A.ownsRow base' e size v n xs := by
  refine ⟨h.1, ?_⟩
  rcases h.2 with hn | ⟨g, cap, cur, hv, hg, hh, rest⟩
  · exact .inl hn
  · exact .inr ⟨g, cap, cur, hv, by omega, hh, rest⟩
theorem own_putdef {A W : World} {base : Nat} {e : TypeId} {size : Nat} {v : Value} {n : Nat} {xs : List Value} {D : Nat} {d d' : Option (List Deferred)} (h : A.ownsRow base e size v n xs) (hh : W.heap = A.heap) (hK : A.heap[D]? = some (.deferred d)) :
    (W.putObj D (.deferred d')).ownsRow base e size v n xs := by
  refine ⟨h.1, ?_⟩
  rcases h.2 with hn | ⟨g, cap, cur, hv, hg, hb, rest⟩
  · exact .inl hn
  · refine .inr ⟨g, cap, cur, hv, hg, (World.putObj_heap_other ?_).trans (by rw [hh]; exact hb), rest⟩
    rintro rfl
    rw [hb] at hK
    cases hK
/-- Code that ends in one way alone. -/
def Only (a₁ : Act) (w₁ : World) : Exit → Act → World → Prop
  | .normal, a, w => a = a₁ ∧ w = w₁
  | _, _, _ => False
theorem evs_length : ∀ (l : List UInt8), (evs l).length ≤ l.length := by
  intro l
  induction hn : l.length using Nat.strongRecOn generalizing l with
  | ind n ih =>
    subst hn
    cases l with
    | nil => rw [evs_nil]; simp
    | cons b t =>
      cases hd : decL (b :: t) with
      | none => rw [evs_none hd (by simp)]; simp
      | some x =>
        have hl := decL_len hd
        rw [evs_some hd]
        have := ih _ (by rw [List.length_drop]; omega) ((b :: t).drop x.2) rfl
        rw [List.length_drop] at this
        simp only [List.length_cons] at *
        omega

set_option maxRecDepth 100000 in
set_option maxHeartbeats 2000000 in
theorem scalars_f_any (s : ByteArray) (hsz : s.size ≤ 1000000) (w : World) (aU aS : Addr) (hG : Glob w aU aS) :
    Calls Tryd.prog 14 #[.string s] w (ScPost s.data.toList w) := by
  refine (callsIn_wide (n := 5)).1 ?_
  have h1 : 1 ≤ 5 := by omega
  refine callsIn_of_wp_marks Tryd.func14 rfl trivial ?_ rfl
  simp only [Tryd.ntmps14, List.size_toArray, List.length_cons, List.length_nil, Nat.reduceAdd, Nat.reduceSub, Array.replicate_succ, Array.replicate_zero, List.push_toArray, List.append_toArray, List.nil_append, List.cons_append]
  have B0 : Below w.heap.size w ((w.alloc (.cells #[.slice none 0 0] 22)).alloc (.cells #[.nilIface] 46)) := ((Below.refl _ _).alloc (Nat.le_refl _) _).alloc (by simp) _
  have L0 : Boxed ((w.alloc (.cells #[.slice none 0 0] 22)).alloc (.cells #[.nilIface] 46)) w.heap.size 22 (.slice none 0 0) := (Boxed.new _ _ _).alloc _
  have X0 : Boxed ((w.alloc (.cells #[.slice none 0 0] 22)).alloc (.cells #[.nilIface] 46)) (w.heap.size + 1) 46 .nilIface := by
    have := Boxed.new (w.alloc (.cells #[.slice none 0 0] 22)) 46 .nilIface
    rwa [World.size_alloc] at this
  have G0 := hG.below B0
  have ltU := hG.ltU
  have ltS := hG.ltS
  have lU := hG.lt_aU
  have lS := hG.lt_aS
  gi_wp2_with fail
  refine wpIn_wide.2 (wp_scope_straight ((wpIn_wide (n := 5)).1 ?_))
  gi_wp2_with fail
  refine wpIn_label ?_
  gi_wp2_with fail
  refine ⟨trivial, (callsIn_wide.2 (read_any s _)).mono ?_⟩
  rintro e w1 ⟨rfl, R1, B1⟩
  simp only [World.size_alloc] at R1 B1 ⊢
  gi_wp2_with fail
  refine ⟨trivial, (callsIn_wide.2 (scalars_any _ w1)).mono ?_⟩
  rintro e w2 ⟨rfl, t2, hw2⟩
  have B2 : Below w1.heap.size w1 w2 := by rw [← hw2]; exact (Below.refl _ _).alloc (Nat.le_refl _) _
  have R2 := R1.below B2
  have hb : w2.heap[w1.heap.size]? = some (.cells #[.pointer (some ⟨w.heap.size + 1 + 1 + 1, 0, none⟩)] t2 (0, 0)) := by rw [← hw2]; exact heap_alloc_new _ _
  clear hw2
  have z1 := B1.size
  have z2 := B2.size
  simp only [World.size_alloc] at z1
  have h01 : Below (w.heap.size + 1 + 1) ((w.alloc (.cells #[.slice none 0 0] 22)).alloc (.cells #[.nilIface] 46)) w2 := B1.trans (B2.mono z1)
  have G2 : Glob w2 aU aS := G0.below (by simpa using h01)
  have L2 : Boxed w2 w.heap.size 22 (.slice none 0 0) := L0.kept (grown_of_below (by simpa using h01) none) (by simp)
  have X2 : Boxed w2 (w.heap.size + 1) 46 .nilIface := X0.kept (grown_of_below (by simpa using h01) none) (by simp)
  have BW : Below w.heap.size w w2 := B0.trans (h01.mono (by omega))
  have zl := R2.lt
  have zb : w1.heap.size < w2.heap.size := (Array.getElem?_eq_some_iff.1 hb).1
  have zp := R1.lt
  have e2 : ∀ k, Beside2 (w.heap.size + 1 + 1 + 1) (some (w.heap.size + 1 + 1)) w2.heap.size k → w.heap.size + 1 < k ∧ k < w2.heap.size + 2 := by
    rintro k ((rfl | e) | e | e)
    · omega
    · cases e; omega
    · omega
    · omega
  gi_wp2_with fail
  refine wpIn_scalars2 (p := w.heap.size + 1 + 1 + 1) (b := w1.heap.size) (mb := some (w.heap.size + 1 + 1)) (s := s) (aU := aU) (aS := aS) (by omega) rfl rfl ⟨R2, G2, ⟨t2, hb⟩, by omega⟩ (fun k => k = w.heap.size ∨ k = w.heap.size + 1 ∨ w2.heap.size + 2 ≤ k)
    { p := by omega, m := fun m e => by cases e; omega, b := by omega, gU := by omega, gS := by omega, aU := by omega, aS := by omega } (by omega)
    (fun pre W => (∀ x ∈ pre, x.2 = false) ∧ (∃ v, Boxed W w.heap.size 22 v ∧ W.ownsRow (w2.heap.size + 2) 3 1 v pre.length (pre.map fun x => intC x.1)) ∧ Boxed W (w.heap.size + 1) 46 .nilIface ∧ Glob W aU aS ∧ Below w.heap.size w W)
    (fun c pre W => c = .exit 0 ∧ (∃ x ∈ pre, x.2 = true) ∧ Boxed W w.heap.size 22 (.slice none 0 0) ∧ Boxed W (w.heap.size + 1) 46 (errV aU) ∧ Glob W aU aS ∧ Below w.heap.size w W) ?hI ?hIx ⟨fun x hx => by simp at hx, ⟨_, L2, World.ownsRow_nil _ _ _ _⟩, X2, G2, BW⟩
    (fun x => { tmps := #[.string s, undef, .slice none 0 0, .int .i64 0, .pointer (some ⟨w.heap.size, 0, none⟩), .pointer (some ⟨w.heap.size + 1, 0, none⟩), .int .i64 (x.1 : Nat), (if x.2 then errV aU else .nilIface), .string s, .pointer (some ⟨w.heap.size + 1 + 1 + 1, 0, none⟩), .func (.func 55) #[] #[.pointer (some ⟨w1.heap.size, 0, none⟩)], .int .i64 (x.1 : Nat), (if x.2 then errV aU else .nilIface), undef, undef, undef, undef, undef, undef, undef, undef, undef, undef, undef, undef], defers := [] }) ?assign ?body ?done ?stop
  case hI =>
    rintro xs A B ⟨hx, ⟨v, hl, ho⟩, hc, hg, hB⟩ hm
    refine ⟨hx, ⟨v, (hm.block _ hl.lt (fun h => by have := e2 _ h; omega)).trans hl, own_moves ho hm fun k hk h => by have := e2 _ h; omega⟩, (hm.block _ hc.lt (fun h => by have := e2 _ h; omega)).trans hc, hg.apart hm ?_ ?_ ?_ ?_, Moves.below hB hB.size hm ?_⟩
    · intro h; have := e2 _ h; omega
    · intro h; have := e2 _ h; omega
    · intro h; have := e2 _ h; omega
    · intro h; have := e2 _ h; omega
    · intro k h; have := e2 _ h; omega
  case hIx =>
    rintro c xs A B ⟨rfl, hx, hl, hc, hg, hB⟩ hm
    refine ⟨rfl, hx, (hm.block _ hl.lt (fun h => by have := e2 _ h; omega)).trans hl, (hm.block _ hc.lt (fun h => by have := e2 _ h; omega)).trans hc, hg.apart hm ?_ ?_ ?_ ?_, Moves.below hB hB.size hm ?_⟩
    · intro h; have := e2 _ h; omega
    · intro h; have := e2 _ h; omega
    · intro h; have := e2 _ h; omega
    · intro h; have := e2 _ h; omega
    · intro k h; have := e2 _ h; omega
  case assign =>
    rintro l ⟨r, bad⟩ W K hK
    unfold encs
    cases bad
    · gi_wp2
      exact hK
    · gi_wp2
      exact hK
  case body =>
    rintro l pre ⟨r, bad⟩ W hW hpx ⟨hp, ⟨v, hl, ho⟩, hX, hg, hB⟩
    have hu := hg.utf
    have hcl := hl.cell
    have hfl := hl.frozen
    have hcx := hX.cell
    have hfx := hX.frozen
    have hll := hl.lt
    have hlx := hX.lt
    cases bad with
    | false =>
      simp only [Bool.false_eq_true, if_false]
      obtain ⟨i0, hi, hz0, hz1, hz2⟩ := info_parts infoInt
      have hlen : pre.length + 1 ≤ 1000000 := by
        have h1 := hpx.length_le
        have h2 := evs_length s.data.toList
        rw [List.length_append, List.length_singleton] at h1
        have h3 : s.data.toList.length = s.size := by simp
        omega
      have hmax : pre.length + 1 ≤ maxLen := by unfold maxLen; omega
      gi_wp2_with fail
      refine ⟨trivial, CallsIn.inRound l ((callsIn_wide.2 (is_nil aU _)).mono ?_)⟩
      rintro e w' ⟨rfl, rfl⟩
      gi_wp2_with (gi_at_builtin; refine wpListIn_append_own _ rfl _ _ 22 rfl (w2.heap.size + 2) 3 i0 (.int .i64 0) 1 8 Tryd.underlying22 hi hz0 hz1 hz2 rfl (by decide) _ _ _ rfl (own_below ho ((Below.refl _ _).alloc (Nat.le_refl _) _)) ⟨W.heap.size, 0, none⟩ 1 1 [intC r] rfl rfl (cell_one_new _ _ _) (by simp [Value.oneCell']) hmax (by omega) (by simp; omega) ?_; intro v' w1' hown' hgrow _; obtain ⟨g', cap', rfl⟩ := ownsRow_succ hown'; obtain ⟨hv1, hv2, hr2, hm2⟩ := appended_box hl (by decide) ho hown' hgrow; have hc1 := hv1.cell; have hf1 := hv1.frozen)
      have hms : Moves (fun k => k = w.heap.size ∨ k = w.heap.size + 1 ∨ w2.heap.size + 2 ≤ k) W _ := hm2.mono fun k h => h.elim .inl (fun h => .inr (.inr h))
      refine ⟨hms, fun x hx => (List.mem_append.1 hx).elim (hp x) (fun e => by simp at e; subst e; rfl), ⟨_, hv2, ?_⟩, (hm2.block _ hlx (by omega)).trans hX, hg.apart hm2 (by omega) (by omega) (by omega) (by omega), Moves.below hB hB.size hm2 (fun k h => by omega)⟩
      have e1 : (pre ++ [(r, false)]).length = pre.length + 1 := by simp
      have e2 : (pre ++ [(r, false)]).map (fun x => intC x.1) = pre.map (fun x => intC x.1) ++ [intC r] := by simp
      rw [e1, e2]
      exact hr2
    | true =>
      simp only [if_true]
      gi_wp2_with fail
      refine ⟨trivial, CallsIn.inRound l ((callsIn_wide.2 (is_same aU _)).mono ?_)⟩
      rintro e w' ⟨rfl, rfl⟩
      gi_wp2
      have hl2 := hl.set (.slice none 0 0)
      have hX2 : Boxed (W.setCell ⟨w.heap.size, 0, none⟩ (.slice none 0 0)) (w.heap.size + 1) 46 .nilIface := (heap_setCell_other _ _ _ _ (by show w.heap.size + 1 ≠ w.heap.size; omega)).trans hX
      have hX3 := hX2.set (errV aU)
      have hl3 : Boxed ((W.setCell ⟨w.heap.size, 0, none⟩ (.slice none 0 0)).setCell ⟨w.heap.size + 1, 0, none⟩ (errV aU)) w.heap.size 22 (.slice none 0 0) := (heap_setCell_other _ _ _ _ (by show w.heap.size ≠ w.heap.size + 1; omega)).trans hl2
      have hm : Moves (fun k => k = w.heap.size ∨ k = w.heap.size + 1) W ((W.setCell ⟨w.heap.size, 0, none⟩ (.slice none 0 0)).setCell ⟨w.heap.size + 1, 0, none⟩ (errV aU)) := (Moves.setCell (.inl rfl)).trans (Moves.setCell (.inr rfl))
      exact ⟨hm.mono fun k h => h.elim .inl (fun h => .inr (.inl h)), rfl, ⟨_, List.mem_append.2 (.inr (List.mem_singleton.2 rfl)), rfl⟩, hl3, hX3, hg.apart hm (by omega) (by omega) (by omega) (by omega), Moves.below hB hB.size hm (fun k h => by omega)⟩
  case done =>
    have hfol : Tryd.prog.follows .mixedOrders = true := by kernel_rfl
    rintro D W hD ⟨hp, ⟨v, hl, ho⟩, hX, hg, hB⟩ hK
    have hv : validL s.data.toList = true := by
      unfold validL
      rw [List.all_eq_true]
      intro x hx
      rw [hp x hx]; rfl
    have hsc : scL s.data.toList = (evs s.data.toList).map (·.1) := by unfold scL; rw [hv]; rfl
    have hpost : ∀ W', W' = W.drew.putObj D (.deferred none) → ScPost s.data.toList w (.returned (.tuple #[v, .int .i64 0])) W' := by
      rintro W' rfl
      have hm : Moves (fun k => k = D) W (W.drew.putObj D (.deferred none)) := (Moves.refl _ _).drew.trans (Moves.putObj rfl)
      refine ⟨v, by rw [hv]; rfl, ?_, Moves.below hB hB.size hm (fun k e => by omega)⟩
      have ho' := own_putdef (W := W.drew) (d' := none) ho rfl hK
      rw [hsc, List.length_map, List.map_map]
      exact own_base ho' (by omega)
    have HP := Lib.hid hpost
    clear hpost hsc hv
    have hcl := hl.cell
    have hcx := hX.cell
    have hK' : W.drew.heap[D]? = some (.deferred (some [])) := hK
    rcases ho.2 with ⟨rfl, _⟩ | ⟨g, cap, cur, rfl, _⟩
    · gi_wp2
      refine wpIn_mono (Q := Only { tmps := #[.string s, undef, .slice none 0 0, .int .i64 0, .pointer (some ⟨w.heap.size, 0, none⟩), .pointer (some ⟨w.heap.size + 1, 0, none⟩), undef, undef, .string s, .pointer (some ⟨w.heap.size + 1 + 1 + 1, 0, none⟩), .func (.func 55) #[] #[.pointer (some ⟨w1.heap.size, 0, none⟩)], undef, undef, undef, undef, undef, undef, undef, undef, undef, undef, undef, .slice none 0 0, .nilIface, .int .i64 0], defers := [{ target := .collected D, args := #[] }] } W.drew) ?_ ?_
      · gi_region_with_o (refine ⟨trivial, ?_⟩; gi_at_call 40; refine (callsIn_wide.2 (number_nil hg.drew)).mono ?_; rintro e w' ⟨rfl, rfl⟩)
        all_goals exact ⟨rfl, rfl⟩
      · rintro e a3 W3 hE
        cases e with
        | normal =>
          obtain ⟨rfl, rfl⟩ := hE
          gi_wp2
          rw [Exit.noGoto_ret]
          refine ⟨by simp, .inl ⟨_, _, rfl, run_takeDeferred hK', ?_⟩⟩
          refine ⟨_, results_tmp2 (t := 2) (u := 3) rfl _ _ _, ?_⟩
          exact HP.out _ rfl
        | ret => exact hE.elim
        | exit id => exact hE.elim
        | goto l => exact hE.elim
        | panic c => exact hE.elim
        | outgrown => exact hE.elim
    · gi_wp2
      refine wpIn_mono (Q := Only { tmps := #[.string s, undef, (.slice (some ⟨g, 0, none⟩) (evs s.data.toList).length cap), .int .i64 0, .pointer (some ⟨w.heap.size, 0, none⟩), .pointer (some ⟨w.heap.size + 1, 0, none⟩), undef, undef, .string s, .pointer (some ⟨w.heap.size + 1 + 1 + 1, 0, none⟩), .func (.func 55) #[] #[.pointer (some ⟨w1.heap.size, 0, none⟩)], undef, undef, undef, undef, undef, undef, undef, undef, undef, undef, undef, (.slice (some ⟨g, 0, none⟩) (evs s.data.toList).length cap), .nilIface, .int .i64 0], defers := [{ target := .collected D, args := #[] }] } W.drew) ?_ ?_
      · gi_region_with_o (refine ⟨trivial, ?_⟩; gi_at_call 40; refine (callsIn_wide.2 (number_nil hg.drew)).mono ?_; rintro e w' ⟨rfl, rfl⟩)
        all_goals exact ⟨rfl, rfl⟩
      · rintro e a3 W3 hE
        cases e with
        | normal =>
          obtain ⟨rfl, rfl⟩ := hE
          gi_wp2
          rw [Exit.noGoto_ret]
          refine ⟨by simp, .inl ⟨_, _, rfl, run_takeDeferred hK', ?_⟩⟩
          refine ⟨_, results_tmp2 (t := 2) (u := 3) rfl _ _ _, ?_⟩
          exact HP.out _ rfl
        | ret => exact hE.elim
        | exit id => exact hE.elim
        | goto l => exact hE.elim
        | panic c => exact hE.elim
        | outgrown => exact hE.elim
  case stop =>
    have hfol : Tryd.prog.follows .mixedOrders = true := by kernel_rfl
    rintro D c pre W hD hpre ⟨rfl, hin, hl, hX, hg, hB⟩ hK
    have hv : validL s.data.toList = false := by
      obtain ⟨x, hx, hb⟩ := hin
      unfold validL
      rw [List.all_eq_false]
      exact ⟨x, hpre.subset hx, by rw [hb]; simp⟩
    have hsc : scL s.data.toList = [] := by unfold scL; rw [hv]; rfl
    have hpost : ∀ W', W' = W.drew.putObj D (.deferred none) → ScPost s.data.toList w (.returned (.tuple #[.slice none 0 0, .int .i64 11])) W' := by
      rintro W' rfl
      have hm : Moves (fun k => k = D) W (W.drew.putObj D (.deferred none)) := (Moves.refl _ _).drew.trans (Moves.putObj rfl)
      refine ⟨.slice none 0 0, by rw [hv]; rfl, ?_, Moves.below hB hB.size hm (fun k e => by omega)⟩
      rw [hsc]
      exact World.ownsRow_nil _ _ _ _
    have HP := Lib.hid hpost
    clear hpost hsc hv
    have hcl := hl.cell
    have hcx := hX.cell
    have hK' : W.drew.heap[D]? = some (.deferred (some [])) := hK
    gi_wp2
    refine wpIn_mono (Q := Only { tmps := #[.string s, undef, .slice none 0 0, .int .i64 11, .pointer (some ⟨w.heap.size, 0, none⟩), .pointer (some ⟨w.heap.size + 1, 0, none⟩), undef, undef, .string s, .pointer (some ⟨w.heap.size + 1 + 1 + 1, 0, none⟩), .func (.func 55) #[] #[.pointer (some ⟨w1.heap.size, 0, none⟩)], undef, undef, undef, undef, undef, undef, undef, undef, undef, undef, undef, .slice none 0 0, (errV aU), .int .i64 11], defers := [{ target := .collected D, args := #[] }] } W.drew) ?_ ?_
    · gi_region_with_o (refine ⟨trivial, ?_⟩; gi_at_call 40; refine (callsIn_wide.2 (number_utf hg.drew)).mono ?_; rintro e w' ⟨rfl, rfl⟩)
      all_goals exact ⟨rfl, rfl⟩
    · rintro e a3 W3 hE
      cases e with
      | normal =>
        obtain ⟨rfl, rfl⟩ := hE
        gi_wp2
        rw [Exit.noGoto_ret]
        refine ⟨by simp, .inl ⟨_, _, rfl, run_takeDeferred hK', ?_⟩⟩
        refine ⟨_, results_tmp2 (t := 2) (u := 3) rfl _ _ _, ?_⟩
        exact HP.out _ rfl
      | ret => exact hE.elim
      | exit id => exact hE.elim
      | goto l => exact hE.elim
      | panic c => exact hE.elim
      | outgrown => exact hE.elim
end Go.Proofs.YtcdgmamlmapbcaaDoor

