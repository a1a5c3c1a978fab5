/- reader.scalars: what goes through a text: the pairs that come; the contract of the function that yields them. reader.scalars: the walk of the function that yields the pairs. A range over what goes through a text: the law of the statement, at the contract of XSeqWalk. read, reader.scalars, Valid. Which texts are well-formed: one behind the other; parts of a scalar's bytes. Plain words on texts of scalars: what the laws of stage 1 and 2 share. -/
import Derived.Test.YtcdgmamlmapbcaaDoorBunNext
import Derived.Test.YtcdgmamlmapbcaaDoorBunEnc
import Derived.RangeFuncNested
import Derived.RangeFuncBound
import Derived.RangeFuncCalls
import Derived.RangeFuncLeaves
import Derived.Shelf.Abstract
import Derived.Shelf.RegionOpen
import Derived.WalkKit
import Derived.OwnWalkIn
import Derived.TacticsInMore
import Derived.LoopNIn
import Derived.LoopIn
import Derived.Sort.LoopGhostIn
import Derived.Test.YtcdgmamlmapbcaaDoorBunPut
namespace Go.Proofs.YtcdgmamlmapbcaaDoor
open Go.RowKit Go.Shelf
attribute [local go_sem] Oper.semAt_some

/-- The pairs that come of what is left: a scalar, and whether it is wrong there. -/
def evs (l : List UInt8) : List (Nat × Bool) :=
  match l with
  | [] => []
  | b :: t =>
    match _h : decL (b :: t) with
    | some (r, n) => (r, false) :: evs ((b :: t).drop n)
    | none => [(0, true)]
termination_by l.length
decreasing_by
  have := decL_len (by assumption)
  simp only [List.length_drop]
  omega

theorem evs_nil : evs [] = [] := by unfold evs; rfl
theorem evs_some {l : List UInt8} {r n : Nat} (h : decL l = some (r, n)) : evs l = (r, false) :: evs (l.drop n) := by
  cases l with
  | nil => cases h
  | cons b t =>
    rw [evs]
    split
    · rename_i r' n' h'
      rw [h] at h'
      cases h'
      rfl
    · rename_i h'
      rw [h] at h'
      cases h'
theorem evs_none {l : List UInt8} (h : decL l = none) (h0 : l ≠ []) : evs l = [(0, true)] := by
  cases l with
  | nil => exact absurd rfl h0
  | cons b t =>
    rw [evs]
    split
    · rename_i r' n' h'
      rw [h] at h'
      cases h'
    · rfl

/-- What is yielded. -/
def encs (aU : Addr) (x : Nat × Bool) : Array Value := #[.int .i64 (x.1 : Nat), if x.2 then errV aU else .nilIface]

/-- What the reader's steps turn. -/
abbrev Own (p : Nat) (mb : Option Nat) (k : Nat) : Prop := k = p ∨ mb = some k

/-- What a round must leave: all that the reader leans on. -/
structure Apart (Sc : Nat → Prop) (p : Nat) (mb : Option Nat) (b : Nat) (aU aS : Addr) : Prop where
  p : ¬ Sc p
  m : ∀ m, mb = some m → ¬ Sc m
  b : ¬ Sc b
  gU : ¬ Sc 0
  gS : ¬ Sc 1
  aU : ¬ Sc aU.block
  aS : ¬ Sc aS.block

theorem Glob.apart {w w' : World} {aU aS : Addr} (h : Glob w aU aS) {Sc : Nat → Prop} (hm : Moves Sc w w') (h1 : ¬ Sc 0) (h2 : ¬ Sc 1) (h3 : ¬ Sc aU.block) (h4 : ¬ Sc aS.block) : Glob w' aU aS where
  utf := (World.cell?_of_block (w := w) (hm.block _ h.ltU h1)).trans h.utf
  sca := (World.cell?_of_block (w := w) (hm.block _ h.ltS h2)).trans h.sca
  ne := h.ne
  rowU := by obtain ⟨c, t, hc⟩ := h.rowU; exact ⟨c, t, (hm.block _ h.lt_aU h3).trans hc⟩
  rowS := by obtain ⟨c, t, hc⟩ := h.rowS; exact ⟨c, t, (hm.block _ h.lt_aS h4).trans hc⟩
  ltU := Nat.lt_of_lt_of_le h.ltU hm.size
  ltS := Nat.lt_of_lt_of_le h.ltS hm.size

theorem Glob.ne_cells {w : World} {aU aS : Addr} (h : Glob w aU aS) {p : Nat} {s : ByteArray} {mb : Option Nat} (hr : Rd w p s mb) (hp : p ≠ 0 ∧ p ≠ 1 ∧ p ≠ aU.block ∧ p ≠ aS.block) :
    ∀ k, Own p mb k → k ≠ 0 ∧ k ≠ 1 ∧ k ≠ aU.block ∧ k ≠ aS.block := by
  rintro k (rfl | e)
  · exact hp
  · obtain ⟨es, c, hh, _⟩ := hr.good k e
    exact h.ne_map hh

/-- The pairs come, one by one; the last one, where there is no scalar. -/
structure Sit (w : World) (p : Nat) (s : ByteArray) (mb : Option Nat) (b : Nat) (aU aS : Addr) : Prop where
  rd : Rd w p s mb
  gl : Glob w aU aS
  box : ∃ t, w.heap[b]? = some (.cells #[.pointer (some ⟨p, 0, none⟩)] t (0, 0))
  far : p ≠ 0 ∧ p ≠ 1 ∧ p ≠ aU.block ∧ p ≠ aS.block ∧ p ≠ b

theorem Sit.cellb {w : World} {p : Nat} {s : ByteArray} {mb : Option Nat} {b : Nat} {aU aS : Addr} (h : Sit w p s mb b aU aS) : w.cell? ⟨b, 0, none⟩ = some (.pointer (some ⟨p, 0, none⟩)) := by
  obtain ⟨t, hb⟩ := h.box
  rw [cell_of_row _ _ 0 _ _ _ hb]; rfl
theorem Sit.apart {w w' : World} {p : Nat} {s : ByteArray} {mb : Option Nat} {b : Nat} {aU aS : Addr} (h : Sit w p s mb b aU aS) {Sc : Nat → Prop} (hS : Apart Sc p mb b aU aS) (hm : Moves Sc w w') : Sit w' p s mb b aU aS where
  rd := h.rd.keep (hm.block _ h.rd.lt hS.p) fun m e => by subst e; exact hm.block _ h.rd.ltm (hS.m m rfl)
  gl := h.gl.apart hm hS.gU hS.gS hS.aU hS.aS
  box := by obtain ⟨t, hb⟩ := h.box; exact ⟨t, (hm.block _ (Array.getElem?_eq_some_iff.1 hb).1 hS.b).trans hb⟩
  far := h.far
theorem Sit.map_ne {w : World} {p m : Nat} {s : ByteArray} {b : Nat} {aU aS : Addr} (h : Sit w p s (some m) b aU aS) : m ≠ b := by
  rintro rfl
  obtain ⟨es, c, hh, _⟩ := h.rd.good m rfl
  obtain ⟨t, hb⟩ := h.box
  rw [hh] at hb
  cases hb
/-- next has been called. -/
theorem Sit.next {w w' : World} {p : Nat} {s : ByteArray} {mb : Option Nat} {b : Nat} {aU aS : Addr} (h : Sit w p s mb b aU aS) (hr : Rd w' p s mb) (hm : Moves (fun k => mb = some k) w w') : Sit w' p s mb b aU aS where
  rd := hr
  gl := h.gl.moves h.rd hm
  box := by
    obtain ⟨t, hb⟩ := h.box
    refine ⟨t, (hm.block _ (Array.getElem?_eq_some_iff.1 hb).1 ?_).trans hb⟩
    intro e
    subst e
    exact h.map_ne rfl
  far := h.far
/-- Some bytes have been dropped. -/
theorem Sit.drop {w : World} {p : Nat} {s s' : ByteArray} {mb : Option Nat} {b : Nat} {aU aS : Addr} (h : Sit w p s mb b aU aS) : Sit (w.setCell ⟨p, 0, none⟩ (.string s')) p s' mb b aU aS where
  rd := by
    refine ⟨?_, fun m e => ?_⟩
    · have := h.rd.blk
      rw [heap_setCell_same _ _ 0 _ _ _ this]
      rfl
    · obtain ⟨es, c, hh, hg⟩ := h.rd.good m e
      refine ⟨es, c, ?_, hg⟩
      subst e
      exact (heap_setCell_other _ _ _ _ h.rd.ne).trans hh
  gl := h.gl.apart (Sc := fun k => k = p) (Moves.setCell rfl) (Ne.symm h.far.1) (Ne.symm h.far.2.1) (Ne.symm h.far.2.2.1) (Ne.symm h.far.2.2.2.1)
  box := by
    obtain ⟨t, hb⟩ := h.box
    exact ⟨t, (heap_setCell_other _ _ _ _ (Ne.symm h.far.2.2.2.2)).trans hb⟩
  far := h.far
end Go.Proofs.YtcdgmamlmapbcaaDoor

namespace Go.Proofs.YtcdgmamlmapbcaaDoor
open Go.RowKit Go.Shelf
attribute [local go_sem] Oper.semAt_some

theorem ne_nil_of_size {s : ByteArray} (h : 0 < s.size) : s.data.toList ≠ [] := by
  intro e
  have h0 : s.data.toList.length = s.size := by simp
  rw [e] at h0
  simp at h0
  omega
theorem drop_toList (s : ByteArray) (n : Nat) : (s.extract n s.size).data.toList = s.data.toList.drop n := by
  rw [Lib.extract_data]
  apply List.ext_getElem?
  intro i
  simp [List.getElem?_take, List.getElem?_drop]
  omega

set_option maxRecDepth 100000 in
set_option maxHeartbeats 1000000 in
theorem scalars1_any {n l p b : Nat} {mb : Option Nat} {aU aS : Addr} {s : ByteArray} {Sc : Nat → Prop} {J Jx : List (Nat × Bool) → World → Prop} {W : World} (hn : 3 ≤ n) (hA : Apart Sc p mb b aU aS)
    (hJ : ∀ xs A B, J xs A → Moves (Own p mb) A B → J xs B)
    (hY : ∀ xs x A, J xs A → YieldAt Fence.wide (n - 1) Tryd.prog l (encs aU x) A fun e A' => (e = .returned (.bool true) ∧ J (xs ++ [x]) A' ∧ Moves Sc A A') ∨ (e = .returned (.bool false) ∧ Jx (xs ++ [x]) A'))
    (hs : Sit W p s mb b aU aS) (h0 : J [] W) :
    CallsIn Fence.wide n Tryd.prog 55 #[.func (.yield l) #[] #[], .pointer (some ⟨b, 0, none⟩)] W fun e W' => (∃ v, e = .returned v) ∧
      (J (evs s.data.toList) W' ∨ ∃ xs, xs <+: evs s.data.toList ∧ Jx xs W') := by
  have h1 : 1 ≤ n := by omega
  refine callsIn_of_wp Tryd.func55 rfl trivial ?_ rfl
  simp only [Tryd.ntmps55, List.size_toArray, List.length_cons, List.length_nil, Nat.reduceAdd, Nat.reduceSub, Array.replicate_succ, Array.replicate_zero, List.push_toArray, List.append_toArray, List.nil_append, List.cons_append]
  gi_wp2
  gi_loopg [] s.size (fun k wr => ∃ (pre : List (Nat × Bool)) (s' : ByteArray), s'.size = k ∧ evs s.data.toList = pre ++ evs s'.data.toList ∧ Sit wr p s' mb b aU aS ∧ J pre wr)
  case atStart => exact ⟨[], s, rfl, rfl, hs, h0⟩
  case round =>
    obtain ⟨pre, s', rfl, he, hs', hJ'⟩ := hrel
    have cb := hs'.cellb
    have c0 := hs'.rd.cell0
    have hp := hs'.rd.lt
    have HJ := Lib.hid hJ
    have HY := Lib.hid hY
    have HE := Lib.hid he
    clear hJ hY he
    gi_wp2_with fail
    refine ⟨trivial, (callsIn_wide.2 (left_any p s' _ (by exact c0))).mono ?_⟩
    rintro e w' ⟨rfl, rfl⟩
    rcases Nat.eq_zero_or_pos s'.size with hz | hz
    · have e0 : decide ((0 : Int) < ((s'.size : Nat) : Int)) = false := by rw [hz]; rfl
      gi_wp2
      go_end0
      refine ⟨⟨_, rfl⟩, .inl ?_⟩
      have : s'.data.toList = [] := List.eq_nil_of_length_eq_zero (by simpa using hz)
      rw [HE.out, this, evs_nil, List.append_nil]
      exact hJ'
    · have e0 : decide ((0 : Int) < ((s'.size : Nat) : Int)) = true := by simp; omega
      gi_wp2_with fail
      refine ⟨trivial, (callsIn_wide.2 (next_any p s' mb wr hs'.rd aU aS hs'.gl)).mono ?_⟩
      rintro e w1 ⟨rfl, hr1, hm1⟩
      have hs1 := hs'.next hr1 hm1
      have hJ1 := HJ.out _ _ _ hJ' (hm1.mono fun k e => .inr e)
      have cb1 := hs1.cellb
      have c1 := hs1.rd.cell0
      have f1 := hs1.rd.froz 0
      cases hd : decL s'.data.toList with
      | none =>
        rw [nextV_none hd]
        gi_wp2_with fail
        refine ⟨trivial, (callsIn_wide.2 (drop_any p s' 0 w1 c1 f1 (Nat.zero_le _))).mono ?_⟩
        rintro e w2 ⟨rfl, hw2⟩
        have hs2 := hs1.drop (s' := s'.extract 0 s'.size)
        have hJ2 := HJ.out _ _ _ hJ1 (Moves.setCell (S := Own p mb) (w := w1) (a := ⟨p, 0, none⟩) (v := .string (s'.extract 0 s'.size)) (.inl rfl))
        rw [hw2] at hs2 hJ2
        clear hw2
        obtain ⟨fn, tmps, assign, body, hy, hR⟩ := HY.out pre (0, true) _ hJ2
        have hev : evs s.data.toList = pre ++ [(0, true)] := by rw [HE.out, evs_none hd (ne_nil_of_size hz)]
        have HV := Lib.hid hev
        clear hev hd
        replace hy : (Instr.yield l #[.int .i64 0, errV aU]).run Tryd.prog w2 = .ok (.round l fn tmps assign body) w2 := hy
        gi_wp2
        refine hR.mono ?_
        rintro e w3 (⟨rfl, hJ3, hk3⟩ | ⟨rfl, hJx3⟩)
        · gi_wp2
          refine bodyPost_ret (results_none rfl _ _ _) rfl ?_
          exact ⟨⟨_, rfl⟩, .inl (by rw [HV.out]; exact hJ3)⟩
        · gi_wp2
          refine bodyPost_ret (results_none rfl _ _ _) rfl ?_
          exact ⟨⟨_, rfl⟩, .inr ⟨_, by rw [HV.out]; exact List.prefix_rfl, hJx3⟩⟩
      | some x =>
        obtain ⟨r, n'⟩ := x
        rw [nextV_some hd]
        have hlen := decL_len hd
        have hsz : n' ≤ s'.size := by simpa using hlen.2.2
        gi_wp2_with fail
        refine ⟨trivial, (callsIn_wide.2 (drop_any p s' n' w1 c1 f1 hsz)).mono ?_⟩
        rintro e w2 ⟨rfl, hw2⟩
        have hs2 := hs1.drop (s' := s'.extract n' s'.size)
        have hJ2 := HJ.out _ _ _ hJ1 (Moves.setCell (S := Own p mb) (w := w1) (a := ⟨p, 0, none⟩) (v := .string (s'.extract n' s'.size)) (.inl rfl))
        rw [hw2] at hs2 hJ2
        clear hw2
        obtain ⟨fn, tmps, assign, body, hy, hR⟩ := HY.out pre (r, false) _ hJ2
        have hex : (s'.extract n' s'.size).data.toList = s'.data.toList.drop n' := drop_toList s' n'
        have hev : evs s.data.toList = (pre ++ [(r, false)]) ++ evs (s'.extract n' s'.size).data.toList := by rw [HE.out, evs_some hd, hex]; simp
        have HV := Lib.hid hev
        have HX := Lib.hid hex
        clear hev hex hd
        replace hy : (Instr.yield l #[.int .i64 (r : Nat), .nilIface]).run Tryd.prog w2 = .ok (.round l fn tmps assign body) w2 := hy
        gi_wp2
        refine hR.mono ?_
        rintro e w3 (⟨rfl, hJ3, hk3⟩ | ⟨rfl, hJx3⟩)
        · gi_wp2
          gi_roundg (s'.extract n' s'.size).size
          case measure => rw [ByteArray.size_extract]; omega
          case rel => exact ⟨_, _, rfl, HV.out, hs2.apart hA hk3, hJ3⟩
        · gi_wp2
          refine bodyPost_ret (results_none rfl _ _ _) rfl ?_
          exact ⟨⟨_, rfl⟩, .inr ⟨_, by rw [HV.out]; exact List.prefix_append _ _, hJx3⟩⟩
end Go.Proofs.YtcdgmamlmapbcaaDoor

namespace Go.Proofs.YtcdgmamlmapbcaaDoor
open Go.RowKit Go.Shelf
attribute [local go_sem] Oper.semAt_some

/-- How the body of a round may be left. -/
def roundEnd (Sc : Nat → Prop) (I : List (Nat × Bool) → World → Prop) (Ix : Code → List (Nat × Bool) → World → Prop) (xs : List (Nat × Bool)) (W : World) : Exit → Act → World → Prop
  | .normal, _, W' => Moves Sc W W' ∧ I xs W'
  | .ret, _, W' => Moves Sc W W' ∧ Ix .ret xs W'
  | .exit id, _, W' => Moves Sc W W' ∧ Ix (.exit id) xs W'
  | .goto t, _, W' => Moves Sc W W' ∧ Ix (.goto t) xs W'
  | .panic _, _, _ => False
  | .outgrown, _, _ => False

/-- What turns beside the body's own: the reader's blocks, and whatever has been laid since. -/
abbrev Beside (p : Nat) (mb : Option Nat) (n : Nat) (k : Nat) : Prop := Own p mb k ∨ n ≤ k

set_option maxHeartbeats 1000000 in
theorem wpIn_scalars {n : Nat} {g : Operand} {ps : Array Tmp} {assign body : Code} {Q : Exit → Act → World → Prop} {a : Act} {w : World} {p b : Nat} {mb : Option Nat} {s : ByteArray} {aU aS : Addr} (hn : 4 ≤ n)
    (hg : a.eval g = .func (.func 55) #[] #[.pointer (some ⟨b, 0, none⟩)]) (hps : ps.size = 2) (hs : Sit w p s mb b aU aS) (Sc : Nat → Prop) (hA : Apart Sc p mb b aU aS) (hlt : ∀ k, Sc k → k < w.heap.size)
    (I : List (Nat × Bool) → World → Prop) (Ix : Code → List (Nat × Bool) → World → Prop)
    (hI : ∀ xs A B, I xs A → Moves (Beside p mb w.heap.size) A B → I xs B) (hIx : ∀ c xs A B, Ix c xs A → Moves (Beside p mb w.heap.size) A B → Ix c xs B) (h0 : I [] w) (a₁ : Nat × Bool → Act)
    (hassign : ∀ (l : Nat) (x : Nat × Bool) (W : World) (K : Act → World → Prop), K (a₁ x) W →
      assign.wpIn (Fence.wide.inRound l) (n - 1 - 1) Tryd.prog (Exit.then K (fun _ _ _ => False)) { tmps := (ps.zip (encs aU x)).foldl (fun t (p, v) => t.setIfInBounds p v) a.tmps, defers := [] } W)
    (hbody : ∀ (l : Nat) (pre : List (Nat × Bool)) (x : Nat × Bool) (W : World), I pre W → body.wpIn (Fence.wide.inRound l) (n - 1 - 1) Tryd.prog (roundEnd Sc I Ix (pre ++ [x]) W) (a₁ x) W)
    (hdone : ∀ (D : Nat) (W : World), w.heap.size ≤ D → I (evs s.data.toList) W → W.heap[D]? = some (.deferred (some [])) → Q .normal { a with defers := { target := .collected D, args := #[] } :: a.defers } W)
    (hstop : ∀ (D : Nat) (c : Code) (pre : List (Nat × Bool)) (W : World), w.heap.size ≤ D → pre <+: evs s.data.toList → Ix c pre W → W.heap[D]? = some (.deferred (some [])) →
      c.wpIn Fence.wide n Tryd.prog Q { a with defers := { target := .collected D, args := #[] } :: a.defers } W) :
    (Code.rangeFunc g ps assign body).wpIn Fence.wide n Tryd.prog Q a w := by
  refine wpIn_rangeFunc ?_
  intro fn hfn
  obtain ⟨rec, hrec⟩ : ∃ rec : LoopState → Option Code → Loop, rec = fun st pe => { state := st, pending := pe, fn, tmps := a.tmps, params := ps, assign, body, defers := w.heap.size } := ⟨_, rfl⟩
  obtain ⟨W1, hW1⟩ : ∃ W1, (w.alloc (.deferred (some []))).alloc (.loop (rec .ready none)) = W1 := ⟨_, rfl⟩
  have hL1 : W1.heap[w.heap.size + 1]? = some (.loop (rec .ready none)) := by
    rw [← hW1]; have := World.alloc_heap_new (w.alloc (.deferred (some []))) (.loop (rec .ready none)); rwa [World.size_alloc] at this
  have hK1 : W1.heap[w.heap.size]? = some (.deferred (some [])) := by
    rw [← hW1]; exact (Below.heap_alloc _ _ _ (by simp)).trans (World.alloc_heap_new w _)
  have hb1 : Below w.heap.size w W1 := by
    rw [← hW1]; exact ((Below.refl _ w).alloc (Nat.le_refl _) _).alloc (by simp) _
  have hI1 : I [] W1 := hI _ _ _ h0 (Moves.of_below hb1)
  have hs1 : Sit W1 p s mb b aU aS := hs.apart (Sc := fun _ => False) ⟨id, fun _ _ => id, id, id, id, id, id⟩ (Moves.of_below hb1)
  have hpl : ∀ k, Own p mb k → k < w.heap.size := by
    rintro k (rfl | e)
    · exact hs.rd.lt
    · obtain ⟨es, c, hh, _⟩ := hs.rd.good k e
      exact (Array.getElem?_eq_some_iff.1 hh).1
  have hbl : b < w.heap.size := by obtain ⟨t, hb⟩ := hs.box; exact (Array.getElem?_eq_some_iff.1 hb).1
  have keep : ∀ {S : Nat → Prop} {A B : World} {k : Nat} {o : Obj}, Moves S A B → ¬ S k → A.heap[k]? = some o → B.heap[k]? = some o := fun hm hk h => (hm.block _ (Array.getElem?_eq_some_iff.1 h).1 hk).trans h
  have put : ∀ {A : World} {k : Nat} {o : Obj}, w.heap.size ≤ k → Moves (Beside p mb w.heap.size) A (A.putObj k o) := fun hk => Moves.putObj (.inr hk)
  let Sd : Nat → Prop := fun k => Sc k ∨ k = w.heap.size + 1
  have hAd : Apart Sd p mb b aU aS := by
    have l1 := hs.gl.ltU
    have l2 := hs.gl.ltS
    have l3 := hs.gl.lt_aU
    have l4 := hs.gl.lt_aS
    have l5 := hs.rd.lt
    exact {
      p := by rintro (h | h); exact hA.p h; omega
      m := by
        rintro m e (h | h)
        · exact hA.m m e h
        · have := hpl m (.inr e); omega
      b := by rintro (h | h); exact hA.b h; omega
      gU := by rintro (h | h); exact hA.gU h; omega
      gS := by rintro (h | h); exact hA.gS h; omega
      aU := by rintro (h | h); exact hA.aU h; omega
      aS := by rintro (h | h); exact hA.aS h; omega }
  have hOl : ∀ k, w.heap.size ≤ k → ¬ Own p mb k := fun k hk h => by have := hpl k h; omega
  have hSl : ∀ k, w.heap.size ≤ k → ¬ Sc k := fun k hk h => by have := hlt k h; omega
  refine ⟨w.heap.size + 1, [{ target := .collected w.heap.size, args := #[] }], W1, { target := .fn (.func 55) #[.pointer (some ⟨b, 0, none⟩)], args := #[.func (.yield (w.heap.size + 1)) #[] #[]] }, W1, 55,
    #[.func (.yield (w.heap.size + 1)) #[] #[]] ++ #[.pointer (some ⟨b, 0, none⟩)], W1, ?_, ?_, ?_, ?_, fun _ => by omega, ?_⟩
  · rw [← hW1, hrec]; exact run_enterLoop_outer _ _ _ _ _
  · simp only [resolve, hg]
    simp [go_sem]
  · intro f' hf'; exact trivial
  · have eg : ∀ args w, (callFunc 55 args).run Tryd.prog w = .ok (.enter 55 args) w := enters_of Tryd.func55 (by kernel_rfl) rfl
    simp [invoke, go_sem, eg]
  · refine (scalars1_any (n := n - 1) (l := w.heap.size + 1) (Sc := Sd)
      (J := fun pre W => I pre W ∧ W.heap[w.heap.size + 1]? = some (.loop (rec .ready none)) ∧ W.heap[w.heap.size]? = some (.deferred (some [])))
      (Jx := fun pre W => ∃ c, Ix c pre W ∧ W.heap[w.heap.size + 1]? = some (.loop (rec .done (some c))) ∧ W.heap[w.heap.size]? = some (.deferred (some [])))
      (by omega) hAd ?_ ?_ hs1 ⟨hI1, hL1, hK1⟩).mono ?_
    · rintro xs A B ⟨hi, hl, hk⟩ hm
      exact ⟨hI _ _ _ hi (hm.mono fun k h => .inl h), keep hm (hOl _ (by omega)) hl, keep hm (hOl _ (Nat.le_refl _)) hk⟩
    · rintro pre x W ⟨hi, hl, hk⟩
      have hlt1 : w.heap.size + 1 < W.heap.size := (Array.getElem?_eq_some_iff.1 hl).1
      have hy := run_yield (P := Tryd.prog) (args := encs aU x) hl (by rw [hrec]; exact hps.symm)
      rw [hrec] at hy
      refine ⟨fn, _, assign, body, hy, roundIn_of_wpIn hfn (hassign _ x W _ ⟨_, run_beginRound hl (by rw [hrec]), ?_⟩)⟩
      have hl2 : (W.putObj (w.heap.size + 1) (.loop { rec .ready none with state := .busy })).heap[w.heap.size + 1]? = some (.loop { rec .ready none with state := .busy }) := World.putObj_heap_same hlt1
      have hk2 : (W.putObj (w.heap.size + 1) (.loop { rec .ready none with state := .busy })).heap[w.heap.size]? = some (.deferred (some [])) := (World.putObj_heap_other (by omega)).trans hk
      have hw2 : Moves Sd W (W.putObj (w.heap.size + 1) (.loop { rec .ready none with state := .busy })) := Moves.putObj (.inr rfl)
      refine wpIn_mono (hbody _ pre x _ (hI _ _ _ hi (put (by omega)))) ?_
      have fin : ∀ (jump : Option Code) (W3 : World), Moves Sc (W.putObj (w.heap.size + 1) (.loop { rec .ready none with state := .busy })) W3 →
          (Instr.endRound (w.heap.size + 1) jump).run Tryd.prog W3 = .ok (.bool jump.isNone) (W3.putObj (w.heap.size + 1) (.loop (rec (if jump.isNone then .ready else .done) jump))) ∧
          (W3.putObj (w.heap.size + 1) (.loop (rec (if jump.isNone then .ready else .done) jump))).heap[w.heap.size + 1]? = some (.loop (rec (if jump.isNone then .ready else .done) jump)) ∧
          (W3.putObj (w.heap.size + 1) (.loop (rec (if jump.isNone then .ready else .done) jump))).heap[w.heap.size]? = some (.deferred (some [])) := fun jump W3 hk3 => by
        have hl3 := keep hk3 (hSl _ (by omega)) hl2
        have := run_endRound (P := Tryd.prog) jump hl3
        rw [hrec] at this ⊢
        exact ⟨this, World.putObj_heap_same (Array.getElem?_eq_some_iff.1 hl3).1, (World.putObj_heap_other (by omega)).trans (keep hk3 (hSl _ (Nat.le_refl _)) hk2)⟩
      have all : ∀ {W3 : World} {o : Obj}, Moves Sc (W.putObj (w.heap.size + 1) (.loop { rec .ready none with state := .busy })) W3 → Moves Sd W (W3.putObj (w.heap.size + 1) o) := fun hk3 => (hw2.trans (hk3.mono fun k h => .inl h)).trans (Moves.putObj (.inr rfl))
      rintro e a3 W3 hp
      cases e with
      | normal =>
        obtain ⟨hk3, hi3⟩ := hp
        obtain ⟨hr, hl4, hk4⟩ := fin none W3 hk3
        exact ⟨_, _, hr, .inl ⟨rfl, ⟨hI _ _ _ hi3 (put (by omega)), hl4, hk4⟩, all hk3⟩⟩
      | ret =>
        obtain ⟨hk3, hi3⟩ := hp
        obtain ⟨hr, hl4, hk4⟩ := fin (some .ret) W3 hk3
        exact ⟨_, _, hr, .inr ⟨rfl, .ret, hIx _ _ _ _ hi3 (put (by omega)), hl4, hk4⟩⟩
      | exit id =>
        obtain ⟨hk3, hi3⟩ := hp
        obtain ⟨hr, hl4, hk4⟩ := fin (some (.exit id)) W3 hk3
        exact ⟨_, _, hr, .inr ⟨rfl, .exit id, hIx _ _ _ _ hi3 (put (by omega)), hl4, hk4⟩⟩
      | goto t =>
        obtain ⟨hk3, hi3⟩ := hp
        obtain ⟨hr, hl4, hk4⟩ := fin (some (.goto t)) W3 hk3
        exact ⟨_, _, hr, .inr ⟨rfl, .goto t, hIx _ _ _ _ hi3 (put (by omega)), hl4, hk4⟩⟩
      | panic ch => exact hp.elim
      | outgrown => exact hp.elim
    · rintro e W2 ⟨⟨v, rfl⟩, (⟨hi, hl, hk⟩ | ⟨pre, hSp, c, hi, hl, hk⟩)⟩
      · exact ⟨none, _, by have := run_endLoop (P := Tryd.prog) hl (by rw [hrec]; simp); rw [hrec] at this; exact this, hdone _ _ (Nat.le_refl _) (hI _ _ _ hi (put (by omega))) ((World.putObj_heap_other (by omega)).trans hk)⟩
      · exact ⟨some c, _, by have := run_endLoop (P := Tryd.prog) hl (by rw [hrec]; simp); rw [hrec] at this; exact this, hstop _ c pre _ (Nat.le_refl _) hSp (hIx _ _ _ _ hi (put (by omega))) ((World.putObj_heap_other (by omega)).trans hk)⟩
end Go.Proofs.YtcdgmamlmapbcaaDoor

namespace Go.Proofs.YtcdgmamlmapbcaaDoor
open Go.RowKit Go.Shelf
attribute [local go_sem] Oper.semAt_some

set_option maxHeartbeats 400000 in
theorem read_any (s : ByteArray) (w : World) :
    Calls Tryd.prog 37 #[.string s] w fun e w' => e = .returned (.pointer (some ⟨w.heap.size + 1, 0, none⟩)) ∧ Rd w' (w.heap.size + 1) s (some w.heap.size) ∧ Below w.heap.size w w' := by
  have hmm := @run_makeMap Tryd.prog
  go_enter Tryd.func37, Tryd.ntmps37
  go_wp2
  go_ret
  refine ⟨rfl, ⟨?_, ?_⟩, ((Below.refl _ _).alloc (Nat.le_refl _) _).alloc (by simp) _⟩
  · have := heap_alloc_new (w.alloc (.map #[] 0)) (.cells #[.string s, .map (some w.heap.size)] 80)
    rwa [World.size_alloc] at this
  · rintro m ⟨⟩
    exact ⟨#[], 0, (Below.heap_alloc _ _ _ (by simp)).trans (heap_alloc_new _ _), fun e he => by simp at he⟩

set_option maxHeartbeats 400000 in
theorem scalars_any (p : Nat) (w : World) :
    Calls Tryd.prog 38 #[.pointer (some ⟨p, 0, none⟩)] w fun e w' => e = .returned (.func (.func 55) #[] #[.pointer (some ⟨w.heap.size, 0, none⟩)]) ∧ ∃ t, w.alloc (.cells #[.pointer (some ⟨p, 0, none⟩)] t (0, 0)) = w' := by
  go_enter Tryd.func38, Tryd.ntmps38
  go_wp2
  go_ret
  exact ⟨rfl, _, rfl⟩

/-- A block of one cell. -/
def Box (w : World) (c : Nat) (v : Value) : Prop := ∃ t, w.heap[c]? = some (.cells #[v] t (0, 0))
theorem Box.lt {w : World} {c : Nat} {v : Value} (h : Box w c v) : c < w.heap.size := by obtain ⟨t, h⟩ := h; exact (Array.getElem?_eq_some_iff.1 h).1
theorem Box.cell {w : World} {c : Nat} {v : Value} (h : Box w c v) : w.cell? ⟨c, 0, none⟩ = some v := by obtain ⟨t, h⟩ := h; rw [cell_of_row _ _ 0 _ _ _ h]; rfl
theorem Box.froz {w : World} {c : Nat} {v : Value} (h : Box w c v) : w.frozen? ⟨c, 0, none⟩ = false := by obtain ⟨t, h⟩ := h; exact frozen_of_row _ _ _ _ _ h
theorem Box.moves {w w' : World} {c : Nat} {v : Value} {S : Nat → Prop} (h : Box w c v) (hm : Moves S w w') (hc : ¬ S c) : Box w' c v := by obtain ⟨t, hb⟩ := h; exact ⟨t, (hm.block _ (Box.lt ⟨t, hb⟩) hc).trans hb⟩
theorem Box.set {w : World} {c : Nat} {v : Value} (h : Box w c v) (v' : Value) : Box (w.setCell ⟨c, 0, none⟩ v') c v' := by
  obtain ⟨t, h⟩ := h
  exact ⟨t, by rw [heap_setCell_same _ _ 0 _ _ _ h]; rfl⟩
theorem Box.new (w : World) (v : Value) (t : TypeId) : Box (w.alloc (.cells #[v] t)) w.heap.size v := ⟨t, heap_alloc_new _ _⟩

/-- Is there no scalar somewhere? -/
def validL (l : List UInt8) : Bool := (evs l).all fun x => !x.2

set_option maxRecDepth 100000 in
set_option maxHeartbeats 1000000 in
theorem valid_any (s : ByteArray) (w : World) (aU aS : Addr) (hG : Glob w aU aS) :
    Calls Tryd.prog 18 #[.string s] w fun e w' => e = .returned (.bool (validL s.data.toList)) ∧ Below w.heap.size w w' := by
  refine (callsIn_wide (n := 5)).1 ?_
  have h1 : 1 ≤ 5 := by omega
  refine callsIn_of_wp_marks Tryd.func18 rfl trivial ?_ rfl
  simp only [Tryd.ntmps18, List.size_toArray, List.length_cons, List.length_nil, Nat.reduceAdd, Nat.reduceSub, Array.replicate_succ, Array.replicate_zero, List.push_toArray, List.append_toArray, List.nil_append, List.cons_append]
  have B0 : Below w.heap.size w (w.alloc (.cells #[.bool false] 4)) := (Below.refl _ _).alloc (Nat.le_refl _) _
  have X0 : Box (w.alloc (.cells #[.bool false] 4)) w.heap.size (.bool false) := Box.new _ _ _
  have G0 := hG.below B0
  have ltU := hG.ltU
  have ltS := hG.ltS
  have lU := hG.lt_aU
  have lS := hG.lt_aS
  gi_wp2_with fail
  refine ⟨trivial, (callsIn_wide.2 (read_any s _)).mono ?_⟩
  rintro e w1 ⟨rfl, R1, B1⟩
  simp only [World.size_alloc] at R1 B1 ⊢
  gi_wp2_with fail
  refine ⟨trivial, (callsIn_wide.2 (scalars_any _ w1)).mono ?_⟩
  rintro e w2 ⟨rfl, t2, hw2⟩
  have B2 : Below w1.heap.size w1 w2 := by rw [← hw2]; exact (Below.refl _ _).alloc (Nat.le_refl _) _
  have R2 := R1.below B2
  have hb : w2.heap[w1.heap.size]? = some (.cells #[.pointer (some ⟨w.heap.size + 1 + 1, 0, none⟩)] t2 (0, 0)) := by rw [← hw2]; exact heap_alloc_new _ _
  clear hw2
  have z1 := B1.size
  have z2 := B2.size
  simp only [World.size_alloc] at z1
  have h01 : Below (w.heap.size + 1) (w.alloc (.cells #[.bool false] 4)) w2 := B1.trans (B2.mono z1)
  have G2 : Glob w2 aU aS := G0.below (by simpa using h01)
  have X2 : Box w2 w.heap.size (.bool false) := X0.moves (Moves.of_below (S := fun _ => False) (by simpa using h01)) id
  have BW : Below w.heap.size w w2 := B0.trans (h01.mono (by omega))
  have zl := R2.lt
  have e2 : ∀ k, Beside (w.heap.size + 1 + 1) (some (w.heap.size + 1)) w2.heap.size k → w.heap.size < k := by
    rintro k ((rfl | e) | e)
    · omega
    · cases e; omega
    · omega
  gi_wp2_with fail
  refine wpIn_scalars (p := w.heap.size + 1 + 1) (b := w1.heap.size) (mb := some (w.heap.size + 1)) (s := s) (aU := aU) (aS := aS) (by omega) rfl rfl ⟨R2, G2, ⟨t2, hb⟩, by have := R1.lt; omega⟩ (fun k => k = w.heap.size)
    { p := by omega, m := fun m e => by cases e; omega, b := by omega, gU := by omega, gS := by omega, aU := by omega, aS := by omega } (fun k e => by omega)
    (fun pre W => (∀ x ∈ pre, x.2 = false) ∧ Box W w.heap.size (.bool false) ∧ Glob W aU aS ∧ Below w.heap.size w W)
    (fun c pre W => c = .ret ∧ (∃ x ∈ pre, x.2 = true) ∧ Box W w.heap.size (.bool false) ∧ Below w.heap.size w W) ?hI ?hIx ⟨fun x hx => by simp at hx, X2, G2, BW⟩
    (fun x => { tmps := #[.string s, undef, .pointer (some ⟨w.heap.size, 0, none⟩), undef, if x.2 then errV aU else .nilIface, .string s, .pointer (some ⟨w.heap.size + 1 + 1, 0, none⟩), .func (.func 55) #[] #[.pointer (some ⟨w1.heap.size, 0, none⟩)], .int .i64 (x.1 : Nat), if x.2 then errV aU else .nilIface, undef, undef, undef], defers := [] }) ?assign ?body ?done ?stop
  case hI =>
    rintro xs A B ⟨hx, hc, hg, hB⟩ hm
    refine ⟨hx, hc.moves hm ?_, hg.apart hm ?_ ?_ ?_ ?_, Moves.below hB hB.size hm ?_⟩
    · intro h; have := e2 _ h; omega
    · intro h; have := e2 _ h; omega
    · intro h; have := e2 _ h; omega
    · intro h; have := e2 _ h; omega
    · intro h; have := e2 _ h; omega
    · intro k h; have := e2 _ h; omega
  case hIx =>
    rintro c xs A B ⟨rfl, hx, hc, hB⟩ hm
    exact ⟨rfl, hx, hc.moves hm fun h => by have := e2 _ h; omega, Moves.below hB hB.size hm fun k h => by have := e2 _ h; omega⟩
  case assign =>
    rintro l ⟨r, bad⟩ W K hK
    unfold encs
    cases bad
    · gi_wp2
      exact hK
    · gi_wp2
      exact hK
  case body =>
    rintro l pre ⟨r, bad⟩ W ⟨hp, hX, hg, hB⟩
    have hu := hg.utf
    have hc := hX.cell
    have hf := hX.froz
    cases bad with
    | false =>
      simp only [Bool.false_eq_true, if_false]
      gi_wp2_with fail
      refine ⟨trivial, CallsIn.inRound l ((callsIn_wide.2 (is_nil aU _)).mono ?_)⟩
      rintro e w' ⟨rfl, rfl⟩
      gi_wp2
      exact ⟨Moves.refl _ _, fun x hx => (List.mem_append.1 hx).elim (hp x) (fun e => by simp at e; subst e; rfl), hX, hg, hB⟩
    | true =>
      simp only [if_true]
      gi_wp2_with fail
      refine ⟨trivial, CallsIn.inRound l ((callsIn_wide.2 (is_same aU _)).mono ?_)⟩
      rintro e w' ⟨rfl, rfl⟩
      gi_wp2
      exact ⟨Moves.setCell rfl, rfl, ⟨_, List.mem_append.2 (.inr (List.mem_singleton.2 rfl)), rfl⟩, hX.set _, hB.setCell (p := ⟨w.heap.size, 0, none⟩) (Nat.le_refl _) _⟩
  case done =>
    rintro D W hD ⟨hp, hX, hg, hB⟩ hK
    have hc := hX.cell
    have hf := hX.froz
    gi_wp2
    have hX' := hX.set (.bool true)
    have hK' : (W.setCell ⟨w.heap.size, 0, none⟩ (.bool true)).heap[D]? = some (.deferred (some [])) := (heap_setCell_other _ _ _ _ (by show D ≠ w.heap.size; omega)).trans hK
    refine ⟨by simp, .inl ⟨_, _, rfl, run_takeDeferred hK', ?_⟩⟩
    have hc5 := (hX'.moves (Moves.putObj (S := fun k => k = D) (m := D) (o := .deferred none) rfl) (by omega)).cell
    have hv : validL s.data.toList = true := by
      unfold validL
      rw [List.all_eq_true]
      intro x hx
      rw [hp x hx]; rfl
    refine ⟨.bool true, ?_, by rw [hv], Moves.below (hB.setCell (p := ⟨w.heap.size, 0, none⟩) (Nat.le_refl _) _) (by simpa using hB.size) (Moves.putObj (S := fun k => k = D) rfl) (fun k e => by omega)⟩
    simp [results, Tryd.f18, go_sem, hc5]
  case stop =>
    rintro D c pre W hD hpre ⟨rfl, hin, hX, hB⟩ hK
    gi_wp2
    refine ⟨by simp, .inl ⟨_, _, rfl, run_takeDeferred hK, ?_⟩⟩
    have hc5 := (hX.moves (Moves.putObj (S := fun k => k = D) (m := D) (o := .deferred none) rfl) (by omega)).cell
    have hv : validL s.data.toList = false := by
      obtain ⟨x, hx, hb⟩ := hin
      unfold validL
      rw [List.all_eq_false]
      exact ⟨x, hpre.subset hx, by rw [hb]; simp⟩
    refine ⟨.bool false, ?_, by rw [hv], Moves.below hB hB.size (Moves.putObj (S := fun k => k = D) rfl) (fun k e => by omega)⟩
    simp [results, Tryd.f18, go_sem, hc5]
end Go.Proofs.YtcdgmamlmapbcaaDoor

namespace Go.Proofs.YtcdgmamlmapbcaaDoor

theorem validL_nil : validL [] = true := by unfold validL; rw [evs_nil]; rfl
theorem validL_some {l : List UInt8} {r n : Nat} (h : decL l = some (r, n)) : validL l = validL (l.drop n) := by
  unfold validL
  rw [evs_some h]
  simp
theorem validL_none {l : List UInt8} (h : decL l = none) (h0 : l ≠ []) : validL l = false := by
  unfold validL
  rw [evs_none h h0]
  rfl
theorem evs_enc {r : Nat} (h : rowR r < 9) (t : List UInt8) : evs (encB r ++ t) = (r, false) :: evs t := by
  rw [evs_some (decL_enc h t), List.drop_left]
theorem validL_enc {r : Nat} (h : rowR r < 9) (t : List UInt8) : validL (encB r ++ t) = validL t := by
  rw [validL_some (decL_enc h t), List.drop_left]

/-- A byte of a scalar that is not its first one. -/
theorem enc_tail {r : Nat} (h : rowR r < 9) {i : Nat} (h0 : 0 < i) (hi : i < (encB r).length) : 128 ≤ ((encB r).getD i 0).toNat ∧ ((encB r).getD i 0).toNat ≤ 191 :=
  tail_of_fits h (known_row h).fits h0 hi
/-- With such a byte no scalar begins. -/
theorem decL_tail {b : UInt8} {t : List UInt8} (h : 128 ≤ b.toNat ∧ b.toNat ≤ 191) : decL (b :: t) = none := by
  rw [decL_cons]
  have := rowIx_cases b.toNat
  rw [if_neg (by omega)]

theorem split_some {l : List UInt8} {r n : Nat} (h : decL l = some (r, n)) : l = encB r ++ l.drop n ∧ rowR r < 9 := by
  obtain ⟨h9, ht, _⟩ := decL_some h
  exact ⟨by rw [← ht, List.take_append_drop], h9⟩

theorem validL_append (n : Nat) : ∀ (s t : List UInt8), s.length ≤ n → validL s = true → validL (s ++ t) = validL t := by
  induction n with
  | zero =>
    intro s t hn _
    obtain rfl : s = [] := List.eq_nil_of_length_eq_zero (by omega)
    rfl
  | succ n ih =>
    intro s t hn hs
    cases hd : decL s with
    | none =>
      by_cases h0 : s = []
      · subst h0; rfl
      · rw [validL_none hd h0] at hs; cases hs
    | some x =>
      obtain ⟨r, k⟩ := x
      obtain ⟨e, h9⟩ := split_some hd
      have hl := decL_len hd
      rw [validL_some hd] at hs
      have := ih (s.drop k) t (by simp only [List.length_drop]; omega) hs
      rw [e, List.append_assoc, validL_enc h9, this]

theorem validL_head {t : List UInt8} (h : validL t = true) (h0 : t ≠ []) : ¬ (128 ≤ (t.getD 0 0).toNat ∧ (t.getD 0 0).toNat ≤ 191) := by
  intro hb
  cases t with
  | nil => exact h0 rfl
  | cons b t =>
    rw [validL_none (decL_tail (by simpa using hb)) (by simp)] at h
    cases h

theorem validL_front (n : Nat) : ∀ (s t : List UInt8), s.length ≤ n → validL t = true → validL (s ++ t) = validL s := by
  induction n with
  | zero =>
    intro s t hn ht
    obtain rfl : s = [] := List.eq_nil_of_length_eq_zero (by omega)
    rw [List.nil_append, ht, validL_nil]
  | succ n ih =>
    intro s t hn ht
    by_cases h0 : s = []
    · subst h0
      rw [List.nil_append, ht, validL_nil]
    cases hd : decL s with
    | some x =>
      obtain ⟨r, k⟩ := x
      obtain ⟨e, h9⟩ := split_some hd
      have hl := decL_len hd
      have := ih (s.drop k) t (by simp only [List.length_drop]; omega) ht
      rw [validL_some hd]
      conv => lhs; rw [e, List.append_assoc, validL_enc h9, this]
    | none =>
      rw [validL_none hd h0]
      cases hst : decL (s ++ t) with
      | none => exact validL_none hst (by simp [h0])
      | some x =>
        exfalso
        obtain ⟨r, k⟩ := x
        obtain ⟨h9, hk, hlen⟩ := decL_some hst
        rcases Nat.lt_or_ge s.length k with hlt | hge
        · have hl := decL_len hst
          have htn : t ≠ [] := by
            rintro rfl
            simp at hl
            omega
          have hp : 0 < s.length := List.length_pos_iff.2 h0
          have hc := enc_tail h9 hp (by omega)
          refine validL_head ht htn ?_
          have eg : (encB r).getD s.length 0 = t.getD 0 0 := by
            rw [← hk]
            simp only [List.getD, List.getElem?_take, hlt, if_true]
            rw [List.getElem?_append_right (Nat.le_refl _), Nat.sub_self]
          rw [eg] at hc
          exact hc
        · have e : s = encB r ++ s.drop k := by
            have := congrArg (List.take k) (List.take_append_drop k s).symm
            rw [← hk, List.take_append_of_le_length hge, List.take_append_drop]
          rw [e, decL_enc h9] at hd
          cases hd

/-- A part of a scalar's bytes, at its beginning, that is not all of them. -/
theorem validL_take {r i : Nat} (h : rowR r < 9) (h0 : 0 < i) (hi : i < (encB r).length) : validL ((encB r).take i) = false := by
  have K := known_row h
  obtain ⟨b, t, e, hb⟩ := K.head
  have e2 : (encB r).take i = b :: t.take (i - 1) := by
    rw [e]
    obtain ⟨j, rfl⟩ : ∃ j, i = j + 1 := ⟨i - 1, by omega⟩
    simp
  have hl : ((encB r).take i).length = i := by rw [List.length_take]; omega
  rw [e2] at hl ⊢
  refine validL_none ?_ (by simp)
  rw [decL_cons, hb, if_neg]
  rintro ⟨_, hf⟩
  have hs := K.len
  simp only [fitsB, Bool.and_eq_true, decide_eq_true_eq, List.length_take] at hf
  omega
/-- At its end. -/
theorem validL_drop {r i : Nat} (h : rowR r < 9) (h0 : 0 < i) (hi : i < (encB r).length) : validL ((encB r).drop i) = false := by
  have ht := enc_tail h h0 hi
  have e : (encB r).drop i = (encB r).getD i 0 :: (encB r).drop (i + 1) := by
    rw [List.drop_eq_getElem_cons hi]
    simp [List.getD, hi]
  rw [e]
  exact validL_none (decL_tail ht) (by simp)
end Go.Proofs.YtcdgmamlmapbcaaDoor

namespace Go.Proofs.YtcdgmamlmapbcaaDoor
open Go.RowKit

theorem strR_list (r : Int) : (strR r).data.toList = encB r.toNat := rfl
theorem strR_size (r : Int) : (strR r).size = (encB r.toNat).length := by simp [strR, ByteArray.size]
theorem rowR_toNat {r : Int} (h : rowR r < 9) : rowR ((r.toNat : Nat) : Int) < 9 := by have := scalar_lt h; rwa [Int.toNat_of_nonneg this.1]
theorem piece_take {r : Int} (h : rowR r < 9) {i : Nat} (h0 : 0 < i) (hi : i < (strR r).size) : validL ((strR r).extract 0 i).data.toList = false := by
  rw [Lib.extract_data, strR_list]
  rw [strR_size] at hi
  simpa using validL_take (rowR_toNat h) h0 hi
theorem piece_drop {r : Int} (h : rowR r < 9) {i : Nat} (h0 : 0 < i) (hi : i < (strR r).size) : validL ((strR r).extract i (strR r).size).data.toList = false := by
  rw [drop_toList, strR_list]
  rw [strR_size] at hi
  exact validL_drop (rowR_toNat h) h0 hi
theorem strR_ne {r : Int} : (strR r).toList.isEmpty = false := by
  rw [Lib.toList_data, strR_list]
  have := encB_length r.toNat
  cases h : encB r.toNat with
  | nil => rw [h] at this; simp at this
  | cons b t => rfl

theorem append_list (s t : ByteArray) : (s ++ t).data.toList = s.data.toList ++ t.data.toList := by
  rw [ByteArray.data_append, Array.toList_append]
theorem joins_back (s t : ByteArray) (h : validL s.data.toList = true) : validL (s ++ t).data.toList = validL t.data.toList := by
  rw [append_list]; exact validL_append _ _ _ (Nat.le_refl _) h
theorem joins_front (s t : ByteArray) (h : validL t.data.toList = true) : validL (s ++ t).data.toList = validL s.data.toList := by
  rw [append_list]; exact validL_front _ _ _ (Nat.le_refl _) h
theorem valid_empty : validL (⟨#[]⟩ : ByteArray).data.toList = true := validL_nil

theorem head_list {s : ByteArray} {r n : Nat} (h : decL s.data.toList = some (r, n)) : (s.extract 0 n).data.toList = encB r := by
  rw [Lib.extract_data]
  simpa using (decL_some h).2.1
theorem first_more {s : ByteArray} {r n : Nat} (h : decL s.data.toList = some (r, n)) (t : ByteArray) : decV (s.extract 0 n ++ t).data.toList = .tuple #[.int .i64 (r : Nat), .int .i64 (n : Nat), .bool true] := by
  obtain ⟨h9, _, hn⟩ := decL_some h
  rw [append_list, head_list h]
  have := decL_enc h9 t.data.toList
  rw [← hn] at this
  exact decV_some this
theorem first_alone {s : ByteArray} {r n : Nat} (h : decL s.data.toList = some (r, n)) : decV (s.extract 0 n).data.toList = .tuple #[.int .i64 (r : Nat), .int .i64 (n : Nat), .bool true] := by
  obtain ⟨h9, _, hn⟩ := decL_some h
  rw [head_list h]
  have := decL_enc h9 []
  rw [← hn, List.append_nil] at this
  exact decV_some this

end Go.Proofs.YtcdgmamlmapbcaaDoor

