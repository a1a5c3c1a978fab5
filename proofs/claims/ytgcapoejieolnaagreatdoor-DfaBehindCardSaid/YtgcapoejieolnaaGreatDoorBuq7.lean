/- Shaken by bunq.py. -/
import Derived.Test.YtgcapoejieolnaaGreatDoorBuq6
import Derived.Maps.AppendAt
import Derived.Test.YtgcapoejieolnaaGreatDoorBuq4
import Derived.OrdersHeld
import Derived.Deep.RegionHeld
namespace Go.Proofs.YtgcapoejieolnaaGreatDoor
open Go.RowKit Go.Shelf Go.Maps
attribute [local go_sem] Oper.semAt_some
attribute [local go_sem ↓] app_hide

abbrev natC (l : List Nat) : List Value := l.map fun c => .int .i64 ((c : Nat) : Int)
theorem infoIntH : (Tryz.prog.info? 3).map (fun i => (i.zero, i.size, i.bytes)) = some (some (.int .i64 0), 1, 8) := by kernel_rfl
theorem nat_ownH {W : World} {base k : Nat} {v : Value} {xs : List Value} (q : Nat) (ho : W.ownsRow base 3 1 v k xs) (hk : k ≤ 2000000) (hbase : base ≤ W.heap.size) :
    ∃ g cap w6, (appSem #[34, 34] 34 #[v, .slice (some ⟨W.heap.size, 0, none⟩) 1 1]).run Tryz.prog (W.alloc (.cells #[.int .i64 (q : Nat)] 3)) = .ok (.slice (some ⟨g, 0, none⟩) (k + 1) cap) w6 ∧
      w6.ownsRow base 3 1 (.slice (some ⟨g, 0, none⟩) (k + 1) cap) (k + 1) (xs ++ [.int .i64 (q : Nat)]) ∧ (W.alloc (.cells #[.int .i64 (q : Nat)] 3)).grownBy w6 v.ownBlock ∧ (∀ j, (Value.slice (some ⟨g, 0, none⟩) (k + 1) cap).ownBlock = some j → v.ownBlock = some j ∨ W.heap.size ≤ j) := by
  obtain ⟨i0, hi, hz0, hz1, hz2⟩ := info_parts infoIntH
  have hb : Below W.heap.size W (W.alloc (.cells #[.int .i64 (q : Nat)] 3)) := (Below.refl _ _).alloc (Nat.le_refl _) _
  obtain ⟨v', w6, hr, h2, h3, h4, h5⟩ := run_append_own_at (P := Tryz.prog) _ base 34 34 3 i0 (.int .i64 0) 1 8 Tryz.underlying34 hi hz0 hz1 hz2 rfl (by decide) v k xs (own_below ho hb) ⟨W.heap.size, 0, none⟩ 1 1 [.int .i64 (q : Nat)] rfl
    (cell_one_new _ _ _) (by simp [Value.oneCell']) (by unfold maxLen; omega) (by omega) (by simp; omega)
  obtain ⟨g, cap, rfl⟩ := ownsRow_succ h2
  refine ⟨g, cap, w6, hr, h2, h3, fun j hj => ?_⟩
  rcases h5 with h | h
  · exact .inl (h.symm.trans hj)
  · right
    rw [h] at hj
    have := Option.some.inj hj
    rw [World.size_alloc] at this
    omega
theorem WayMap.moves2 {W W' : World} {M N : Nat} {X S : Nat → Prop} (h : WayMap W M N X) (hm : Moves S W W') (hs : ¬ S M) (hx : ∀ k, X k → S k → ∀ x, W.heap[k]? ≠ some (itO x)) : WayMap W' M N X := by
  obtain ⟨D, n, ⟨es, clock, hb, F⟩, h2, h3⟩ := h
  refine ⟨D, n, ⟨es, clock, (hm.block M (Array.getElem?_eq_some_iff.1 hb).1 hs).trans hb, F⟩, h2, fun x hx' => ?_⟩
  rcases h3 x hx' with h | ⟨B, hB, hl, r1, r2, r3, r4⟩
  · exact .inl h
  · exact .inr ⟨B, hB, Nat.lt_of_lt_of_le hl hm.size, r1, r2, r3, (hm.block B hl (fun hS => hx B hB hS x r4)).trans r4⟩
theorem own_movesH {A B : World} {base : Nat} {e : TypeId} {size : Nat} {v : Value} {n : Nat} {xs : List Value} {S : Nat → Prop} (h : A.ownsRow base e size v n xs) (hm : Moves S A B) (hS : ∀ k, v.ownBlock = some k → ¬ S k) : B.ownsRow base e size v n xs := by
  refine ⟨h.1, ?_⟩
  rcases h.2 with hn | ⟨g, cap, cur, rfl, hg, hh, rest⟩
  · exact .inl hn
  · exact .inr ⟨g, cap, cur, rfl, hg, (hm.block _ (Array.getElem?_eq_some_iff.1 hh).1 (hS g (by simp [Value.ownBlock]))).trans hh, rest⟩
def startL (st : Bool) : List Nat := if st then [] else [0]
structure StepI (w w5 : World) (bx s : Nat) (st : Bool) (o : Option Addr) (n cap M N : Nat) (X0 : Nat → Prop) (c : Int) (L : List Nat) (q : Nat) (X : Nat → Prop) (W : World) : Prop where
  big : w5.heap.size ≤ W.heap.size
  far : ∀ k, X k → w5.heap.size ≤ k
  rb : W.heap[w.heap.size]? = some (rnrO st o n cap (.map (some M)))
  cb : Boxed W (w.heap.size + 1) 3 (.int .i64 c)
  sb : Boxed W bx 182 (.int .i64 (s : Nat))
  nb : ∃ v, Boxed W (w.heap.size + 2) 34 v ∧ W.ownsRow (w.heap.size + 3) 3 1 v L.length (natC L) ∧ ∀ k, v.ownBlock = some k → ¬ X k
  wm : ∃ XW, WayMap W M (N + q) XW ∧ ∀ k, XW k → (X0 k ∨ w.heap.size ≤ k) ∧ ¬ X k ∧ k < W.heap.size
  mv : Moves (fun k => k = M) w W
theorem StepI.moves {w w5 A B : World} {bx s : Nat} {st : Bool} {o : Option Addr} {n cap M N q : Nat} {X0 X X' : Nat → Prop} {c : Int} {L : List Nat} (h : StepI w w5 bx s st o n cap M N X0 c L q X A) (hz : w.heap.size + 3 ≤ bx ∧ bx < w5.heap.size) (hM : M < w.heap.size) (hm : Moves X A B) (hX : ∀ k, X' k → (X k ∨ A.heap.size ≤ k) ∧ k < B.heap.size) : StepI w w5 bx s st o n cap M N X0 c L q X' B := by
  have hn : ∀ k, k < w5.heap.size → ¬ X k := fun k h1 hx => by have := h.far k hx; omega
  have hb := h.big
  obtain ⟨v, h1, h2, h3⟩ := h.nb
  obtain ⟨XW, h4, h5⟩ := h.wm
  refine ⟨Nat.le_trans h.big hm.size, fun k hk => ?_, row_keep h.rb hm (hn _ (by omega)), row_keep h.cb hm (hn _ (by omega)), row_keep h.sb hm (hn _ hz.2), ⟨v, row_keep h1 hm (hn _ (by omega)), own_movesH h2 hm h3, fun k hk hx => ?_⟩, ⟨XW, h4.moves hm (hn _ (by omega)) (fun k hk => (h5 k hk).2.1), fun k hk => ⟨(h5 k hk).1, fun hx => ?_, Nat.lt_of_lt_of_le (h5 k hk).2.2 hm.size⟩⟩, ?_⟩
  · rcases (hX k hk).1 with h1 | h1
    · exact h.far k h1
    · omega
  · rcases (hX k hx).1 with h6 | h6
    · exact h3 k hk h6
    · have := h2.lt k hk; omega
  · rcases (hX k hx).1 with h6 | h6
    · exact (h5 k hk).2.1 h6
    · have := (h5 k hk).2.2; omega
  · exact ⟨hm.os.trans h.mv.os, hm.tape.trans h.mv.tape, hm.output.trans h.mv.output, Nat.le_trans h.mv.size hm.size, fun k hk hs => (hm.block k (by have := h.mv.size; omega) (hn k (by omega))).trans (h.mv.block k hk hs)⟩
theorem StepI.way {w w5 W6 W7 W8 : World} {bx s : Nat} {st : Bool} {o : Option Addr} {n cap M N q : Nat} {X0 X XW : Nat → Prop} {c : Int} {L : List Nat} (h : StepI w w5 bx s st o n cap M N X0 c L q X W6) (hz : w.heap.size + 3 ≤ bx ∧ bx < w5.heap.size) (hM : M < w.heap.size) (hXW : ∀ k, XW k → (X0 k ∨ w.heap.size ≤ k) ∧ ¬ X k ∧ k < W6.heap.size)
    (hXl : ∀ k, X k → k < W6.heap.size) (m7 : Moves (fun k => k = M) W6 W7) (wm7 : WayMap W7 M (N + q + 1) (grownX XW W6 W7)) (b8 : Below W7.heap.size W7 W8) : StepI w w5 bx s st o n cap M N X0 c L (q + 1) X W8 := by
  have hb := h.big
  have m8 : Moves (fun k => k = M) W6 W8 := m7.trans (Moves.of_below b8)
  obtain ⟨v, h1, h2, h3⟩ := h.nb
  refine ⟨Nat.le_trans hb m8.size, h.far, row_keep h.rb m8 (by omega), row_keep h.cb m8 (by omega), row_keep h.sb m8 (by omega), ⟨v, row_keep h1 m8 (by omega), own_movesH h2 m8 (fun k hk e => by have := (h2.lt k hk).1; omega), h3⟩, ⟨_, wm7.below b8, fun k hk => ?_⟩, h.mv.trans m8⟩
  have s7 := m7.size
  have s8 := b8.size
  rcases hk with hk | ⟨h4, h5⟩
  · obtain ⟨r1, r2, r3⟩ := hXW k hk
    exact ⟨r1, r2, by omega⟩
  · have := h.mv.size
    exact ⟨.inr (by omega), fun hx => by have := hXl k hx; omega, by omega⟩
theorem cells_type {c d : Array Value} {t u : TypeId} {f g : Nat × Nat} {W : World} {k : Nat} (h1 : W.heap[k]? = some (.cells c t f)) (h2 : W.heap[k]? = some (.cells d u g)) : t = u := by
  have := Option.some.inj (h1.symm.trans h2)
  injection this
theorem StepI.app {w w5 W : World} {bx s : Nat} {st : Bool} {o : Option Addr} {n cap M N q : Nat} {X0 X : Nat → Prop} {c : Int} {L : List Nat} (h : StepI w w5 bx s st o n cap M N X0 c L q X W) (hz : w.heap.size + 3 ≤ bx ∧ bx < w5.heap.size) (hM : M < w.heap.size) (hL : L.length ≤ 1000) (hXl : ∀ k, X k → k < W.heap.size) (m : Nat) :
    ∃ o' c' g cap' w6, W.cell? ⟨w.heap.size + 1 + 1, 0, none⟩ = some (.slice o' L.length c') ∧ (appSem #[34, 34] 34 #[.slice o' L.length c', .slice (some ⟨W.heap.size, 0, none⟩) 1 1]).run Tryz.prog (W.alloc (.cells #[.int .i64 (m : Nat)] 3)) = .ok (.slice (some ⟨g, 0, none⟩) (L.length + 1) cap') w6 ∧
      w6.cell? ⟨w.heap.size + 1 + 1, 0, none⟩ = some (.slice o' L.length c') ∧ w6.frozen? ⟨w.heap.size + 1 + 1, 0, none⟩ = false ∧
      StepI w w5 bx s st o n cap M N X0 c (L ++ [m]) q X (w6.setCell ⟨w.heap.size + 1 + 1, 0, none⟩ (.slice (some ⟨g, 0, none⟩) (L.length + 1) cap')) ∧
      Moves (fun k => ¬ X k ∧ k ≠ bx) W (w6.setCell ⟨w.heap.size + 1 + 1, 0, none⟩ (.slice (some ⟨g, 0, none⟩) (L.length + 1) cap')) := by
  have hb := h.big
  have hsz := h.mv.size
  obtain ⟨v, h1, h2, h3⟩ := h.nb
  obtain ⟨XW, wm, hXW⟩ := h.wm
  obtain ⟨o', c', rfl⟩ := own_form h2
  obtain ⟨g, cap', w6, hrun, hown, hgr, hwh⟩ := nat_ownH m h2 (by omega) (by omega)
  have b1 : Below W.heap.size W (W.alloc (.cells #[.int .i64 (m : Nat)] 3)) := (Below.refl _ _).alloc (Nat.le_refl _) _
  have hlt := h2.lt
  have m6 : Moves (fun k => (Value.slice o' L.length c').ownBlock = some k) W w6 := (Moves.of_below b1).trans (moves_grownH hgr)
  have n6 : Boxed w6 (w.heap.size + 2) 34 (.slice o' L.length c') := row_keep h1 m6 (fun e => by have := hlt _ e; omega)
  have m10 : Moves (fun k => k = w.heap.size + 2) w6 (w6.setCell ⟨w.heap.size + 1 + 1, 0, none⟩ (.slice (some ⟨g, 0, none⟩) (L.length + 1) cap')) := Moves.setCell rfl
  have MV : Moves (fun k => k = w.heap.size + 2 ∨ (Value.slice o' L.length c').ownBlock = some k) W (w6.setCell ⟨w.heap.size + 1 + 1, 0, none⟩ (.slice (some ⟨g, 0, none⟩) (L.length + 1) cap')) := (m6.mono fun k e => .inr e).trans (m10.mono fun k e => .inl e)
  have hty : ∀ k, (k = w.heap.size + 2 ∨ (Value.slice o' L.length c').ownBlock = some k) → ∃ cs t, W.heap[k]? = some (.cells cs t (0, 0)) ∧ (t = 34 ∨ t = 3) := by
    rintro k (rfl | hk)
    · exact ⟨_, _, h1, .inl rfl⟩
    · rcases h2.2 with ⟨e, _⟩ | ⟨g', cap2, cur, e, _, hg', _⟩
      · rw [e] at hk; simp [Value.ownBlock] at hk
      · rw [e] at hk
        obtain rfl : g' = k := by simpa [Value.ownBlock] using hk
        exact ⟨_, _, hg', .inr rfl⟩
  have hnX : ∀ k, (k = w.heap.size + 2 ∨ (Value.slice o' L.length c').ownBlock = some k) → ¬ X k ∧ k ≠ bx := by
    intro k hk
    refine ⟨?_, fun e => ?_⟩
    · rcases hk with rfl | hk
      · exact fun hx => by have := h.far _ hx; omega
      · exact h3 k hk
    · obtain ⟨cs, t, hc, ht⟩ := hty k hk
      rw [e] at hc
      have := cells_type hc (show W.heap[bx]? = _ from h.sb)
      rcases ht with rfl | rfl
      · exact absurd this (by decide)
      · exact absurd this (by decide)
  refine ⟨o', c', g, cap', w6, h1.cell, hrun, n6.cell, n6.frozen, ⟨Nat.le_trans hb MV.size, h.far, row_keep h.rb MV ?_, row_keep h.cb MV ?_, row_keep h.sb MV (fun e => (hnX _ e).2 rfl), ⟨_, n6.set _, ?_, ?_⟩, ⟨XW, wm.moves2 MV ?_ ?_, fun k hk => ⟨(hXW k hk).1, (hXW k hk).2.1, Nat.lt_of_lt_of_le (hXW k hk).2.2 MV.size⟩⟩, ?_⟩, MV.mono hnX⟩
  · rintro (e | e)
    · omega
    · have := hlt _ e; omega
  · rintro (e | e)
    · omega
    · have := hlt _ e; omega
  · have := own_movesH hown m10 (fun k hk => by have := (hown.lt k hk).1; omega)
    have e : natC (L ++ [m]) = natC L ++ [.int .i64 ((m : Nat) : Int)] := by simp [natC]
    rw [List.length_append, e]
    exact this
  · intro k hk hx
    rcases hwh k hk with e | e
    · exact h3 k e hx
    · have := hXl k hx; omega
  · rintro (e | e)
    · omega
    · have := hlt _ e; omega
  · intro k hk hS x hc
    obtain ⟨cs, t, hc2, ht⟩ := hty k hS
    have := cells_type hc2 hc
    rcases ht with rfl | rfl
    · exact absurd this (by decide)
    · exact absurd this (by decide)
  · exact ⟨MV.os.trans h.mv.os, MV.tape.trans h.mv.tape, MV.output.trans h.mv.output, Nat.le_trans hsz MV.size, fun k hk hs => (MV.block k (by omega) (by
      rintro (e | e)
      · omega
      · have := hlt _ e; omega)).trans (h.mv.block k hk hs)⟩
theorem nexts_all {xs : List ItemP} {st : Bool} {c : Int} {s : Nat} : startL st ++ (classesN (2 * xs.length + 1) s).filterMap (goesH xs c) = nextsH xs st c s := by
  unfold nextsH startL
  congr 1
  rw [classesN_snoc, List.filterMap_append]
  have e : goesH xs c (2 * xs.length) = none := by
    unfold goesH
    rw [show 2 * xs.length / 2 = xs.length by omega, List.getElem?_eq_none (Nat.le_refl _)]
  split
  · simp [e]
  · simp
theorem nexts_stop {xs : List ItemP} {st : Bool} {c : Int} {s : Nat} {pre : List Nat} (h : pre ++ [2 * xs.length] <+: classesN (2 * xs.length + 1) s) : startL st ++ pre.filterMap (goesH xs c) = nextsH xs st c s := by
  rw [← nexts_all (xs := xs)]
  obtain ⟨r, hr⟩ := h
  have hr0 : r = [] := by
    cases r with
    | nil => rfl
    | cons y r =>
      exfalso
      rw [classesN_snoc] at hr
      have hm : 2 * xs.length ∈ pre ++ [2 * xs.length] ++ y :: r := by simp
      rw [hr] at hm
      have hb : s.testBit (2 * xs.length) = true := by
        rcases List.mem_append.1 hm with h | h
        · have := (classesN_mem.1 h).1; omega
        · by_cases g : s.testBit (2 * xs.length) = true
          · exact g
          · rw [if_neg g] at h; simp at h
      rw [if_pos hb] at hr
      have e : pre ++ [2 * xs.length] ++ y :: r = (pre ++ [2 * xs.length] ++ (y :: r).dropLast) ++ [(y :: r).getLast (by simp)] := by
        rw [List.append_assoc _ ((y :: r).dropLast), List.dropLast_concat_getLast]
      rw [e] at hr
      obtain ⟨h1, h2⟩ := List.append_inj' hr (by simp)
      have : 2 * xs.length ∈ classesN (2 * xs.length) s := by rw [← h1]; simp
      have := (classesN_mem.1 this).1
      omega
  rw [hr0, List.append_nil] at hr
  rw [← hr, List.filterMap_append]
  have e : goesH xs c (2 * xs.length) = none := by
    unfold goesH
    rw [show 2 * xs.length / 2 = xs.length by omega, List.getElem?_eq_none (Nat.le_refl _)]
  simp [e]
end Go.Proofs.YtgcapoejieolnaaGreatDoor
namespace Go.Proofs.YtgcapoejieolnaaGreatDoor
open Go.RowKit

section
variable {n : Nat} {P : Program} {md : Region.Mode} {ops : Array Oper} {Q : Exit → Act → World → Prop} {S : World → Prop}
theorem wpIn_of_wpH {o : Oper} {a : Act} {w : World} {K K' : Act → World → Prop} (hK : ∀ a w, K a w → K' a w) (h : o.wp P a w K Q) : o.wpIn Fence.wide n P a w K' Q := by
  unfold Oper.wp at h
  refine ⟨fun _ _ => trivial, ?_⟩
  rw [show Fence.wide.round = none from rfl, Oper.semAt_none]
  revert h
  generalize (execOp a.eval o).run P w = R
  intro h
  cases R with
  | ok nx w' =>
    cases nx
    case value v => exact hK _ _ h
    case skip => exact hK _ _ h
    case defer d => exact hK _ _ h
    case enter f args => exact ⟨fun e => (by cases e), (callsIn_wide.2 h).mono fun e w'' h3 => (by cases e <;> first | exact hK _ _ h3 | exact h3)⟩
    case row r args => exact ⟨fun e => (by cases e), fun c cs _ => let ⟨v, w', r, s⟩ := h c cs; ⟨v, w', hK _ _ r, stepsIn_wide.2 s⟩⟩
    all_goals exact h.elim
  | halt x w' => cases x <;> exact h
theorem wpOpIn_of_wpOpH {i : Nat} {a : Act} {w : World} {K K' : Act → World → Prop} (hQ : ¬ LetsOut Q) (hK : ∀ a w, K a w → K' a w) (h : wpOp P ops Q i K a w) : wpOpIn Fence.wide n P ops Q i K' a w := by
  unfold wpOp at h
  unfold wpOpIn
  cases ho : ops[i]? with
  | none => rw [ho] at h; exact hK _ _ h
  | some o =>
    rw [ho] at h
    simp only at h ⊢
    split at h
    · rename_i hw
      rw [if_pos hw]
      rcases h with h | ⟨_, h⟩
      · exact wpIn_of_wpH hK h
      · exact absurd h hQ
    · rename_i hw
      rw [if_neg hw]
      exact ⟨fun _ _ => trivial, hK _ _ h⟩
theorem wpAnyIn_of_anyH (hQ : ¬ LetsOut Q) : ∀ (fuel : Nat) (listed : Array Bool) (a : Act) (w : World), wpAny P md ops Q fuel listed a w → wpAnyIn Fence.wide n P md ops Q fuel listed a w
  | 0, _, _, _, h => h
  | fuel + 1, _, _, _, h => ⟨h.1, fun i hi => wpOpIn_of_wpOpH hQ (fun a w h => wpAnyIn_of_anyH hQ fuel _ a w h) (h.2 i hi)⟩
theorem wpIn_region_heldQ {id : Nat} {a : Act} {w : World} {l : List Oper} (l0 : Nat) (S : World → Prop) (hQ : ¬ LetsOut Q) (hd : l.all noDeferQ = true) (hm : P.follows .mixedOrders = true) (hS : S w.drew)
    (h : S w.drew → wpAnyH P .any l.toArray Q S l.toArray.size (Array.replicate l.toArray.size false) a w.drew) : (Code.region id l.toArray true).wpIn (Fence.wide.inRound l0) n P Q a w :=
  wpIn_region_any hm (wpAnyIn_roundQ l0 (fun o ho => List.all_eq_true.1 hd o (by simpa using ho)) _ _ _ _ (wpAnyIn_of_anyH hQ _ _ _ _ (wpAny_of_held _ _ _ _ (h hS))))
end
end Go.Proofs.YtgcapoejieolnaaGreatDoor
