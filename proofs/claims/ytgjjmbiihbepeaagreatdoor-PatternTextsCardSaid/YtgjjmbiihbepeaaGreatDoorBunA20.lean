/- The document's own Same. The document's ends, round by round, plainly; rows of bools. The document's own reach. -/
import Derived.Test.YtgjjmbiihbepeaaGreatDoorBunA19
namespace Go.Proofs.YtgjjmbiihbepeaaGreatDoor
open Go.RowKit Go.Shelf Go.Maps
attribute [local go_sem] Oper.semAt_some
attribute [local go_sem high] neq_it

set_option maxRecDepth 100000 in
set_option maxHeartbeats 4000000 in
theorem refSame_anyQ (s1 s2 : Bool) (o o2 : Option Addr) (l l2 : List ItemP) (cap cap2 : Nat) (hn : l.length ≤ 100000) (hn2 : l2.length ≤ 100000) (w : World) (hA : AtI w o l) (hA2 : AtI w o2 l2) :
    Calls Tryz.prog 17 #[patV s1 o l.length cap, patV s2 o2 l2.length cap2] w fun e w' => e = .returned (.bool (sameB s1 s2 l l2)) ∧ Below w.heap.size w w' := by
  obtain ⟨P, hP⟩ : ∃ P, (fun (e : Ending) w' => e = .returned (.bool (sameB s1 s2 l l2)) ∧ Below w.heap.size w w') = P := ⟨_, rfl⟩
  have HP := Lib.hid hP
  rw [hP]
  obtain ⟨n, hnn⟩ : ∃ n, l.length = n := ⟨_, rfl⟩
  obtain ⟨m, hmm⟩ : ∃ m, l2.length = m := ⟨_, rfl⟩
  have HN := Lib.hid hnn
  have HM := Lib.hid hmm
  rw [hnn] at hn ⊢
  rw [hmm] at hn2 ⊢
  obtain ⟨wb, hwb⟩ : ∃ wb, w.alloc (patO s1 o n cap) = wb := ⟨_, rfl⟩
  have bb : Below w.heap.size w wb := by rw [← hwb]; exact (Below.refl _ _).alloc (Nat.le_refl _) _
  have zb : wb.heap.size = w.heap.size + 1 := by rw [← hwb]; simp
  obtain ⟨wa, hwa⟩ : ∃ wa, wb.alloc (patO s2 o2 m cap2) = wa := ⟨_, rfl⟩
  have ba' : Below wb.heap.size wb wa := by rw [← hwa]; exact (Below.refl _ _).alloc (Nat.le_refl _) _
  have HBA := Lib.hid (bb.trans (ba'.mono bb.size))
  have ra : wa.heap[w.heap.size]? = some (patO s1 o n cap) := row_below (by rw [← hwb]; exact heap_alloc_new _ _) ba'
  have ra2 : wa.heap[w.heap.size + 1]? = some (patO s2 o2 m cap2) := by rw [← hwa, ← zb]; exact heap_alloc_new _ _
  have HA := Lib.hid hA
  have HA2 := Lib.hid hA2
  have HWA := Lib.hid hwa
  have HWB := Lib.hid hwb
  obtain ⟨p0, p1⟩ := pat_cells ra
  obtain ⟨q0, q1⟩ := pat_cells ra2
  have R0 := Lib.hid ra
  have R1 := Lib.hid ra2
  have FIN : Hid (∀ W b, sameB s1 s2 l l2 = b → Below wa.heap.size wa W → P (.returned (.bool b)) W) := Lib.hid fun W b h hb => by
    rw [← HP.out]; exact ⟨by rw [h], HBA.out.trans (hb.mono HBA.out.size)⟩
  clear hP hnn hmm hA hA2 hwa hwb bb zb ba' ra ra2
  have hfol : Tryz.prog.follows .mixedOrders = true := by kernel_rfl
  by_cases h1 : s1 = s2
  · subst h1
    by_cases h2 : n = m
    · subst h2
      have hs : (s1 == s1) = true := by simp
      go_enter Tryz.func17, Tryz.ntmps17
      go_wp2_with fail
      rw [HWB.out, HWA.out]
      go_loopg [5] n (fun k v wr => ∃ (j q : Nat), v = .int .i64 (j : Nat) ∧ j ≤ n ∧ k = n - j ∧ l.take j = l2.take j ∧ wr = wa.drewN q)
      case atStart => exact ⟨0, 0, rfl, Nat.zero_le _, rfl, rfl, rfl⟩
      case round =>
        obtain ⟨j, q, rfl, hj, rfl, htk, rfl⟩ := hrel
        rcases Nat.lt_or_ge j n with hlt | hge
        · have hj1 : j < 1000000 := by omega
          obtain ⟨x, hx⟩ : ∃ x, l[j]? = some x := ⟨_, List.getElem?_eq_getElem (by rw [HN.out]; exact hlt)⟩
          obtain ⟨y, hy⟩ : ∃ y, l2[j]? = some y := ⟨_, List.getElem?_eq_getElem (by rw [HM.out]; exact hlt)⟩
          obtain ⟨g, off, rfl, hc⟩ := (HA.out.below HBA.out) (by rw [HN.out]; omega)
          obtain ⟨k0, k1⟩ := hc j x hx
          obtain ⟨g2, off2, rfl, hc2⟩ := (HA2.out.below HBA.out) (by rw [HM.out]; omega)
          obtain ⟨m0, m1⟩ := hc2 j y hy
          have hg := World.block_lt_of_cell? wa _ k0
          have hg2 := World.block_lt_of_cell? wa _ m0
          have hw0 := World.block_lt_of_cell? wa _ p0
          have hw1 := World.block_lt_of_cell? wa _ q0
          have HX := Lib.hid hx
          have HY := Lib.hid hy
          have HT := Lib.hid htk
          obtain ⟨a, b⟩ := x
          obtain ⟨a2, b2⟩ := y
          simp only at k0 k1 m0 m1
          clear hc hc2 hx hy htk
          go_wp2_with fail
          go_quiet (fail)
          try rw [neq_decQ]
          by_cases hxy : ((a, b) : ItemP) = (a2, b2)
          · have HT2 := Lib.hid (take_eqI HT.out HX.out HY.out hxy)
            rw [decide_eq_true hxy]
            clear hxy
            go_wp2
            go_roundg (n - (j + 1))
            case measure => omega
            case rel => exact ⟨j + 1, q + nq, by simp, by omega, rfl, HT2.out, rfl⟩
          · have HPP := Lib.hid (FIN.out ((wa.drewN q).drewN nq) false (by
              unfold sameB
              rw [decide_eq_false (show ¬ l = l2 from fun he => hxy (by
                have h1 := HX.out
                rw [he, HY.out] at h1
                exact (Option.some.inj h1).symm)), Bool.and_false]) (below_drewQ2 _ _ _))
            rw [decide_eq_false hxy]
            clear hxy
            go_wp2
            first | exact HPP.out | (go_ret; exact HPP.out)
        · obtain rfl : j = n := by omega
          have HPP := Lib.hid (FIN.out (wa.drewN q) true (by
            have h := htk
            rw [List.take_of_length_le (by rw [HN.out]; exact Nat.le_refl _), List.take_of_length_le (by rw [HM.out]; exact Nat.le_refl _)] at h
            unfold sameB
            rw [decide_eq_true h, decide_eq_true rfl]
            rfl) (below_drewQ1 _ _))
          clear htk
          go_wp2
          first | exact HPP.out | (go_ret; exact HPP.out)
    · have h2b : (((n : Nat) : Int) == ((m : Nat) : Int)) = false := by rw [beq_eq_false_iff_ne]; omega
      have HF := Lib.hid (FIN.out wa false (by unfold sameB; rw [decide_eq_false (show ¬ l = l2 from fun e => h2 (by rw [← HN.out, ← HM.out, e])), Bool.and_false]) (Below.refl _ _))
      have hs : (s1 == s1) = true := by simp
      go_enter Tryz.func17, Tryz.ntmps17
      go_wp2
      try rw [HWB.out, HWA.out]
      first | exact HF.out | (go_ret; exact HF.out)
  · have h1b : (s1 == s2) = false := by simpa using h1
    have HF := Lib.hid (FIN.out wa false (by unfold sameB; rw [decide_eq_false h1]; rfl) (Below.refl _ _))
    go_enter Tryz.func17, Tryz.ntmps17
    go_wp2
    try rw [HWB.out, HWA.out]
    first | exact HF.out | (go_ret; exact HF.out)
end Go.Proofs.YtgjjmbiihbepeaaGreatDoor

namespace Go.Proofs.YtgjjmbiihbepeaaGreatDoor
open Go.RowKit Go.Shelf Go.Maps

/-- What goes on from the place before. -/
def movR (x : ItemP) (l : List Int) (F : Nat → Bool) : Nat → Bool
  | 0 => false
  | i + 1 => match l[i]? with | some c => hasZ x.1 c && ((decide (x.2 = 0) && F i) || (decide (x.2 = 1) && (endsR x l F i).1) || (decide (x.2 = 2) && (endsR x l F i).2)) | none => false
theorem ends_out (x : ItemP) (l : List Int) (F : Nat → Bool) : ∀ i, (endsR x l F i).1 = (movR x l F i || (F i && decide (x.2 ≠ 0)))
  | 0 => by show _ = (false || _); rw [Bool.false_or]; rfl
  | i + 1 => rfl
/-- out and half, as the rounds have left them ahead of round i; out, behind the first step of round i. -/
def outQ (x : ItemP) (l : List Int) (F : Nat → Bool) (i p : Nat) : Bool := if p < i then (endsR x l F p).1 else if p = i then movR x l F i else false
def halfQ (x : ItemP) (l : List Int) (F : Nat → Bool) (i p : Nat) : Bool := if p ≤ i then (endsR x l F p).2 else false
theorem out_step (x : ItemP) (l : List Int) (F : Nat → Bool) (i p : Nat) : (if p = i then (outQ x l F i i || (F i && decide (x.2 ≠ 0))) else outQ x l F i p) = if p ≤ i then (endsR x l F p).1 else false := by
  unfold outQ
  rw [if_neg (Nat.lt_irrefl i), if_pos rfl]
  by_cases h : p = i
  · subst h
    rw [if_pos rfl, if_pos (Nat.le_refl _), ends_out]
  · rw [if_neg h]
    by_cases h2 : p < i
    · rw [if_pos h2, if_pos (by omega)]
    · rw [if_neg h2, if_neg h, if_neg (by omega)]
theorem out_next (x : ItemP) (l : List Int) (F : Nat → Bool) (i p : Nat) : outQ x l F (i + 1) p = if p = i + 1 then movR x l F (i + 1) else if p ≤ i then (endsR x l F p).1 else false := by
  unfold outQ
  by_cases h : p = i + 1
  · rw [if_neg (by omega), if_pos h, if_pos h]
  · rw [if_neg h, if_neg h]
    by_cases h2 : p ≤ i
    · rw [if_pos (by omega), if_pos h2]
    · rw [if_neg (by omega), if_neg h2]
theorem half_next (x : ItemP) (l : List Int) (F : Nat → Bool) (i p : Nat) : halfQ x l F (i + 1) p = if p = i + 1 then (endsR x l F (i + 1)).2 else halfQ x l F i p := by
  unfold halfQ
  by_cases h : p = i + 1
  · rw [if_pos (by omega), if_pos h, h]
  · rw [if_neg h]
    by_cases h2 : p ≤ i
    · rw [if_pos (by omega), if_pos h2]
    · rw [if_neg (by omega), if_neg h2]
theorem half_two (x : ItemP) (l : List Int) (F : Nat → Bool) (h : x.2 ≠ 2) : ∀ i, (endsR x l F i).2 = false
  | 0 => rfl
  | i + 1 => by
    show (match l[i]? with | some c => hasZ x.1 c && (decide (x.2 = 2) && (endsR x l F i).1) | none => false) = false
    rw [decide_eq_false h]
    cases l[i]? with
    | none => rfl
    | some c => simp
theorem none_next (x : ItemP) (l : List Int) (F : Nat → Bool) {i : Nat} (h : ∀ c, l[i]? = some c → hasZ x.1 c = false) : movR x l F (i + 1) = false ∧ (endsR x l F (i + 1)).2 = false := by
  constructor
  · show (match l[i]? with | some c => _ | none => false) = false
    cases hc : l[i]? with
    | none => rfl
    | some c => show (hasZ x.1 c && _) = false; rw [h c hc]; rfl
  · show (match l[i]? with | some c => hasZ x.1 c && (decide (x.2 = 2) && (endsR x l F i).1) | none => false) = false
    cases hc : l[i]? with
    | none => rfl
    | some c => show (hasZ x.1 c && _) = false; rw [h c hc]; rfl
theorem some_next (x : ItemP) (l : List Int) (F : Nat → Bool) {i : Nat} {c : Int} (hc : l[i]? = some c) (h : hasZ x.1 c = true) :
    movR x l F (i + 1) = ((decide (x.2 = 0) && F i) || (decide (x.2 = 1) && (endsR x l F i).1) || (decide (x.2 = 2) && (endsR x l F i).2)) ∧ (endsR x l F (i + 1)).2 = (decide (x.2 = 2) && (endsR x l F i).1) := by
  constructor
  · show (match l[i]? with | some c => hasZ x.1 c && ((decide (x.2 = 0) && F i) || (decide (x.2 = 1) && (endsR x l F i).1) || (decide (x.2 = 2) && (endsR x l F i).2)) | none => false) = _
    rw [hc]
    show (hasZ x.1 c && _) = _
    rw [h, Bool.true_and]
  · show (match l[i]? with | some c => hasZ x.1 c && (decide (x.2 = 2) && (endsR x l F i).1) | none => false) = _
    rw [hc]
    show (hasZ x.1 c && _) = _
    rw [h, Bool.true_and]
/-- A row of bools. -/
def RowB (W : World) (g n : Nat) (f : Nat → Bool) : Prop := ∃ cur : Array Value, W.heap[g]? = some (.cells cur 4 (0, 0)) ∧ ∀ p, p ≤ n → cur[p]? = some (.bool (f p))
theorem RowB.cell {W : World} {g n : Nat} {f : Nat → Bool} (h : RowB W g n f) {p : Nat} (hp : p ≤ n) : W.cell? ⟨g, p, none⟩ = some (.bool (f p)) := by
  obtain ⟨cur, hg, hc⟩ := h
  rw [cell_of_row _ _ p _ _ _ hg]
  exact hc p hp
theorem RowB.frozen {W : World} {g n : Nat} {f : Nat → Bool} (h : RowB W g n f) (p : Nat) : W.frozen? ⟨g, p, none⟩ = false := by
  obtain ⟨cur, hg, _⟩ := h
  exact frozen_of_row _ _ _ _ _ hg
theorem RowB.lt {W : World} {g n : Nat} {f : Nat → Bool} (h : RowB W g n f) : g < W.heap.size := by
  obtain ⟨cur, hg, _⟩ := h
  exact (Array.getElem?_eq_some_iff.1 hg).1
theorem RowB.keep {S : Nat → Prop} {W W' : World} {g n : Nat} {f : Nat → Bool} (h : RowB W g n f) (hm : Moves S W W') (hs : ¬ S g) : RowB W' g n f := by
  obtain ⟨cur, hg, hc⟩ := h
  exact ⟨cur, row_keep hg hm hs, hc⟩
theorem RowB.ext {W : World} {g n : Nat} {f f' : Nat → Bool} (h : RowB W g n f) (he : ∀ p, p ≤ n → f p = f' p) : RowB W g n f' := by
  obtain ⟨cur, hg, hc⟩ := h
  exact ⟨cur, hg, fun p hp => by rw [hc p hp, he p hp]⟩
theorem RowB.set {W : World} {g n : Nat} {f : Nat → Bool} (h : RowB W g n f) (p : Nat) (b : Bool) (hp : p ≤ n) : RowB (W.setCell ⟨g, p, none⟩ (.bool b)) g n (fun q => if q = p then b else f q) := by
  obtain ⟨cur, hg, hc⟩ := h
  refine ⟨_, heap_setCell_same _ _ _ _ _ _ hg, fun q hq => ?_⟩
  have hlt := (Array.getElem?_eq_some_iff.1 (hc p hp)).1
  rw [Array.getElem?_setIfInBounds]
  by_cases h2 : p = q
  · subst h2
    rw [if_pos rfl, if_pos hlt]
    simp
  · rw [if_neg h2]
    have h3 : ¬ q = p := fun e => h2 e.symm
    simp only [if_neg h3]
    exact hc q hq
theorem infoBoolQ : (Tryz.prog.info? 4).map (fun i => (i.zero, i.size, i.bytes)) = some (some (.bool false), 1, 1) := by kernel_rfl
theorem makeB (w : World) (n : Nat) (hn : n ≤ 100000) : ∃ o, (Instr.makeSlice 49 (.int .i64 ((n : Nat) + 1)) (.int .i64 ((n : Nat) + 1))).run Tryz.prog w = .ok (.slice (some ⟨w.heap.size, 0, none⟩) (n + 1) (n + 1)) (w.alloc o) ∧ RowB (w.alloc o) w.heap.size n fun _ => false := by
  obtain ⟨i0, hi0, hz0, hz1, hz2⟩ := info_parts infoBoolQ
  have := run_makeSlice (P := Tryz.prog) w 49 4 i0 (.bool false) Tryz.underlying49 hi0 hz0 .i64 .i64 ((n : Nat) + 1) ((n : Nat) + 1) (by omega) (by omega) (by rw [hz1]; omega) (by rw [hz2]; omega) (by omega)
  rw [hz1, show (((n : Nat) : Int) + 1).toNat = n + 1 from by omega] at this
  refine ⟨_, this, _, heap_alloc_new _ _, fun p hp => ?_⟩
  have hc : (Value.bool false).cells = #[.bool false] := rfl
  rw [hc]
  unfold madeCells
  rw [Array.getElem?_map, Array.getElem?_range, if_pos (by omega)]
  simp [Nat.mod_one]
end Go.Proofs.YtgjjmbiihbepeaaGreatDoor

namespace Go.Proofs.YtgjjmbiihbepeaaGreatDoor
open Go.RowKit Go.Shelf Go.Maps
attribute [local go_sem] Oper.semAt_some

def ReachQ (n : Nat) (R : Nat → Bool) (w : World) (e : Ending) (w' : World) : Prop := ∃ g, e = .returned (.slice (some ⟨g, 0, none⟩) (n + 1) (n + 1)) ∧ RowB w' g n R ∧ Below w.heap.size w w'
theorem out_zero (x : ItemP) (l : List Int) (F : Nat → Bool) (p : Nat) : outQ x l F 0 p = false := by
  unfold outQ
  rw [if_neg (Nat.not_lt_zero p)]
  split
  · rfl
  · rfl
theorem half_zero (x : ItemP) (l : List Int) (F : Nat → Bool) (p : Nat) : halfQ x l F 0 p = false := by
  unfold halfQ
  split
  · rename_i h
    obtain rfl : p = 0 := by omega
    rfl
  · rfl
theorem out_none {x : ItemP} {l : List Int} {F : Nat → Bool} {i : Nat} (h : movR x l F (i + 1) = false) (p : Nat) : outQ x l F (i + 1) p = if p ≤ i then (endsR x l F p).1 else false := by
  rw [out_next, h]
  by_cases h1 : p = i + 1
  · rw [if_pos h1, if_neg (by omega)]
  · rw [if_neg h1]
theorem half_none {x : ItemP} {l : List Int} {F : Nat → Bool} {i : Nat} (h : (endsR x l F (i + 1)).2 = false) (p : Nat) : halfQ x l F (i + 1) p = halfQ x l F i p := by
  rw [half_next, h]
  by_cases h1 : p = i + 1
  · rw [if_pos h1]
    unfold halfQ
    rw [if_neg (by omega)]
  · rw [if_neg h1]
theorem half_at (x : ItemP) (l : List Int) (F : Nat → Bool) (i : Nat) : halfQ x l F i i = (endsR x l F i).2 := by unfold halfQ; rw [if_pos (Nat.le_refl _)]
/-- Where the rounds have come to. -/
def EndI (x : ItemP) (L : List Int) (F : Nat → Bool) (n a b g : Nat) (w : World) (i : Nat) (wr : World) : Prop :=
  RowB wr b n (outQ x L F i) ∧ RowB wr (b + 1) n (halfQ x L F i) ∧ wr.heap[a]? = some (itO x) ∧ RowB wr g n F ∧ Below w.heap.size w wr
end Go.Proofs.YtgjjmbiihbepeaaGreatDoor
