/- Shaken by bunq.py. -/
import Derived.Test.YtnmhdcbpbaanoaaGreatDoorBuq25
import Derived.Test.YtnmhdcbpbaanoaaGreatDoorBuq27
namespace Go.Proofs.YtnmhdcbpbaanoaaGreatDoor
open Go.RowKit Go.Shelf Go.Maps

def movR (x : ItemP) (l : List Int) (F : Nat → Bool) : Nat → Bool
  | 0 => false
  | i + 1 => match l[i]? with | some c => hasZ x.1 c && ((decide (x.2 = 0) && F i) || (decide (x.2 = 1) && (endsR x l F i).1) || (decide (x.2 = 2) && (endsR x l F i).2)) | none => false
theorem ends_out (x : ItemP) (l : List Int) (F : Nat → Bool) : ∀ i, (endsR x l F i).1 = (movR x l F i || (F i && decide (x.2 ≠ 0)))
  | 0 => by show _ = (false || _); rw [Bool.false_or]; rfl
  | i + 1 => rfl
def outQ (x : ItemP) (l : List Int) (F : Nat → Bool) (i p : Nat) : Bool := if p < i then (endsR x l F p).1 else if p = i then movR x l F i else false
def halfQ (x : ItemP) (l : List Int) (F : Nat → Bool) (i p : Nat) : Bool := if p ≤ i then (endsR x l F p).2 else false
theorem out_step (x : ItemP) (l : List Int) (F : Nat → Bool) (i p : Nat) : (if p = i then (outQ x l F i i || (F i && decide (x.2 ≠ 0))) else outQ x l F i p) = if p ≤ i then (endsR x l F p).1 else false := by
  unfold outQ
  rw [if_neg (Nat.lt_irrefl i), if_pos rfl]
  by_cases h : p = i
  · subst h
    rw [if_pos rfl, if_pos (Nat.le_refl _), ends_out]
  · rw [if_neg h]
    by_cases h2 : p < i
    · rw [if_pos h2, if_pos (by omega)]
    · rw [if_neg h2, if_neg h, if_neg (by omega)]
theorem out_next (x : ItemP) (l : List Int) (F : Nat → Bool) (i p : Nat) : outQ x l F (i + 1) p = if p = i + 1 then movR x l F (i + 1) else if p ≤ i then (endsR x l F p).1 else false := by
  unfold outQ
  by_cases h : p = i + 1
  · rw [if_neg (by omega), if_pos h, if_pos h]
  · rw [if_neg h, if_neg h]
    by_cases h2 : p ≤ i
    · rw [if_pos (by omega), if_pos h2]
    · rw [if_neg (by omega), if_neg h2]
theorem half_next (x : ItemP) (l : List Int) (F : Nat → Bool) (i p : Nat) : halfQ x l F (i + 1) p = if p = i + 1 then (endsR x l F (i + 1)).2 else halfQ x l F i p := by
  unfold halfQ
  by_cases h : p = i + 1
  · rw [if_pos (by omega), if_pos h, h]
  · rw [if_neg h]
    by_cases h2 : p ≤ i
    · rw [if_pos (by omega), if_pos h2]
    · rw [if_neg (by omega), if_neg h2]
theorem half_two (x : ItemP) (l : List Int) (F : Nat → Bool) (h : x.2 ≠ 2) : ∀ i, (endsR x l F i).2 = false
  | 0 => rfl
  | i + 1 => by
    show (match l[i]? with | some c => hasZ x.1 c && (decide (x.2 = 2) && (endsR x l F i).1) | none => false) = false
    rw [decide_eq_false h]
    cases l[i]? with
    | none => rfl
    | some c => simp
theorem none_next (x : ItemP) (l : List Int) (F : Nat → Bool) {i : Nat} (h : ∀ c, l[i]? = some c → hasZ x.1 c = false) : movR x l F (i + 1) = false ∧ (endsR x l F (i + 1)).2 = false := by
  constructor
  · show (match l[i]? with | some c => _ | none => false) = false
    cases hc : l[i]? with
    | none => rfl
    | some c => show (hasZ x.1 c && _) = false; rw [h c hc]; rfl
  · show (match l[i]? with | some c => hasZ x.1 c && (decide (x.2 = 2) && (endsR x l F i).1) | none => false) = false
    cases hc : l[i]? with
    | none => rfl
    | some c => show (hasZ x.1 c && _) = false; rw [h c hc]; rfl
theorem some_next (x : ItemP) (l : List Int) (F : Nat → Bool) {i : Nat} {c : Int} (hc : l[i]? = some c) (h : hasZ x.1 c = true) :
    movR x l F (i + 1) = ((decide (x.2 = 0) && F i) || (decide (x.2 = 1) && (endsR x l F i).1) || (decide (x.2 = 2) && (endsR x l F i).2)) ∧ (endsR x l F (i + 1)).2 = (decide (x.2 = 2) && (endsR x l F i).1) := by
  constructor
  · show (match l[i]? with | some c => hasZ x.1 c && ((decide (x.2 = 0) && F i) || (decide (x.2 = 1) && (endsR x l F i).1) || (decide (x.2 = 2) && (endsR x l F i).2)) | none => false) = _
    rw [hc]
    show (hasZ x.1 c && _) = _
    rw [h, Bool.true_and]
  · show (match l[i]? with | some c => hasZ x.1 c && (decide (x.2 = 2) && (endsR x l F i).1) | none => false) = _
    rw [hc]
    show (hasZ x.1 c && _) = _
    rw [h, Bool.true_and]
def RowB (W : World) (g n : Nat) (f : Nat → Bool) : Prop := ∃ cur : Array Value, W.heap[g]? = some (.cells cur 4 (0, 0)) ∧ ∀ p, p ≤ n → cur[p]? = some (.bool (f p))
theorem RowB.cell {W : World} {g n : Nat} {f : Nat → Bool} (h : RowB W g n f) {p : Nat} (hp : p ≤ n) : W.cell? ⟨g, p, none⟩ = some (.bool (f p)) := by
  obtain ⟨cur, hg, hc⟩ := h
  rw [cell_of_row _ _ p _ _ _ hg]
  exact hc p hp
theorem RowB.frozen {W : World} {g n : Nat} {f : Nat → Bool} (h : RowB W g n f) (p : Nat) : W.frozen? ⟨g, p, none⟩ = false := by
  obtain ⟨cur, hg, _⟩ := h
  exact frozen_of_row _ _ _ _ _ hg
theorem RowB.lt {W : World} {g n : Nat} {f : Nat → Bool} (h : RowB W g n f) : g < W.heap.size := by
  obtain ⟨cur, hg, _⟩ := h
  exact (Array.getElem?_eq_some_iff.1 hg).1
theorem RowB.keep {S : Nat → Prop} {W W' : World} {g n : Nat} {f : Nat → Bool} (h : RowB W g n f) (hm : Moves S W W') (hs : ¬ S g) : RowB W' g n f := by
  obtain ⟨cur, hg, hc⟩ := h
  exact ⟨cur, row_keep hg hm hs, hc⟩
theorem RowB.ext {W : World} {g n : Nat} {f f' : Nat → Bool} (h : RowB W g n f) (he : ∀ p, p ≤ n → f p = f' p) : RowB W g n f' := by
  obtain ⟨cur, hg, hc⟩ := h
  exact ⟨cur, hg, fun p hp => by rw [hc p hp, he p hp]⟩
theorem RowB.set {W : World} {g n : Nat} {f : Nat → Bool} (h : RowB W g n f) (p : Nat) (b : Bool) (hp : p ≤ n) : RowB (W.setCell ⟨g, p, none⟩ (.bool b)) g n (fun q => if q = p then b else f q) := by
  obtain ⟨cur, hg, hc⟩ := h
  refine ⟨_, heap_setCell_same _ _ _ _ _ _ hg, fun q hq => ?_⟩
  have hlt := (Array.getElem?_eq_some_iff.1 (hc p hp)).1
  rw [Array.getElem?_setIfInBounds]
  by_cases h2 : p = q
  · subst h2
    rw [if_pos rfl, if_pos hlt]
    simp
  · rw [if_neg h2]
    have h3 : ¬ q = p := fun e => h2 e.symm
    simp only [if_neg h3]
    exact hc q hq
theorem infoBoolQ : (Tryz.prog.info? 4).map (fun i => (i.zero, i.size, i.bytes)) = some (some (.bool false), 1, 1) := by kernel_rfl
theorem makeB (w : World) (n : Nat) (hn : n ≤ 100000) : ∃ o, (Instr.makeSlice 91 (.int .i64 ((n : Nat) + 1)) (.int .i64 ((n : Nat) + 1))).run Tryz.prog w = .ok (.slice (some ⟨w.heap.size, 0, none⟩) (n + 1) (n + 1)) (w.alloc o) ∧ RowB (w.alloc o) w.heap.size n fun _ => false := by
  obtain ⟨i0, hi0, hz0, hz1, hz2⟩ := info_parts infoBoolQ
  have := run_makeSlice (P := Tryz.prog) w 91 4 i0 (.bool false) Tryz.underlying91 hi0 hz0 .i64 .i64 ((n : Nat) + 1) ((n : Nat) + 1) (by omega) (by omega) (by rw [hz1]; omega) (by rw [hz2]; omega) (by omega)
  rw [hz1, show (((n : Nat) : Int) + 1).toNat = n + 1 from by omega] at this
  refine ⟨_, this, _, heap_alloc_new _ _, fun p hp => ?_⟩
  have hc : (Value.bool false).cells = #[.bool false] := rfl
  rw [hc]
  unfold madeCells
  rw [Array.getElem?_map, Array.getElem?_range, if_pos (by omega)]
  simp [Nat.mod_one]
end Go.Proofs.YtnmhdcbpbaanoaaGreatDoor
namespace Go.Proofs.YtnmhdcbpbaanoaaGreatDoor
open Go.RowKit Go.Shelf Go.Maps
attribute [local go_sem] Oper.semAt_some

def ReachQ (n : Nat) (R : Nat → Bool) (w : World) (e : Ending) (w' : World) : Prop := ∃ g, e = .returned (.slice (some ⟨g, 0, none⟩) (n + 1) (n + 1)) ∧ RowB w' g n R ∧ Below w.heap.size w w'
theorem out_zero (x : ItemP) (l : List Int) (F : Nat → Bool) (p : Nat) : outQ x l F 0 p = false := by
  unfold outQ
  rw [if_neg (Nat.not_lt_zero p)]
  split
  · rfl
  · rfl
theorem half_zero (x : ItemP) (l : List Int) (F : Nat → Bool) (p : Nat) : halfQ x l F 0 p = false := by
  unfold halfQ
  split
  · rename_i h
    obtain rfl : p = 0 := by omega
    rfl
  · rfl
theorem out_none {x : ItemP} {l : List Int} {F : Nat → Bool} {i : Nat} (h : movR x l F (i + 1) = false) (p : Nat) : outQ x l F (i + 1) p = if p ≤ i then (endsR x l F p).1 else false := by
  rw [out_next, h]
  by_cases h1 : p = i + 1
  · rw [if_pos h1, if_neg (by omega)]
  · rw [if_neg h1]
theorem half_none {x : ItemP} {l : List Int} {F : Nat → Bool} {i : Nat} (h : (endsR x l F (i + 1)).2 = false) (p : Nat) : halfQ x l F (i + 1) p = halfQ x l F i p := by
  rw [half_next, h]
  by_cases h1 : p = i + 1
  · rw [if_pos h1]
    unfold halfQ
    rw [if_neg (by omega)]
  · rw [if_neg h1]
theorem half_at (x : ItemP) (l : List Int) (F : Nat → Bool) (i : Nat) : halfQ x l F i i = (endsR x l F i).2 := by unfold halfQ; rw [if_pos (Nat.le_refl _)]
def EndI (x : ItemP) (L : List Int) (F : Nat → Bool) (n a b g : Nat) (w : World) (i : Nat) (wr : World) : Prop :=
  RowB wr b n (outQ x L F i) ∧ RowB wr (b + 1) n (halfQ x L F i) ∧ wr.heap[a]? = some (itO x) ∧ RowB wr g n F ∧ Below w.heap.size w wr
end Go.Proofs.YtnmhdcbpbaanoaaGreatDoor
