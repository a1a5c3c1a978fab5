/- Shaken by bunq.py. -/
import Derived.Test.YtgcapoejieolnaaGreatDoorBuq1
import Derived.Test.YtgcapoejieolnaaGreatDoorBuq2
import Derived.Maps.OwnOps
import Derived.Maps.OwnSet
namespace Go.Proofs.YtgcapoejieolnaaGreatDoor

abbrev Fit := (Nat → Bool) × (Nat → Bool)
def zeroF : Fit := (fun _ => false, fun _ => false)
def setN (B : Fit) (i : Nat) (v : Bool) : Fit := (fun j => if j = i then v else B.1 j, B.2)
def setH (B : Fit) (i : Nat) (v : Bool) : Fit := (B.1, fun j => if j = i then v else B.2 j)
def onceF (A B : Fit) (i : Nat) : Fit := if A.1 i = true then setN B (i + 1) true else B
def anyF (A B : Fit) (i : Nat) : Fit := if A.1 i = true then setN B i true else B
def halfF (A B : Fit) (i : Nat) : Fit := if A.1 i = true then setH B i true else B
def pairsF (A B : Fit) (i : Nat) : Fit := if A.2 i = true then setN (halfF A B i) i true else halfF A B i
def itemF (h : Int) (A B : Fit) (i : Nat) : Fit := if h = 0 then onceF A B i else if h = 1 then anyF A B i else pairsF A B i
def overF (xs : List ItemP) (B : Fit) : Nat → Fit
  | 0 => B
  | j + 1 => match xs[j]? with
    | none => overF xs B j
    | some x => if (overF xs B j).1 j = true ∧ x.2 ≠ 0 then setN (overF xs B j) (j + 1) true else overF xs B j
def takeF (xs : List ItemP) (c : Int) (A : Fit) : Nat → Fit
  | 0 => zeroF
  | j + 1 => match xs[j]? with
    | none => takeF xs c A j
    | some x => if hasZ x.1 c = true then itemF x.2 A (takeF xs c A j) j else takeF xs c A j
def cutF (n : Nat) (s : Fit) : Fit := (fun i => decide (i ≤ n) && s.1 i, fun i => decide (i < n) && s.2 i)
theorem over_fst (xs : List ItemP) (B : Fit) : ∀ j, j ≤ xs.length → ∀ i, (overF xs B j).1 i = if i ≤ j then overN xs B.1 i else B.1 i
  | 0, _, i => by
    show B.1 i = _
    split
    · obtain rfl : i = 0 := by omega
      rfl
    · rfl
  | j + 1, hj, i => by
    obtain ⟨x, hx⟩ : ∃ x, xs[j]? = some x := ⟨_, List.getElem?_eq_getElem (by omega)⟩
    have ih := over_fst xs B j (by omega)
    have e : overF xs B (j + 1) = if (overF xs B j).1 j = true ∧ x.2 ≠ 0 then setN (overF xs B j) (j + 1) true else overF xs B j := by
      rw [overF, hx]
    have en : overN xs B.1 (j + 1) = (B.1 (j + 1) || (overN xs B.1 j && decide (x.2 ≠ 0))) := by
      rw [overN, hx]
    rw [e]
    have ij := ih j
    rw [if_pos (Nat.le_refl j)] at ij
    by_cases hc : (overF xs B j).1 j = true ∧ x.2 ≠ 0
    · rw [if_pos hc]
      show (if i = j + 1 then true else (overF xs B j).1 i) = _
      by_cases hi : i = j + 1
      · subst hi
        rw [if_pos rfl, if_pos (Nat.le_refl _), en, ← ij, hc.1, decide_eq_true hc.2]
        simp
      · rw [if_neg hi, ih i]
        by_cases h2 : i ≤ j
        · rw [if_pos h2, if_pos (by omega)]
        · rw [if_neg h2, if_neg (by omega)]
    · rw [if_neg hc, ih i]
      by_cases h2 : i ≤ j
      · rw [if_pos h2, if_pos (by omega)]
      · rw [if_neg h2]
        by_cases hi : i = j + 1
        · subst hi
          rw [if_pos (Nat.le_refl _), en, ← ij]
          have : ((overF xs B j).1 j && decide (x.2 ≠ 0)) = false := by
            rw [Bool.eq_false_iff]
            intro h
            rw [Bool.and_eq_true, decide_eq_true_eq] at h
            exact hc h
          rw [this, Bool.or_false]
        · rw [if_neg (by omega)]
theorem over_snd (xs : List ItemP) (B : Fit) : ∀ j, (overF xs B j).2 = B.2
  | 0 => rfl
  | j + 1 => by
    rw [overF]
    split
    · exact over_snd xs B j
    · split
      · exact over_snd xs B j
      · exact over_snd xs B j
def ownS (xs : List ItemP) (c : Int) (N H : Nat → Bool) (i : Nat) : Bool := match xs[i]? with | some x => hasZ x.1 c && ((decide (x.2 = 1) && N i) || (decide (x.2 = 2) && H i)) | none => false
def preS (xs : List ItemP) (c : Int) (N : Nat → Bool) (i : Nat) : Bool := match i with | 0 => false | j + 1 => match xs[j]? with | some x => hasZ x.1 c && (decide (x.2 = 0) && N j) | none => false
theorem stepN_eq (xs : List ItemP) (c : Int) (N H : Nat → Bool) (i : Nat) : stepN xs c N H i = (ownS xs c N H i || preS xs c N i) := rfl
theorem take_fst {xs : List ItemP} (hw : howP xs) (c : Int) (A : Fit) : ∀ j, j ≤ xs.length → (∀ i, (takeF xs c A j).1 i = ((decide (i < j) && ownS xs c A.1 A.2 i) || (decide (i ≤ j) && preS xs c A.1 i))) ∧ (∀ i, (takeF xs c A j).2 i = (decide (i < j) && stepH xs c A.1 i))
  | 0, _ => by
    refine ⟨fun i => ?_, fun i => by simp [takeF, zeroF]⟩
    show false = _
    cases i with
    | zero => simp [preS]
    | succ i => simp
  | j + 1, hj => by
    obtain ⟨x, hx⟩ : ∃ x, xs[j]? = some x := ⟨_, List.getElem?_eq_getElem (by omega)⟩
    obtain ⟨ih1, ih2⟩ := take_fst hw c A j (by omega)
    have hwx := hw x (List.mem_of_getElem? hx)
    have e : takeF xs c A (j + 1) = if hasZ x.1 c = true then itemF x.2 A (takeF xs c A j) j else takeF xs c A j := by rw [takeF, hx]
    have eo : ownS xs c A.1 A.2 j = (hasZ x.1 c && ((decide (x.2 = 1) && A.1 j) || (decide (x.2 = 2) && A.2 j))) := by rw [ownS, hx]
    have ep : preS xs c A.1 (j + 1) = (hasZ x.1 c && (decide (x.2 = 0) && A.1 j)) := by show (match xs[j]? with | some x => hasZ x.1 c && (decide (x.2 = 0) && A.1 j) | none => false) = _; rw [hx]
    have eh : stepH xs c A.1 j = (hasZ x.1 c && (decide (x.2 = 2) && A.1 j)) := by rw [stepH, hx]
    have key1 : ∀ i, (takeF xs c A (j + 1)).1 i = ((takeF xs c A j).1 i || (decide (i = j) && ownS xs c A.1 A.2 j) || (decide (i = j + 1) && preS xs c A.1 (j + 1))) := by
      intro i
      rw [e, eo, ep]
      by_cases hh : hasZ x.1 c = true
      · rw [if_pos hh, hh]
        unfold itemF
        rcases hwx with h0 | h0 | h0
        · rw [if_pos h0, h0]
          unfold onceF
          by_cases ha : A.1 j = true
          · rw [if_pos ha, ha]
            show (if i = j + 1 then true else (takeF xs c A j).1 i) = _
            by_cases hi : i = j + 1 <;> simp [hi]
          · rw [if_neg ha]
            simp only [Bool.not_eq_true] at ha
            simp [ha]
        · rw [if_neg (by omega), if_pos h0, h0]
          unfold anyF
          by_cases ha : A.1 j = true
          · rw [if_pos ha, ha]
            show (if i = j then true else (takeF xs c A j).1 i) = _
            by_cases hi : i = j <;> simp [hi]
          · rw [if_neg ha]
            simp only [Bool.not_eq_true] at ha
            simp [ha]
        · rw [if_neg (by omega), if_neg (by omega), h0]
          have hfst : (halfF A (takeF xs c A j) j).1 = (takeF xs c A j).1 := by unfold halfF; split <;> rfl
          unfold pairsF
          by_cases ha : A.2 j = true
          · rw [if_pos ha, ha]
            show (if i = j then true else (halfF A (takeF xs c A j) j).1 i) = _
            rw [hfst]
            by_cases hi : i = j <;> simp [hi]
          · rw [if_neg ha, hfst]
            simp only [Bool.not_eq_true] at ha
            simp [ha]
      · rw [if_neg hh]
        simp only [Bool.not_eq_true] at hh
        simp [hh]
    have key2 : ∀ i, (takeF xs c A (j + 1)).2 i = ((takeF xs c A j).2 i || (decide (i = j) && stepH xs c A.1 j)) := by
      intro i
      rw [e, eh]
      by_cases hh : hasZ x.1 c = true
      · rw [if_pos hh, hh]
        unfold itemF
        rcases hwx with h0 | h0 | h0
        · rw [if_pos h0, h0]
          unfold onceF
          split <;> simp [setN]
        · rw [if_neg (by omega), if_pos h0, h0]
          unfold anyF
          split <;> simp [setN]
        · rw [if_neg (by omega), if_neg (by omega), h0]
          have hs : (pairsF A (takeF xs c A j) j).2 = (halfF A (takeF xs c A j) j).2 := by unfold pairsF; split <;> rfl
          rw [hs]
          unfold halfF
          by_cases ha : A.1 j = true
          · rw [if_pos ha, ha]
            show (if i = j then true else (takeF xs c A j).2 i) = _
            by_cases hi : i = j <;> simp [hi]
          · rw [if_neg ha]
            simp only [Bool.not_eq_true] at ha
            simp [ha]
      · rw [if_neg hh]
        simp only [Bool.not_eq_true] at hh
        simp [hh]
    refine ⟨fun i => ?_, fun i => ?_⟩
    · rw [key1, ih1]
      rcases Nat.lt_trichotomy i j with h | h | h
      · have a1 : decide (i < j) = true := decide_eq_true h
        have a2 : decide (i ≤ j) = true := decide_eq_true (by omega)
        have a3 : decide (i = j) = false := decide_eq_false (by omega)
        have a4 : decide (i = j + 1) = false := decide_eq_false (by omega)
        have a5 : decide (i < j + 1) = true := decide_eq_true (by omega)
        have a6 : decide (i ≤ j + 1) = true := decide_eq_true (by omega)
        rw [a1, a2, a3, a4, a5, a6]; simp
      · subst h
        have a1 : decide (i < i) = false := decide_eq_false (by omega)
        have a4 : decide (i = i + 1) = false := decide_eq_false (by omega)
        have a5 : decide (i < i + 1) = true := decide_eq_true (by omega)
        have a6 : decide (i ≤ i + 1) = true := decide_eq_true (by omega)
        rw [a1, a4, a5, a6]
        simp [Bool.or_comm]
      · by_cases h2 : i = j + 1
        · subst h2
          have a1 : decide (j + 1 < j) = false := decide_eq_false (by omega)
          have a2 : decide (j + 1 ≤ j) = false := decide_eq_false (by omega)
          have a3 : decide (j + 1 = j) = false := decide_eq_false (by omega)
          have a5 : decide (j + 1 < j + 1) = false := decide_eq_false (by omega)
          rw [a1, a2, a3, a5]; simp
        · have a1 : decide (i < j) = false := decide_eq_false (by omega)
          have a2 : decide (i ≤ j) = false := decide_eq_false (by omega)
          have a3 : decide (i = j) = false := decide_eq_false (by omega)
          have a4 : decide (i = j + 1) = false := decide_eq_false (by omega)
          have a5 : decide (i < j + 1) = false := decide_eq_false (by omega)
          have a6 : decide (i ≤ j + 1) = false := decide_eq_false (by omega)
          rw [a1, a2, a3, a4, a5, a6]; simp
    · rw [key2, ih2]
      by_cases h : i = j
      · subst h
        simp
      · by_cases h2 : i < j
        · have a1 : decide (i < j) = true := decide_eq_true h2
          have a5 : decide (i < j + 1) = true := decide_eq_true (by omega)
          have a3 : decide (i = j) = false := decide_eq_false h
          rw [a1, a3, a5]; simp
        · have a1 : decide (i < j) = false := decide_eq_false h2
          have a5 : decide (i < j + 1) = false := decide_eq_false (by omega)
          have a3 : decide (i = j) = false := decide_eq_false h
          rw [a1, a3, a5]; simp
theorem overN_congr (xs : List ItemP) {N N' : Nat → Bool} : ∀ i, (∀ k, k ≤ i → N k = N' k) → overN xs N i = overN xs N' i
  | 0, h => h 0 (Nat.le_refl _)
  | i + 1, h => by
    rw [overN, overN, h (i + 1) (Nat.le_refl _), overN_congr xs i fun k hk => h k (by omega)]
theorem cut_own (xs : List ItemP) (c : Int) (s : Fit) (i : Nat) : ownS xs c (cutF xs.length s).1 (cutF xs.length s).2 i = ownS xs c s.1 s.2 i := by
  unfold ownS
  cases hx : xs[i]? with
  | none => rfl
  | some x =>
    have hlt := (List.getElem?_eq_some_iff.1 hx).1
    simp [cutF, hlt, Nat.le_of_lt hlt]
theorem cut_pre (xs : List ItemP) (c : Int) (s : Fit) (i : Nat) : preS xs c (cutF xs.length s).1 i = preS xs c s.1 i := by
  cases i with
  | zero => rfl
  | succ j =>
    show (match xs[j]? with | some x => hasZ x.1 c && (decide (x.2 = 0) && (cutF xs.length s).1 j) | none => false) = (match xs[j]? with | some x => hasZ x.1 c && (decide (x.2 = 0) && s.1 j) | none => false)
    cases hx : xs[j]? with
    | none => rfl
    | some x =>
      have hlt := (List.getElem?_eq_some_iff.1 hx).1
      simp [cutF, Nat.le_of_lt hlt]
theorem cut_half (xs : List ItemP) (c : Int) (s : Fit) (i : Nat) : stepH xs c (cutF xs.length s).1 i = stepH xs c s.1 i := by
  unfold stepH
  cases hx : xs[i]? with
  | none => rfl
  | some x =>
    have hlt := (List.getElem?_eq_some_iff.1 hx).1
    simp [cutF, Nat.le_of_lt hlt]
theorem take_state {xs : List ItemP} (hw : howP xs) (c : Int) (s : Fit) : overF xs (takeF xs c (cutF xs.length s) xs.length) xs.length = cutF xs.length (overN xs (stepN xs c s.1 s.2), stepH xs c s.1) := by
  obtain ⟨h1, h2⟩ := take_fst hw c (cutF xs.length s) xs.length (Nat.le_refl _)
  have e : ∀ i, i ≤ xs.length → (takeF xs c (cutF xs.length s) xs.length).1 i = stepN xs c s.1 s.2 i := by
    intro i hi
    rw [h1, cut_own, cut_pre, stepN_eq, decide_eq_true hi, Bool.true_and]
    by_cases hlt : i < xs.length
    · rw [decide_eq_true hlt, Bool.true_and]
    · have : ownS xs c s.1 s.2 i = false := by unfold ownS; rw [List.getElem?_eq_none (by omega)]
      rw [this, Bool.and_false]
  apply Prod.ext
  · funext i
    rw [over_fst xs _ _ (Nat.le_refl _)]
    show _ = (decide (i ≤ xs.length) && overN xs (stepN xs c s.1 s.2) i)
    by_cases hi : i ≤ xs.length
    · rw [if_pos hi, decide_eq_true hi, Bool.true_and]
      exact overN_congr xs i fun k hk => e k (by omega)
    · rw [if_neg hi, decide_eq_false hi, Bool.false_and, h1, decide_eq_false hi, decide_eq_false (show ¬ i < xs.length by omega)]
      rfl
  · rw [over_snd]
    funext i
    rw [h2, cut_half]
    rfl
theorem begin_state (xs : List ItemP) : overF xs (setN zeroF 0 true) xs.length = cutF xs.length (overN xs (fun i => decide (i = 0)), fun _ => false) := by
  have e : (setN zeroF 0 true).1 = fun i => decide (i = 0) := by
    funext i
    show (if i = 0 then true else false) = _
    by_cases h : i = 0 <;> simp [h]
  apply Prod.ext
  · funext i
    rw [over_fst xs _ _ (Nat.le_refl _), e]
    show _ = (decide (i ≤ xs.length) && overN xs (fun i => decide (i = 0)) i)
    by_cases hi : i ≤ xs.length
    · rw [if_pos hi, decide_eq_true hi, Bool.true_and]
    · rw [if_neg hi, decide_eq_false hi, Bool.false_and]
      exact decide_eq_false (by omega)
  · rw [over_snd]
    funext i
    show false = (decide (i < xs.length) && false)
    rw [Bool.and_false]
def stF (xs : List ItemP) (l : List Int) (k : Nat) : Fit := cutF xs.length (stateP xs (l.take k))
theorem stF_zero (xs : List ItemP) (l : List Int) : stF xs l 0 = overF xs (setN zeroF 0 true) xs.length := by
  rw [begin_state]
  rfl
theorem stF_succ {xs : List ItemP} (hw : howP xs) {l : List Int} {k : Nat} {c : Int} (h : l[k]? = some c) : stF xs l (k + 1) = overF xs (takeF xs c (stF xs l k) xs.length) xs.length := by
  unfold stF
  rw [take_state hw, List.take_add_one, h]
  show cutF _ (stateP xs (l.take k ++ [c])) = _
  rw [stateP_snoc]
end Go.Proofs.YtgcapoejieolnaaGreatDoor
namespace Go.Proofs.YtgcapoejieolnaaGreatDoor
open Go.RowKit Go.Shelf Go.Maps
attribute [local go_sem] Oper.semAt_some

def fitC (A : Fit) : List Value := ((List.range 11).map fun i => .bool (A.1 i)) ++ ((List.range 10).map fun i => .bool (A.2 i))
def matL (lv : Value) (back : Bool) (iv : Value) (A B : Fit) (mp : Value) : List Value := [lv, .bool back, iv] ++ fitC A ++ fitC B ++ [mp]
def MatAt (w : World) (M : Nat) (lv : Value) (back : Bool) (iv : Value) (A B : Fit) (mp : Value) : Prop := w.heap[M]? = some (.cells (matL lv back iv A B mp).toArray 134 (0, 0))
theorem MatAt.keep {S : Nat → Prop} {w w' : World} {M : Nat} {lv iv mp : Value} {back : Bool} {A B : Fit} (h : MatAt w M lv back iv A B mp) (hm : Moves S w w') (hs : ¬ S M) : MatAt w' M lv back iv A B mp :=
  (hm.block _ (Array.getElem?_eq_some_iff.1 h).1 hs).trans h
theorem MatAt.below {w w' : World} {M : Nat} {lv iv mp : Value} {back : Bool} {A B : Fit} (h : MatAt w M lv back iv A B mp) (hb : Below w.heap.size w w') : MatAt w' M lv back iv A B mp :=
  (hb.block _ (Array.getElem?_eq_some_iff.1 h).1).trans h
theorem MatAt.lt {w : World} {M : Nat} {lv iv mp : Value} {back : Bool} {A B : Fit} (h : MatAt w M lv back iv A B mp) : M < w.heap.size := (Array.getElem?_eq_some_iff.1 h).1
section
variable {w : World} {M : Nat} {lv iv mp : Value} {back : Bool} {A B : Fit}
theorem MatAt.frozen (h : MatAt w M lv back iv A B mp) (k : Nat) : w.frozen? ⟨M, k, none⟩ = false := frozen_of_row _ _ _ _ _ h
theorem MatAt.head (h : MatAt w M lv back iv A B mp) : w.cell? ⟨M, 0, none⟩ = some lv ∧ w.cell? ⟨M, 1, none⟩ = some (.bool back) ∧ w.cell? ⟨M, 2, none⟩ = some iv ∧ w.cell? ⟨M, 45, none⟩ = some mp := by
  refine ⟨?_, ?_, ?_, ?_⟩
  · rw [cell_of_row _ _ 0 _ _ _ h]; rfl
  · rw [cell_of_row _ _ 1 _ _ _ h]; rfl
  · rw [cell_of_row _ _ 2 _ _ _ h]; rfl
  · rw [cell_of_row _ _ 45 _ _ _ h]; rfl
theorem MatAt.aheadN (h : MatAt w M lv back iv A B mp) {i : Nat} (hi : i ≤ 10) : w.cell? ⟨M, 3 + i, none⟩ = some (.bool (A.1 i)) := by
  rw [cell_of_row _ _ (3 + i) _ _ _ h]
  match i, hi with
  | 0, _ => rfl | 1, _ => rfl | 2, _ => rfl | 3, _ => rfl | 4, _ => rfl | 5, _ => rfl | 6, _ => rfl | 7, _ => rfl | 8, _ => rfl | 9, _ => rfl | 10, _ => rfl
  | n + 11, h => exact absurd h (by omega)
theorem MatAt.aheadH (h : MatAt w M lv back iv A B mp) {i : Nat} (hi : i < 10) : w.cell? ⟨M, 14 + i, none⟩ = some (.bool (A.2 i)) := by
  rw [cell_of_row _ _ (14 + i) _ _ _ h]
  match i, hi with
  | 0, _ => rfl | 1, _ => rfl | 2, _ => rfl | 3, _ => rfl | 4, _ => rfl | 5, _ => rfl | 6, _ => rfl | 7, _ => rfl | 8, _ => rfl | 9, _ => rfl
  | n + 10, h => exact absurd h (by omega)
theorem MatAt.behindN (h : MatAt w M lv back iv A B mp) {i : Nat} (hi : i ≤ 10) : w.cell? ⟨M, 24 + i, none⟩ = some (.bool (B.1 i)) := by
  rw [cell_of_row _ _ (24 + i) _ _ _ h]
  match i, hi with
  | 0, _ => rfl | 1, _ => rfl | 2, _ => rfl | 3, _ => rfl | 4, _ => rfl | 5, _ => rfl | 6, _ => rfl | 7, _ => rfl | 8, _ => rfl | 9, _ => rfl | 10, _ => rfl
  | n + 11, h => exact absurd h (by omega)
theorem MatAt.behindH (h : MatAt w M lv back iv A B mp) {i : Nat} (hi : i < 10) : w.cell? ⟨M, 35 + i, none⟩ = some (.bool (B.2 i)) := by
  rw [cell_of_row _ _ (35 + i) _ _ _ h]
  match i, hi with
  | 0, _ => rfl | 1, _ => rfl | 2, _ => rfl | 3, _ => rfl | 4, _ => rfl | 5, _ => rfl | 6, _ => rfl | 7, _ => rfl | 8, _ => rfl | 9, _ => rfl
  | n + 10, h => exact absurd h (by omega)
theorem MatAt.setN (h : MatAt w M lv back iv A B mp) {i : Nat} (hi : i ≤ 10) (v : Bool) : MatAt (w.setCell ⟨M, 24 + i, none⟩ (.bool v)) M lv back iv A (setN B i v) mp := by
  unfold MatAt at h ⊢
  rw [heap_setCell_same _ _ (24 + i) _ _ _ h]
  match i, hi with
  | 0, _ => rfl | 1, _ => rfl | 2, _ => rfl | 3, _ => rfl | 4, _ => rfl | 5, _ => rfl | 6, _ => rfl | 7, _ => rfl | 8, _ => rfl | 9, _ => rfl | 10, _ => rfl
  | n + 11, h => exact absurd h (by omega)
theorem MatAt.setH (h : MatAt w M lv back iv A B mp) {i : Nat} (hi : i < 10) (v : Bool) : MatAt (w.setCell ⟨M, 35 + i, none⟩ (.bool v)) M lv back iv A (setH B i v) mp := by
  unfold MatAt at h ⊢
  rw [heap_setCell_same _ _ (35 + i) _ _ _ h]
  match i, hi with
  | 0, _ => rfl | 1, _ => rfl | 2, _ => rfl | 3, _ => rfl | 4, _ => rfl | 5, _ => rfl | 6, _ => rfl | 7, _ => rfl | 8, _ => rfl | 9, _ => rfl
  | n + 10, h => exact absurd h (by omega)
end
abbrev mV (M : Nat) : Value := .pointer (some ⟨M, 0, none⟩)
def MatQ (w : World) (M : Nat) (lv : Value) (back : Bool) (iv : Value) (A B : Fit) (mp : Value) (e : Ending) (w' : World) : Prop := (∃ v, e = .returned v) ∧ MatAt w' M lv back iv A B mp ∧ Moves (fun k => k = M) w w'
set_option maxRecDepth 100000 in
set_option maxHeartbeats 1000000 in
theorem once_any (M : Nat) (lv iv mp : Value) (back : Bool) (A B : Fit) (i : Nat) (hi : i < 10) (w : World) (h : MatAt w M lv back iv A B mp) :
    Calls Tryz.prog 122 #[mV M, .int .i64 (i : Nat)] w (MatQ w M lv back iv A (onceF A B i) mp) := by
  have hl := h.lt
  have k0 := h.aheadN (i := i) (by omega)
  have k1 := h.behindN (i := i + 1) (by omega)
  have f1 := h.frozen (24 + (i + 1))
  have HS := Lib.hid (h.setN (i := i + 1) (by omega) true)
  have HH := Lib.hid h
  clear h
  unfold onceF
  cases ha : A.1 i with
  | true =>
    rw [ha] at k0
    rw [if_pos rfl]
    clear ha
    go_enter Tryz.func122, Tryz.ntmps122
    go_wp2
    go_end0
    exact ⟨⟨_, rfl⟩, HS.out, Moves.setCell rfl⟩
  | false =>
    rw [ha] at k0
    rw [if_neg (by decide)]
    clear ha
    go_enter Tryz.func122, Tryz.ntmps122
    go_wp2
    go_end0
    exact ⟨⟨_, rfl⟩, HH.out, Moves.refl _ _⟩
set_option maxRecDepth 100000 in
set_option maxHeartbeats 1000000 in
theorem any_any (M : Nat) (lv iv mp : Value) (back : Bool) (A B : Fit) (i : Nat) (hi : i < 10) (w : World) (h : MatAt w M lv back iv A B mp) :
    Calls Tryz.prog 123 #[mV M, .int .i64 (i : Nat)] w (MatQ w M lv back iv A (anyF A B i) mp) := by
  have hl := h.lt
  have k0 := h.aheadN (i := i) (by omega)
  have k1 := h.behindN (i := i) (by omega)
  have f1 := h.frozen (24 + i)
  have HS := Lib.hid (h.setN (i := i) (by omega) true)
  have HH := Lib.hid h
  clear h
  unfold anyF
  cases ha : A.1 i with
  | true =>
    rw [ha] at k0
    rw [if_pos rfl]
    clear ha
    go_enter Tryz.func123, Tryz.ntmps123
    go_wp2
    go_end0
    exact ⟨⟨_, rfl⟩, HS.out, Moves.setCell rfl⟩
  | false =>
    rw [ha] at k0
    rw [if_neg (by decide)]
    clear ha
    go_enter Tryz.func123, Tryz.ntmps123
    go_wp2
    go_end0
    exact ⟨⟨_, rfl⟩, HH.out, Moves.refl _ _⟩
set_option maxRecDepth 100000 in
set_option maxHeartbeats 2000000 in
theorem pairs_any (M : Nat) (lv iv mp : Value) (back : Bool) (A B : Fit) (i : Nat) (hi : i < 10) (w : World) (h : MatAt w M lv back iv A B mp) :
    Calls Tryz.prog 124 #[mV M, .int .i64 (i : Nat)] w (MatQ w M lv back iv A (pairsF A B i) mp) := by
  have hl := h.lt
  have k0 := h.aheadN (i := i) (by omega)
  have k1 := h.behindH (i := i) hi
  have f1 := h.frozen (35 + i)
  have k2 := h.aheadH (i := i) hi
  have k3 := h.behindN (i := i) (by omega)
  have f3 := h.frozen (24 + i)
  have hs := h.setH (i := i) hi true
  have j2 := hs.aheadH (i := i) hi
  have j3 := hs.behindN (i := i) (by omega)
  have g3 := hs.frozen (24 + i)
  have HS := Lib.hid hs
  have HSN := Lib.hid (h.setN (i := i) (by omega) true)
  have HSS := Lib.hid (hs.setN (i := i) (by omega) true)
  have HH := Lib.hid h
  clear h hs
  unfold pairsF halfF
  cases ha : A.1 i with
  | true =>
    rw [ha] at k0
    rw [if_pos (show true = true from rfl)]
    clear ha
    cases hb : A.2 i with
    | true =>
      rw [hb] at k2 j2
      rw [if_pos rfl]
      clear hb
      go_enter Tryz.func124, Tryz.ntmps124
      go_wp2
      go_end0
      exact ⟨⟨_, rfl⟩, HSS.out, (Moves.setCell (S := fun k => k = M) rfl).trans (Moves.setCell (S := fun k => k = M) rfl)⟩
    | false =>
      rw [hb] at k2 j2
      rw [if_neg (by decide)]
      clear hb
      go_enter Tryz.func124, Tryz.ntmps124
      go_wp2
      go_end0
      exact ⟨⟨_, rfl⟩, HS.out, Moves.setCell rfl⟩
  | false =>
    rw [ha] at k0
    rw [if_neg (show ¬ false = true by decide)]
    clear ha
    cases hb : A.2 i with
    | true =>
      rw [hb] at k2 j2
      rw [if_pos rfl]
      clear hb
      go_enter Tryz.func124, Tryz.ntmps124
      go_wp2
      go_end0
      exact ⟨⟨_, rfl⟩, HSN.out, Moves.setCell rfl⟩
    | false =>
      rw [hb] at k2 j2
      rw [if_neg (by decide)]
      clear hb
      go_enter Tryz.func124, Tryz.ntmps124
      go_wp2
      go_end0
      exact ⟨⟨_, rfl⟩, HH.out, Moves.refl _ _⟩
end Go.Proofs.YtgcapoejieolnaaGreatDoor
namespace Go.Proofs.YtgcapoejieolnaaGreatDoor
open Go.RowKit Go.Shelf Go.Maps
attribute [local go_sem] Oper.semAt_some

theorem overF_more {xs : List ItemP} {B : Fit} {j : Nat} {x : ItemP} (hx : xs[j]? = some x) : overF xs B (j + 1) = if (overF xs B j).1 j = true ∧ x.2 ≠ 0 then setN (overF xs B j) (j + 1) true else overF xs B j := by
  rw [overF, hx]
theorem moves_allocM {M : Nat} {w wr : World} (h : Moves (fun k => k = M) w wr) (ob : Obj) : Moves (fun k => k = M) w (wr.alloc ob) := h.trans (Moves.of_below ((Below.refl _ _).alloc (Nat.le_refl _) _))
set_option maxRecDepth 100000 in
set_option maxHeartbeats 2000000 in
theorem passOver_any (M : Nat) (lv mp : Value) (back : Bool) (o : Option Addr) (xs : List ItemP) (cap : Nat) (A B : Fit) (hn : xs.length ≤ 10) (w : World) (h : MatAt w M lv back (.slice o xs.length cap) A B mp) (hA : AtI w o xs) (hne : 0 < xs.length → ∀ k, inQ o k → k ≠ M) :
    Calls Tryz.prog 156 #[mV M] w (MatQ w M lv back (.slice o xs.length cap) A (overF xs B xs.length) mp) := by
  obtain ⟨n, hnn⟩ : ∃ n, xs.length = n := ⟨_, rfl⟩
  rw [hnn] at hn h ⊢
  have HN := Lib.hid hnn
  have HA := Lib.hid hA
  have HNE := Lib.hid hne
  have HH := Lib.hid h
  have c2 := h.head.2.2.1
  have hl := h.lt
  obtain ⟨P, hP⟩ : ∃ P, MatQ w M lv back (.slice o n cap) A (overF xs B n) mp = P := ⟨_, rfl⟩
  have HP := Lib.hid hP
  rw [hP]
  clear hnn hA hne h hP
  go_enter Tryz.func156, Tryz.ntmps156
  go_wp2_with fail
  go_loopg [9] n (fun k v wr => ∃ (j : Nat), v = .int .i64 (j : Nat) ∧ j ≤ n ∧ k = n - j ∧ Hid (MatAt wr M lv back (.slice o n cap) A (overF xs B j) mp) ∧ Hid (Moves (fun k => k = M) w wr))
  case atStart => exact ⟨0, rfl, Nat.zero_le _, rfl, HH, Lib.hid (Moves.refl _ _)⟩
  case round =>
    obtain ⟨j, rfl, hj, rfl, HM, HV⟩ := hrel
    clear c2 hl
    rcases Nat.lt_or_ge j n with hlt | hge
    · obtain ⟨x, hx⟩ : ∃ x, xs[j]? = some x := ⟨_, List.getElem?_eq_getElem (by rw [HN.out]; exact hlt)⟩
      have hpos : 0 < xs.length := by rw [HN.out]; omega
      obtain ⟨g, off, rfl, hc⟩ := (HA.out.moves HV.out fun h0 k hk => HNE.out h0 k hk) hpos
      obtain ⟨k0, k1⟩ := hc j x hx
      have hg := World.block_lt_of_cell? wr _ k0
      have hMl := HM.out.lt
      have b0 := HM.out.behindN (i := j) (by omega)
      have b1 := HM.out.behindN (i := j + 1) (by omega)
      have f1 := HM.out.frozen (24 + (j + 1))
      have HO := Lib.hid (overF_more (B := B) hx)
      have HW2 := Lib.hid (moves_allocM HV.out (itO x))
      have HM2 := Lib.hid (HM.out.below ((Below.refl _ _).alloc (Nat.le_refl _) (itO x)))
      have hj10 : j < 10 := by omega
      obtain ⟨a, hw⟩ := x
      simp only at k0 k1
      cases hb : (overF xs B j).1 j with
      | false =>
        rw [hb] at b0
        have e : overF xs B (j + 1) = overF xs B j := by rw [HO.out, if_neg (fun h => by rw [hb] at h; cases h.1)]
        have HE := Lib.hid e
        clear hb e hc hx hpos HO
        go_wp2
        go_roundg (n - (j + 1))
        case measure => omega
        case rel => exact ⟨j + 1, by simp, by omega, rfl, by rw [HE.out]; exact HM2, HW2⟩
      | true =>
        rw [hb] at b0
        by_cases h0 : hw = 0
        · subst h0
          have e : overF xs B (j + 1) = overF xs B j := by rw [HO.out, if_neg (fun h => h.2 rfl)]
          have HE := Lib.hid e
          clear hb e hc hx hpos HO
          go_wp2
          go_roundg (n - (j + 1))
          case measure => omega
          case rel => exact ⟨j + 1, by simp, by omega, rfl, by rw [HE.out]; exact HM2, HW2⟩
        · have e : overF xs B (j + 1) = setN (overF xs B j) (j + 1) true := by rw [HO.out, if_pos ⟨hb, h0⟩]
          have HE := Lib.hid e
          have HM3 := Lib.hid ((HM.out.setN (i := j + 1) (by omega) true).below ((Below.refl _ _).alloc (Nat.le_refl _) (itO (a, hw))))
          have HV3 := Lib.hid (moves_allocM (HV.out.trans (Moves.setCell (S := fun k => k = M) (a := ⟨M, 24 + (j + 1), none⟩) (v := .bool true) rfl)) (itO (a, hw)))
          clear hb e hc hx hpos HO
          go_wp2
          go_roundg (n - (j + 1))
          case measure => omega
          case rel => exact ⟨j + 1, by simp, by omega, rfl, by rw [HE.out]; exact HM3, HV3⟩
    · obtain rfl : j = n := by omega
      go_wp2
      go_end0
      rw [← HP.out]
      exact ⟨⟨_, rfl⟩, HM.out, HV.out⟩
end Go.Proofs.YtgcapoejieolnaaGreatDoor
namespace Go.Proofs.YtgcapoejieolnaaGreatDoor
open Go.RowKit Go.Shelf Go.Maps
attribute [local go_sem] Oper.semAt_some

def putMany (cs : Array Value) (o : Nat) : List Value → Array Value
  | [] => cs
  | v :: r => putMany (cs.setIfInBounds o v) (o + 1) r
theorem heap_setCells (b : Nat) (t : TypeId) : ∀ (vs : List Value) (o : Nat) (w : World) (cs : Array Value), w.heap[b]? = some (.cells cs t (0, 0)) → (w.setCells b o vs).heap[b]? = some (.cells (putMany cs o vs) t (0, 0))
  | [], _, _, _, h => h
  | v :: r, o, w, cs, h => by
    rw [World.setCells, putMany]
    exact heap_setCells b t r (o + 1) _ _ (heap_setCell_same _ _ o _ _ _ h)
theorem moves_setCells (b : Nat) : ∀ (vs : List Value) (o : Nat) (w : World), Moves (fun k => k = b) w (w.setCells b o vs)
  | [], _, w => Moves.refl _ w
  | v :: r, o, w => by
    rw [World.setCells]
    exact (Moves.setCell (S := fun k => k = b) rfl).trans (moves_setCells b r (o + 1) _)
section
variable {w : World} {M : Nat} {lv iv mp : Value} {back : Bool} {A B : Fit}
theorem MatAt.putAhead (h : MatAt w M lv back iv A B mp) (C : Fit) : MatAt (w.setCells M 3 (fitC C)) M lv back iv C B mp := by
  unfold MatAt at h ⊢
  rw [heap_setCells M _ _ _ _ _ h]
  kernel_rfl
theorem MatAt.putBehind (h : MatAt w M lv back iv A B mp) (C : Fit) : MatAt (w.setCells M 24 (fitC C)) M lv back iv A C mp := by
  unfold MatAt at h ⊢
  rw [heap_setCells M _ _ _ _ _ h]
  kernel_rfl
theorem cut_behind (lv iv mp : Value) (back : Bool) (A B : Fit) : ((matL lv back iv A B mp).toArray.extract 24 (24 + 21)).toList = fitC B := by kernel_rfl
theorem MatAt.rangeBehind (h : MatAt w M lv back iv A B mp) : w.rangeAt M 24 (fitC B) := by
  have := World.rangeAt_of_block (w := w) h 24 21
  rwa [cut_behind] at this
theorem MatAt.there (h : MatAt w M lv back iv A B mp) {o n : Nat} (hn : o + n ≤ 46) : w.there M o n := fun j hj => by
  refine ⟨?_, h.frozen _⟩
  rw [cell_of_row _ _ (o + j) _ _ _ h]
  have hs : (matL lv back iv A B mp).toArray.size = 46 := by kernel_rfl
  rw [Array.getElem?_eq_getElem (by rw [hs]; omega)]
  rfl
end
theorem fitC_one (A : Fit) : (fitC A).toArray.all (·.oneCell') = true := by kernel_rfl
theorem fitC_size (A : Fit) : (fitC A).toArray.size = 21 := by kernel_rfl
def stQ (a : Addr) (v : Value) : Sem Unit := storeVar 131 a v
theorem st_hideQ (a : Addr) (v : Value) : storeVar 131 a v = stQ a v := rfl
def ldQ (a : Addr) : Sem Value := loadVar 131 a
theorem ld_hideQ (a : Addr) : loadVar 131 a = ldQ a := rfl
attribute [local go_sem ↓] st_hideQ ld_hideQ
abbrev zeroA : Value := .agg #[.bool false, .bool false, .bool false, .bool false, .bool false, .bool false, .bool false, .bool false, .bool false, .bool false, .bool false, .bool false, .bool false, .bool false, .bool false, .bool false, .bool false, .bool false, .bool false, .bool false, .bool false]
theorem zeroA_eq : zeroA = .agg (fitC zeroF).toArray := by kernel_rfl
theorem infoFit : (Tryz.prog.info? 131).map (·.size) = some 21 := by kernel_rfl
theorem keyInt : Keyed Tryz.prog 3 := int_keyed Tryz.underlying3
def heldQ (v : Value) : Option (DataW Value × List MemPlace) := some (.held v, [])
abbrev fnV (f M : Nat) : Value := .func (.func f) #[mV M] #[]
def fitD (M : Nat) : DataW Value := (((DataW.map []).put (.int .i64 0) (.held (fnV 122 M))).put (.int .i64 1) (.held (fnV 123 M))).put (.int .i64 2) (.held (fnV 124 M))
def FitMap (w : World) (b M : Nat) : Prop := w.ownsMap Tryz.prog 3 heldQ b 3 (fitD M)
theorem FitMap.moves {w w' : World} {b M : Nat} {S : Nat → Prop} (h : FitMap w b M) (hm : Moves S w w') (hs : ¬ S b) : FitMap w' b M := by
  obtain ⟨es, clock, hb, F⟩ := h
  exact ⟨es, clock, (hm.block b (Array.getElem?_eq_some_iff.1 hb).1 hs).trans hb, F⟩
theorem wf3 {h : Int} (hh : h = 0 ∨ h = 1 ∨ h = 2) : (Lit.int .i64 h).wf = true := by rcases hh with rfl | rfl | rfl <;> decide
def howF (h : Int) : Nat := if h = 0 then 122 else if h = 1 then 123 else 124
theorem fitD_at (M : Nat) {h : Int} (hh : h = 0 ∨ h = 1 ∨ h = 2) (z : DataW Value) : (fitD M).atKey (.int .i64 h) z = .held (fnV (howF h) M) := by
  unfold fitD
  rcases hh with rfl | rfl | rfl
  · rw [atKey_put_other (by simp), atKey_put_other (by simp), atKey_put_same isMap_empty (show WideAt.IsKeyLit (.int .i64 0) from trivial)]
    rfl
  · rw [atKey_put_other (by simp), atKey_put_same (isMap_empty.put _ _) (show WideAt.IsKeyLit (.int .i64 1) from trivial)]
    rfl
  · rw [atKey_put_same ((isMap_empty.put _ _).put _ _) (show WideAt.IsKeyLit (.int .i64 2) from trivial)]
    rfl
theorem zeroFn (w : World) : (zeroValue 173).run Tryz.prog w = .ok .nilFunc w := by
  kernel_rfl
theorem fit_look {w : World} {b M : Nat} (hm : FitMap w b M) {h : Int} (hh : h = 0 ∨ h = 1 ∨ h = 2) : (Instr.lookup 132 (.map (some b)) (.int .i64 h) false).run Tryz.prog w = .ok (fnV (howF h) M) w := by
  obtain ⟨v, ps, hr, hv⟩ := World.ownsMap.lookup hm keyInt Tryz.underlying132 (zeroFn w) (show heldQ .nilFunc = _ from rfl) (keyOf_int_mk Tryz.underlying3 (wf3 hh))
  rw [fitD_at M hh] at hv
  generalize fnV (howF h) M = V at hv ⊢
  unfold heldQ at hv
  simp only [Option.some.injEq, Prod.mk.injEq, DataW.held.injEq] at hv
  rw [hr, hv.1]
set_option maxRecDepth 100000 in
set_option maxHeartbeats 2000000 in
theorem begin_any (M : Nat) (lv mp : Value) (back : Bool) (o : Option Addr) (xs : List ItemP) (cap : Nat) (A B : Fit) (hn : xs.length ≤ 10) (w : World) (h : MatAt w M lv back (.slice o xs.length cap) A B mp) (hA : AtI w o xs) (hne : 0 < xs.length → ∀ k, inQ o k → k ≠ M) :
    Calls Tryz.prog 126 #[mV M] w (MatQ w M lv back (.slice o xs.length cap) A (stF xs [] 0) mp) := by
  have e0 := stF_zero xs []
  obtain ⟨wa, hwa⟩ : ∃ wa, w.setCells M 24 (fitC zeroF) = wa := ⟨_, rfl⟩
  have hst : (stQ ⟨M, 24, none⟩ (.agg #[.bool false, .bool false, .bool false, .bool false, .bool false, .bool false, .bool false, .bool false, .bool false, .bool false, .bool false, .bool false, .bool false, .bool false, .bool false, .bool false, .bool false, .bool false, .bool false, .bool false, .bool false])).run Tryz.prog w = .ok () wa := by
    rw [← hwa]
    show (storeVar 131 ⟨M, 24, none⟩ zeroA).run Tryz.prog w = _
    rw [zeroA_eq]
    have := run_storeVar_mid (P := Tryz.prog) w M 24 131 (fitC zeroF).toArray (h.there (by decide)) infoFit (fitC_one _)
    rw [this]
  have ha : MatAt wa M lv back (.slice o xs.length cap) A zeroF mp := by rw [← hwa]; exact h.putBehind zeroF
  have ma : Moves (fun k => k = M) w wa := by rw [← hwa]; exact moves_setCells _ _ _ _
  have la := ha.lt
  have c0 := ha.behindN (i := 0) (by omega)
  have f0 := ha.frozen 24
  have hb := ha.setN (i := 0) (by omega) true
  have mb : Moves (fun k => k = M) w (wa.setCell ⟨M, 24 + 0, none⟩ (.bool true)) := ma.trans (Moves.setCell rfl)
  have HP := passOver_any M lv mp back o xs cap A (setN zeroF 0 true) hn _ hb (hA.moves mb fun h0 k hk => hne h0 k hk) hne
  rw [← e0] at HP
  have HPP := Lib.hid HP
  have HMB := Lib.hid mb
  clear HP hb ha ma mb hwa e0 hne hA h
  go_enter Tryz.func126, Tryz.ntmps126
  go_wp2_with fail
  refine HPP.out.mono ?_
  rintro e w2 ⟨⟨v, rfl⟩, h2, m2⟩
  have HQ := Lib.hid (show MatQ w M lv back (.slice o xs.length cap) A (stF xs [] 0) mp (.returned v) w2 from ⟨⟨_, rfl⟩, h2, HMB.out.trans m2⟩)
  clear h2 m2
  go_wp2
  go_end0
  exact ⟨⟨_, rfl⟩, HQ.out.2⟩
theorem takeF_more {xs : List ItemP} {c : Int} {A : Fit} {j : Nat} {x : ItemP} (hx : xs[j]? = some x) : takeF xs c A (j + 1) = if hasZ x.1 c = true then itemF x.2 A (takeF xs c A j) j else takeF xs c A j := by
  rw [takeF, hx]
set_option maxRecDepth 100000 in
set_option maxHeartbeats 4000000 in
theorem take_any (M b : Nat) (lv : Value) (back : Bool) (o : Option Addr) (xs : List ItemP) (cap : Nat) (A B : Fit) (c : Int) (hn : xs.length ≤ 10) (hw : howP xs) (w : World) (h : MatAt w M lv back (.slice o xs.length cap) A B (.map (some b))) (hA : AtI w o xs) (hne : 0 < xs.length → ∀ k, inQ o k → k ≠ M) (hF : FitMap w b M) (hbM : b ≠ M) :
    Calls Tryz.prog 128 #[mV M, .int .i64 c] w (MatQ w M lv back (.slice o xs.length cap) B (overF xs (takeF xs c B xs.length) xs.length) (.map (some b))) := by
  obtain ⟨V, hV⟩ : ∃ V, Value.agg (fitC B).toArray = V := ⟨_, rfl⟩
  obtain ⟨wa, hwa⟩ : ∃ wa, w.setCells M 3 (fitC B) = wa := ⟨_, rfl⟩
  have ha : MatAt wa M lv back (.slice o xs.length cap) B B (.map (some b)) := by rw [← hwa]; exact h.putAhead B
  have ma : Moves (fun k => k = M) w wa := by rw [← hwa]; exact moves_setCells _ _ _ _
  obtain ⟨wb, hwb⟩ : ∃ wb, wa.setCells M 24 (fitC zeroF) = wb := ⟨_, rfl⟩
  have hb : MatAt wb M lv back (.slice o xs.length cap) B zeroF (.map (some b)) := by rw [← hwb]; exact ha.putBehind zeroF
  have mb : Moves (fun k => k = M) w wb := by rw [← hwb]; exact ma.trans (moves_setCells _ _ _ _)
  have hld : (ldQ ⟨M, 24, none⟩).run Tryz.prog w = .ok V w := by
    rw [← hV]
    exact run_loadVar_mid w M 24 131 (fitC B) _ h.rangeBehind Tryz.underlying131 rfl (by rw [infoFit]; kernel_rfl)
  have hst1 : (stQ ⟨M, 3, none⟩ V).run Tryz.prog w = .ok () wa := by
    rw [← hwa, ← hV]
    have := run_storeVar_mid (P := Tryz.prog) w M 3 131 (fitC B).toArray (h.there (by rw [fitC_size]; decide)) (by rw [infoFit]; kernel_rfl) (fitC_one _)
    exact this
  have hst2 : (stQ ⟨M, 24, none⟩ (.agg #[.bool false, .bool false, .bool false, .bool false, .bool false, .bool false, .bool false, .bool false, .bool false, .bool false, .bool false, .bool false, .bool false, .bool false, .bool false, .bool false, .bool false, .bool false, .bool false, .bool false, .bool false])).run Tryz.prog wa = .ok () wb := by
    rw [← hwb]
    show (storeVar 131 ⟨M, 24, none⟩ zeroA).run Tryz.prog wa = _
    rw [zeroA_eq]
    have := run_storeVar_mid (P := Tryz.prog) wa M 24 131 (fitC zeroF).toArray (ha.there (by decide)) infoFit (fitC_one _)
    rw [this]
  obtain ⟨n, hnn⟩ : ∃ n, xs.length = n := ⟨_, rfl⟩
  rw [hnn] at hn hb ⊢
  have HN := Lib.hid hnn
  have HA := Lib.hid (hA.moves mb fun h0 k hk => hne h0 k hk)
  have HNE := Lib.hid hne
  have HH := Lib.hid hb
  have HF := Lib.hid (hF.moves mb hbM)
  have HMB := Lib.hid (show ¬ b = M from hbM)
  have HW := Lib.hid hw
  have HMV := Lib.hid mb
  have c2 := hb.head.2.2.1
  have hl := hb.lt
  have HK := Lib.hid (fun s W => Has_anyK s c W)
  obtain ⟨P, hP⟩ : ∃ P, MatQ w M lv back (.slice o n cap) B (overF xs (takeF xs c B n) n) (.map (some b)) = P := ⟨_, rfl⟩
  have HP := Lib.hid hP
  rw [hP]
  clear hnn hA hne h ha hb ma mb hP hwa hwb hV hF hbM hw
  go_enter Tryz.func128, Tryz.ntmps128
  go_wp2_with fail
  go_loopg [22] n (fun k v wr => ∃ (j : Nat), v = .int .i64 (j : Nat) ∧ j ≤ n ∧ k = n - j ∧ Hid (MatAt wr M lv back (.slice o n cap) B (takeF xs c B j) (.map (some b))) ∧ Hid (FitMap wr b M) ∧ Hid (Moves (fun k => k = M) wb wr))
  case atStart => exact ⟨0, rfl, Nat.zero_le _, rfl, HH, HF, Lib.hid (Moves.refl _ _)⟩
  case round =>
    obtain ⟨j, rfl, hj, rfl, HM, HB, HV⟩ := hrel
    clear c2 hl hld hst1 hst2
    rcases Nat.lt_or_ge j n with hlt | hge
    · obtain ⟨x, hx⟩ : ∃ x, xs[j]? = some x := ⟨_, List.getElem?_eq_getElem (by rw [HN.out]; exact hlt)⟩
      have hpos : 0 < xs.length := by rw [HN.out]; omega
      obtain ⟨g, off, rfl, hc⟩ := (HA.out.moves HV.out fun h0 k hk => HNE.out h0 k hk) hpos
      obtain ⟨k0, k1⟩ := hc j x hx
      have hg := World.block_lt_of_cell? wr _ k0
      have hwx := HW.out x (List.mem_of_getElem? hx)
      have hj10 : j < 10 := by omega
      have HT := Lib.hid (takeF_more (c := c) (A := B) hx)
      obtain ⟨s, hw⟩ := x
      simp only at k0 k1 hwx HT
      have hbb : Below wr.heap.size wr (wr.alloc (itO (s, hw))) := (Below.refl _ _).alloc (Nat.le_refl _) _
      have HM1 := Lib.hid (HM.out.below hbb)
      have HB1 := Lib.hid (HB.out.moves (Moves.of_below (S := fun _ => False) hbb) id)
      have HV1 := Lib.hid (moves_allocM HV.out (itO (s, hw)))
      have R1 := Lib.hid (heap_alloc_new wr (itO (s, hw)))
      clear hc hx hpos hbb
      go_wp2_with fail
      refine (HK.out s _).mono ?_
      rintro e w2 ⟨rfl, b2⟩
      have hM2 := HM1.out.below b2
      have HM2 := Lib.hid hM2
      have HB2 := Lib.hid (HB1.out.moves (Moves.of_below (S := fun _ => False) b2) id)
      have HV2 := Lib.hid (HV1.out.trans (Moves.of_below b2))
      have r2 := row_below R1.out b2
      obtain ⟨q0, q1⟩ := row_cells r2
      have m45 := hM2.head.2.2.2
      have hlk := fit_look HB2.out hwx
      have hlk2 : (Instr.lookup 132 (.map (some b)) (.int .i64 hw) false).run Tryz.prog w2.drew = .ok (fnV (howF hw) M) w2.drew := fit_look (w := w2.drew) HB2.out hwx
      clear hM2 r2 b2 k0 k1
      cases hh : hasZ s c with
      | false =>
        have HE : Hid (takeF xs c B (j + 1) = takeF xs c B j) := Lib.hid (by rw [HT.out, hh]; rfl)
        clear hh HT hlk hlk2
        go_wp2
        go_roundg (n - (j + 1))
        case measure => omega
        case rel => exact ⟨j + 1, by simp, by omega, rfl, by rw [HE.out]; exact HM2, HB2, HV2⟩
      | true =>
        rw [hh] at HT
        clear hh
        rcases hwx with rfl | rfl | rfl
        · have HF := Lib.hid (once_any M lv (.slice (some ⟨g, off, none⟩) n cap) (.map (some b)) back B (takeF xs c B j) j hj10 w2.drew HM2.out)
          have HE : Hid (takeF xs c B (j + 1) = onceF B (takeF xs c B j) j) := Lib.hid (by rw [HT.out]; rfl)
          clear HT
          replace hlk2 : (Instr.lookup 132 (.map (some b)) (.int .i64 0) false).run Tryz.prog w2.drew = .ok (fnV 122 M) w2.drew := hlk2
          clear hlk
          go_wp2_with fail
          go_region_with (go_at_call 122; refine HF.out.mono ?_; rintro e w3 ⟨⟨v, rfl⟩, h3, m3⟩)
          all_goals
            have HM3 := Lib.hid h3
            have HV3 := Lib.hid (HV2.out.drew.trans m3)
            have HB3 := Lib.hid (FitMap.moves (w := w2.drew) HB2.out (S := fun k => k = M) m3 HMB.out)
            clear h3 m3
            go_simp
            go_wp2
            go_roundg (n - (j + 1))
            case measure => omega
            case rel => exact ⟨j + 1, by simp, by omega, rfl, by rw [HE.out]; exact HM3, HB3, HV3⟩
        · have HF := Lib.hid (any_any M lv (.slice (some ⟨g, off, none⟩) n cap) (.map (some b)) back B (takeF xs c B j) j hj10 w2.drew HM2.out)
          have HE : Hid (takeF xs c B (j + 1) = anyF B (takeF xs c B j) j) := Lib.hid (by rw [HT.out]; rfl)
          clear HT
          replace hlk2 : (Instr.lookup 132 (.map (some b)) (.int .i64 1) false).run Tryz.prog w2.drew = .ok (fnV 123 M) w2.drew := hlk2
          clear hlk
          go_wp2_with fail
          go_region_with (go_at_call 123; refine HF.out.mono ?_; rintro e w3 ⟨⟨v, rfl⟩, h3, m3⟩)
          all_goals
            have HM3 := Lib.hid h3
            have HV3 := Lib.hid (HV2.out.drew.trans m3)
            have HB3 := Lib.hid (FitMap.moves (w := w2.drew) HB2.out (S := fun k => k = M) m3 HMB.out)
            clear h3 m3
            go_simp
            go_wp2
            go_roundg (n - (j + 1))
            case measure => omega
            case rel => exact ⟨j + 1, by simp, by omega, rfl, by rw [HE.out]; exact HM3, HB3, HV3⟩
        · have HF := Lib.hid (pairs_any M lv (.slice (some ⟨g, off, none⟩) n cap) (.map (some b)) back B (takeF xs c B j) j hj10 w2.drew HM2.out)
          have HE : Hid (takeF xs c B (j + 1) = pairsF B (takeF xs c B j) j) := Lib.hid (by rw [HT.out]; rfl)
          clear HT
          replace hlk2 : (Instr.lookup 132 (.map (some b)) (.int .i64 2) false).run Tryz.prog w2.drew = .ok (fnV 124 M) w2.drew := hlk2
          clear hlk
          go_wp2_with fail
          go_region_with (go_at_call 124; refine HF.out.mono ?_; rintro e w3 ⟨⟨v, rfl⟩, h3, m3⟩)
          all_goals
            have HM3 := Lib.hid h3
            have HV3 := Lib.hid (HV2.out.drew.trans m3)
            have HB3 := Lib.hid (FitMap.moves (w := w2.drew) HB2.out (S := fun k => k = M) m3 HMB.out)
            clear h3 m3
            go_simp
            go_wp2
            go_roundg (n - (j + 1))
            case measure => omega
            case rel => exact ⟨j + 1, by simp, by omega, rfl, by rw [HE.out]; exact HM3, HB3, HV3⟩
    · obtain rfl : j = n := by omega
      have HPO := Lib.hid (passOver_any M lv (.map (some b)) back o xs cap B (takeF xs c B j) (by rw [HN.out]; exact hn) wr (by rw [HN.out]; exact HM.out) (HA.out.moves HV.out fun h0 k hk => HNE.out h0 k hk) HNE.out)
      rw [HN.out] at HPO
      go_wp2_with fail
      refine HPO.out.mono ?_
      rintro e w2 ⟨⟨v, rfl⟩, h2, m2⟩
      have HQ : Hid (P (.returned v) w2) := by
        rw [← HP.out]
        exact Lib.hid ⟨⟨_, rfl⟩, h2, (HMV.out.trans HV.out).trans m2⟩
      clear h2 m2
      go_wp2
      go_end0
      rw [← HP.out]
      have h := HQ.out
      rw [← HP.out] at h
      exact ⟨⟨_, rfl⟩, h.2⟩
end Go.Proofs.YtgcapoejieolnaaGreatDoor
namespace Go.Proofs.YtgcapoejieolnaaGreatDoor
open Go.RowKit Go.Shelf Go.Maps
attribute [local go_sem] Oper.semAt_some

def listN (back : Bool) (l : List Int) : List Int := if back then l.reverse else l
abbrev encZ (c : Int) : Array Value := #[.int .i64 c]
theorem listN_length (back : Bool) (l : List Int) : (listN back l).length = l.length := by unfold listN; cases back <;> simp
theorem listN_at {back : Bool} {l : List Int} {j : Nat} {c : Int} (h : (listN back l)[j]? = some c) : l[if back then l.length - 1 - j else j]? = some c := by
  unfold listN at h
  cases back with
  | false => exact h
  | true =>
    have hlt := (List.getElem?_eq_some_iff.1 h).1
    simp only [if_true, List.length_reverse] at h hlt
    rw [List.getElem?_reverse hlt] at h
    exact h
theorem numsEach_any (v : Value) (back : Bool) (w : World) : Calls Tryz.prog 127 #[.agg #[v, .bool back]] w fun e w' => e = .returned (.func (.func 157) #[] #[.pointer (some ⟨w.heap.size, 0, none⟩)]) ∧ w.alloc (.cells #[v, .bool back] 127) = w' := by
  go_enter Tryz.func127, Tryz.ntmps127
  go_wp2
  go_ret
  exact ⟨rfl, rfl⟩
theorem numsSize_any (o : Option Addr) (n cap : Nat) (b : Value) (w : World) : Calls Tryz.prog 93 #[.agg #[.slice o n cap, b]] w fun e w' => e = .returned (.int .i64 (n : Nat)) ∧ w.alloc (.cells #[.slice o n cap, b] 127) = w' := by
  go_enter Tryz.func93, Tryz.ntmps93
  go_wp2
  go_ret
  exact ⟨rfl, rfl⟩
abbrev DepN (cb : Nat) (o : Option Addr) (l : List Int) (k : Nat) : Prop := k = cb ∨ (0 < l.length ∧ inQ o k)
set_option maxRecDepth 100000 in
set_option maxHeartbeats 2000000 in
theorem seqNums {cb cap : Nat} {o : Option Addr} {back : Bool} {l : List Int} {w : World} (hn : l.length ≤ 1000000) (hc : w.heap[cb]? = some (.cells #[.slice o l.length cap, .bool back] 127 (0, 0))) (hA : NumsAt w o l) :
    SeqOfX Tryz.prog 4 157 #[.pointer (some ⟨cb, 0, none⟩)] encZ (fun _ => False) (DepN cb o l) (listN back l) w := by
  intro W lp J Jx hm hJ hJx hY h0
  have h1 : 1 ≤ 4 := by omega
  have B0 := row_keep hc hm id
  have A0 : NumsAt W o l := hA.moves hm fun _ _ _ => id
  have hll := listN_length back l
  obtain ⟨n, hnn⟩ : ∃ n, l.length = n := ⟨_, rfl⟩
  rw [hnn] at B0 hn hll
  obtain ⟨T, hT⟩ : ∃ T, listN back l = T := ⟨_, rfl⟩
  rw [hT] at hY hll ⊢
  refine callsIn_of_wp Tryz.func157 rfl trivial ?_ rfl
  simp only [Tryz.ntmps157, List.size_toArray, List.length_cons, List.length_nil, Nat.reduceAdd, Nat.reduceSub, Array.replicate_succ, Array.replicate_zero, List.push_toArray, List.append_toArray, List.nil_append, List.cons_append]
  have HJ := Lib.hid hJ
  have HY := Lib.hid hY
  have HN := Lib.hid hnn
  have HT := Lib.hid hT
  have HLL := Lib.hid hll
  have HA := Lib.hid A0
  have HB := Lib.hid B0
  obtain ⟨c0, _⟩ := row_cells B0
  clear hJ hJx hY hm hnn hA A0 hc hT hll B0
  gi_wp2
  gi_loopg [7] n (fun k v wr => ∃ (j : Nat), v = .int .i64 (j : Nat) ∧ j ≤ n ∧ k = n - j ∧ Hid (NumsAt wr o l) ∧ Hid (wr.heap[cb]? = some (.cells #[.slice o n cap, .bool back] 127 (0, 0))) ∧ J (fun _ => False) (T.take j) wr)
  case atStart => exact ⟨0, rfl, Nat.zero_le _, rfl, HA, HB, by simpa using h0⟩
  case round =>
    clear c0
    obtain ⟨j, rfl, hj, rfl, ha, hcb, hJ'⟩ := hrel
    rcases Nat.lt_or_ge j n with hlt | hge
    · obtain ⟨x, hx⟩ : ∃ x, T[j]? = some x := ⟨_, List.getElem?_eq_getElem (by rw [HLL.out]; exact hlt)⟩
      obtain ⟨g, off, rfl, hc⟩ := ha.out (by rw [HN.out]; omega)
      have k0 := hc _ x (listN_at (by rw [HT.out]; exact hx))
      have hg := World.block_lt_of_cell? wr _ k0
      obtain ⟨q0, q1⟩ := row_cells hcb.out
      have HX := Lib.hid hx
      have hpx : T.take j ++ [x] <+: T := by rw [show T.take j ++ [x] = T.take (j + 1) from by rw [List.take_add_one, hx]; rfl]; exact List.take_prefix _ _
      have HPX := Lib.hid hpx
      obtain ⟨fn, tmps, assign, body, hy, hR⟩ := HY.out _ _ _ _ hpx hJ'
      replace hy : (Instr.yield lp #[.int .i64 x]).run Tryz.prog wr = .ok (.round lp fn tmps assign body) wr := hy
      have HRR := Lib.hid hR
      have HKK : Hid (∀ w3, Moves (fun k => ¬ False ∧ ¬ DepN cb (some ⟨g, off, none⟩) l k) wr w3 → Hid (NumsAt w3 (some ⟨g, off, none⟩) l) ∧ Hid (w3.heap[cb]? = some (.cells #[.slice (some ⟨g, off, none⟩) n cap, .bool back] 127 (0, 0)))) := Lib.hid fun w3 h3 =>
        ⟨Lib.hid (ha.out.moves h3 (fun h0 k h h2 => h2.2 (.inr ⟨h0, h⟩))), Lib.hid (row_keep hcb.out h3 (fun h => h.2 (.inl rfl)))⟩
      clear hc hx hpx hR
      cases back with
      | false =>
        simp only [if_false, Bool.false_eq_true] at k0
        gi_wp2
        refine HRR.out.mono ?_
        rintro e w3 (⟨rfl, hJ4, hk4⟩ | ⟨rfl, hJx4, _⟩)
        · obtain ⟨z1, z2⟩ := HKK.out w3 hk4
          clear hk4
          gi_wp2
          gi_roundg (n - (j + 1))
          case measure => omega
          case rel => exact ⟨j + 1, by simp, by omega, rfl, z1, z2, by rw [List.take_add_one, HX.out]; exact hJ4⟩
        · gi_wp2
          refine bodyPost_ret (results_none rfl _ _ _) rfl ?_
          exact ⟨⟨_, rfl⟩, _, .inr ⟨_, HPX.out, hJx4⟩⟩
      | true =>
        simp only [if_true, HN.out] at k0
        obtain ⟨m, hm⟩ : ∃ m, n - 1 - j = m := ⟨_, rfl⟩
        rw [hm] at k0
        have w1 : IntKind.i64.wrap (((n : Nat) : Int) - 1) = ((m + j : Nat) : Int) := by rw [show ((n : Nat) : Int) - 1 = ((m + j : Nat) : Int) from by omega]; exact wrap_id (by omega) (by omega)
        have w2 : IntKind.i64.wrap (((m + j : Nat) : Int) - ((j : Nat) : Int)) = ((m : Nat) : Int) := by rw [show ((m + j : Nat) : Int) - ((j : Nat) : Int) = ((m : Nat) : Int) from by omega]; exact wrap_id (by omega) (by omega)
        have hmn : m < n := by omega
        clear hm
        gi_wp2
        refine HRR.out.mono ?_
        rintro e w3 (⟨rfl, hJ4, hk4⟩ | ⟨rfl, hJx4, _⟩)
        · obtain ⟨z1, z2⟩ := HKK.out w3 hk4
          clear hk4
          gi_wp2
          gi_roundg (n - (j + 1))
          case measure => omega
          case rel => exact ⟨j + 1, by simp, by omega, rfl, z1, z2, by rw [List.take_add_one, HX.out]; exact hJ4⟩
        · gi_wp2
          refine bodyPost_ret (results_none rfl _ _ _) rfl ?_
          exact ⟨⟨_, rfl⟩, _, .inr ⟨_, HPX.out, hJx4⟩⟩
    · obtain rfl : j = n := by omega
      have hall : T.take j = T := List.take_of_length_le (by rw [HLL.out]; exact Nat.le_refl _)
      gi_wp2
      go_end0
      exact ⟨⟨_, rfl⟩, _, .inl (by rw [hall] at hJ'; exact hJ')⟩
end Go.Proofs.YtgcapoejieolnaaGreatDoor
