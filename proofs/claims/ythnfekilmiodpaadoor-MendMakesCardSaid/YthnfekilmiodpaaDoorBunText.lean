/- Text. few, Ints. ScalarWhole: plain. -/
import Derived.Test.YthnfekilmiodpaaDoorBunShown
import Derived.Test.YthnfekilmiodpaaDoorBunScalars
import Derived.Deep.LoopGhost
import Derived.Test.YthnfekilmiodpaaDoorBunSeq
namespace Go.Proofs.YthnfekilmiodpaaDoor
open Go.RowKit

/-- v is a slice of just the numbers xs. -/
def IsInts (w : World) (v : Value) (xs : List Int) : Prop :=
  (v = .slice none 0 0 ∧ xs = []) ∨ ∃ a cap, v = .slice (some a) xs.length cap ∧ ∀ i, i < xs.length → w.cell? (a.add i) = some (.int .i64 (xs.getD i 0))
theorem IsInts.below {w w' : World} {v : Value} {xs : List Int} (h : IsInts w v xs) (hb : Below w.heap.size w w') : IsInts w' v xs := by
  rcases h with h | ⟨a, cap, hv, hc⟩
  · exact .inl h
  · refine .inr ⟨a, cap, hv, fun i hi => ?_⟩
    have h1 := hc i hi
    exact (hb.cell (World.block_lt_of_cell? w _ h1)).trans h1

/-- The bytes of numbers, if all are scalars. -/
def goodL (xs : List Int) : Bool := xs.all fun r => decide (rowR r < 9)
def bytesL (xs : List Int) : List UInt8 := xs.flatMap fun r => encB r.toNat
def textV (xs : List Int) : Value := if goodL xs then .tuple #[.string ⟨(bytesL xs).toArray⟩, .int .i64 0] else .tuple #[.string ⟨#[]⟩, .int .i64 10]
theorem bytesL_snoc (xs : List Int) (r : Int) : bytesL (xs ++ [r]) = bytesL xs ++ encB r.toNat := by simp [bytesL]
theorem bytesL_length (xs : List Int) : (bytesL xs).length ≤ 4 * xs.length := by
  induction xs with
  | nil => simp [bytesL]
  | cons r xs ih =>
    have := encB_length r.toNat
    simp only [bytesL, List.flatMap_cons, List.length_append, List.length_cons] at *
    omega

theorem take_snoc {xs : List Int} {j : Nat} (h : j < xs.length) : xs.take (j + 1) = xs.take j ++ [xs[j]] := by
  rw [List.take_add_one, List.getElem?_eq_getElem h]; rfl
theorem below_grown {w wr w1 : World} {e : TypeId} {size : Nat} {v : Value} {n : Nat} {xs : List Value} (hb : Below w.heap.size w wr) (ho : wr.ownsRow w.heap.size e size v n xs) (hg : wr.grownBy w1 v.ownBlock) : Below w.heap.size w w1 := by
  refine hb.grown hg hb.size fun k e => ?_
  rcases ho.2 with ⟨rfl, _⟩ | ⟨g, cap, cur, rfl, hb', _⟩
  · simp [Value.ownBlock] at e
  · obtain rfl : g = k := by simpa [Value.ownBlock] using e
    exact hb'
end Go.Proofs.YthnfekilmiodpaaDoor

namespace Go.Proofs.YthnfekilmiodpaaDoor
open Go.RowKit

set_option maxRecDepth 100000 in
set_option maxHeartbeats 1000000 in
theorem ints_some (xs : List Int) (hl : xs.length ≤ 1000000) (a b : Addr) (ca cb : Nat) (w : World) (ha : ∀ i, i < xs.length → w.cell? (a.add i) = some (.int .i64 (xs.getD i 0))) (hb : ∀ i, i < xs.length → w.cell? (b.add i) = some (.int .i64 (xs.getD i 0))) :
    Calls Tryd.prog 12 #[.slice (some a) xs.length ca, .slice (some b) xs.length cb] w fun e w' => e = .returned (.bool true) ∧ Below w.heap.size w w' := by
  have HA := Lib.hid ha
  have HB := Lib.hid hb
  clear ha hb
  go_enter Tryd.func12, Tryd.ntmps12
  go_wp2_with fail
  go_loopg [5] (xs.length) (fun k i wr => ∃ (j : Nat), i = .int .i64 (j : Nat) ∧ j ≤ xs.length ∧ k = xs.length - j ∧ Below w.heap.size w wr)
  case atStart => exact ⟨0, rfl, Nat.zero_le _, rfl, Below.refl _ _⟩
  case round =>
    obtain ⟨j, rfl, hj, rfl, hb⟩ := hrel
    rcases Nat.lt_or_ge j xs.length with hlt | hge
    · have ca' := (hb.cell (World.block_lt_of_cell? w _ (HA.out j hlt))).trans (HA.out j hlt)
      have cb' := (hb.cell (World.block_lt_of_cell? w _ (HB.out j hlt))).trans (HB.out j hlt)
      go_wp2
      go_region
      all_goals
        go_wp2
        go_roundg (xs.length - (j + 1))
        case measure => omega
        case rel => exact ⟨j + 1, by simp, by omega, rfl, hb.drew⟩
    · have hd : j = xs.length := by omega
      subst hd
      go_wp2
      go_ret
      exact ⟨rfl, hb⟩
theorem ints_nil (o p : Option Addr) (ca cb : Nat) (w : World) :
    Calls Tryd.prog 12 #[.slice o 0 ca, .slice p 0 cb] w fun e w' => e = .returned (.bool true) ∧ Below w.heap.size w w' := by
  go_enter Tryd.func12, Tryd.ntmps12
  go_wp2_with fail
  refine wp_loop_rounds 1 ?_
  rw [rounds_succ]
  go_wp2
  go_ret
  exact ⟨rfl, Below.refl _ _⟩
theorem ints_any (xs : List Int) (hl : xs.length ≤ 1000000) (u v : Value) (w : World) (hu : IsInts w u xs) (hv : IsInts w v xs) :
    Calls Tryd.prog 12 #[u, v] w fun e w' => e = .returned (.bool true) ∧ Below w.heap.size w w' := by
  rcases hu with ⟨rfl, rfl⟩ | ⟨a, ca, rfl, ha⟩
  · rcases hv with ⟨rfl, _⟩ | ⟨b, cb, rfl, _⟩
    · exact ints_nil _ _ _ _ _
    · exact ints_nil _ _ _ _ _
  · rcases hv with ⟨rfl, rfl⟩ | ⟨b, cb, rfl, hb⟩
    · exact ints_nil _ _ _ _ _
    · exact ints_some xs hl a b ca cb w ha hb
end Go.Proofs.YthnfekilmiodpaaDoor

namespace Go.Proofs.YthnfekilmiodpaaDoor
open Go.RowKit

abbrev toI (xs : List Nat) : List Int := xs.map Int.ofNat
theorem toI_cons (r : Nat) (xs : List Nat) : toI (r :: xs) = (r : Int) :: toI xs := rfl
/-- What a list of one's own holds, as a slice. -/
theorem ints_own {w : World} {base : Nat} {v : Value} {xs : List Nat} (h : w.ownsRow base 3 1 v xs.length (xs.map intC)) : IsInts w v (toI xs) ∧ ∃ o cap, v = .slice o xs.length cap := by
  rcases h.2 with ⟨rfl, hn⟩ | ⟨g, cap, cur, rfl, _, hg, _, _, _, htake⟩
  · have : xs = [] := List.eq_nil_of_length_eq_zero hn
    subst this
    exact ⟨.inl ⟨rfl, rfl⟩, none, 0, rfl⟩
  · refine ⟨.inr ⟨⟨g, 0, none⟩, cap, by rw [List.length_map], fun i hi => ?_⟩, _, _, rfl⟩
    rw [List.length_map] at hi
    have hadd : (⟨g, 0, none⟩ : Addr).add i = ⟨g, i, none⟩ := by unfold Addr.add; split <;> simp_all
    rw [hadd, cell_of_row _ _ i _ _ _ hg]
    have h1 : (cur.toList.take (xs.length * 1))[i]? = cur[i]? := by rw [List.getElem?_take_of_lt (by omega), Array.getElem?_toList]
    rw [← h1, htake]
    simp [List.getElem?_eq_getElem hi, List.getD]

theorem scL_valid {l : List UInt8} (h : validL l = true) : scL l = (evs l).map (·.1) := by unfold scL; rw [if_pos h]
theorem scL_bad {l : List UInt8} (h : validL l = false) : scL l = [] := by unfold scL; rw [h]; rfl
theorem scL_cons {l : List UInt8} {r n : Nat} (hd : decL l = some (r, n)) (h : validL l = true) : scL l = r :: scL (l.drop n) := by
  have h2 : validL (l.drop n) = true := by rw [← validL_some hd]; exact h
  rw [scL_valid h, scL_valid h2, evs_some hd]
  rfl
/-- THE SCALARS' TEXT IS THE TEXT. -/
theorem text_scL (n : Nat) : ∀ (l : List UInt8), l.length ≤ n → validL l = true → bytesL (toI (scL l)) = l ∧ goodL (toI (scL l)) = true ∧ (scL l).length ≤ l.length := by
  induction n with
  | zero =>
    intro l hn _
    obtain rfl : l = [] := List.eq_nil_of_length_eq_zero (by omega)
    rw [scL_valid validL_nil, evs_nil]
    exact ⟨rfl, rfl, Nat.le_refl _⟩
  | succ n ih =>
    intro l hn hv
    cases hd : decL l with
    | none =>
      by_cases h0 : l = []
      · subst h0
        rw [scL_valid validL_nil, evs_nil]
        exact ⟨rfl, rfl, Nat.le_refl _⟩
      · rw [validL_none hd h0] at hv; cases hv
    | some x =>
      obtain ⟨r, k⟩ := x
      obtain ⟨e, h9⟩ := split_some hd
      have hl := decL_len hd
      obtain ⟨i1, i2, i3⟩ := ih (l.drop k) (by rw [List.length_drop]; omega) (by rw [← validL_some hd]; exact hv)
      rw [scL_cons hd hv, toI_cons]
      refine ⟨?_, ?_, ?_⟩
      · unfold bytesL at *
        rw [List.flatMap_cons, i1]
        exact e.symm
      · unfold goodL at *
        rw [List.all_cons, i2]
        simp [h9]
      · rw [List.length_cons]
        rw [List.length_drop] at i3
        omega
/-- THE TEXT's SCALARS ARE THE NUMBERS. -/
theorem scL_text : ∀ (xs : List Int), goodL xs = true → validL (bytesL xs) = true ∧ toI (scL (bytesL xs)) = xs
  | [], _ => by
    have e : bytesL [] = [] := rfl
    rw [e, scL_valid validL_nil, evs_nil]
    exact ⟨validL_nil, rfl⟩
  | r :: xs, h => by
    unfold goodL at h
    rw [List.all_cons, Bool.and_eq_true, decide_eq_true_eq] at h
    obtain ⟨h9, hg⟩ := h
    obtain ⟨i1, i2⟩ := scL_text xs hg
    have e : bytesL (r :: xs) = encB r.toNat ++ bytesL xs := by unfold bytesL; rw [List.flatMap_cons]
    have hr := rowR_toNat h9
    have hv : validL (bytesL (r :: xs)) = true := by rw [e, validL_enc hr, i1]
    refine ⟨hv, ?_⟩
    have hd : decL (bytesL (r :: xs)) = some (r.toNat, (encB r.toNat).length) := by rw [e]; exact decL_enc hr _
    rw [scL_cons hd hv, e, List.drop_left, toI_cons, i2, Int.toNat_of_nonneg (scalar_lt h9).1]
end Go.Proofs.YthnfekilmiodpaaDoor

