/- ScalarWhole: plain. -/
import Derived.Test.YtcdgmamlmapbcaaDoorInts
import Derived.Test.YtcdgmamlmapbcaaDoorWords
namespace Go.Proofs.YtcdgmamlmapbcaaDoor
open Go.RowKit

abbrev toI (xs : List Nat) : List Int := xs.map Int.ofNat
theorem toI_cons (r : Nat) (xs : List Nat) : toI (r :: xs) = (r : Int) :: toI xs := rfl
/-- What a list of one's own holds, as a slice. -/
theorem ints_own {w : World} {base : Nat} {v : Value} {xs : List Nat} (h : w.ownsRow base 3 1 v xs.length (xs.map intC)) : IsInts w v (toI xs) ∧ ∃ o cap, v = .slice o xs.length cap := by
  rcases h.2 with ⟨rfl, hn⟩ | ⟨g, cap, cur, rfl, _, hg, _, _, _, htake⟩
  · have : xs = [] := List.eq_nil_of_length_eq_zero hn
    subst this
    exact ⟨.inl ⟨rfl, rfl⟩, none, 0, rfl⟩
  · refine ⟨.inr ⟨⟨g, 0, none⟩, cap, by rw [List.length_map], fun i hi => ?_⟩, _, _, rfl⟩
    rw [List.length_map] at hi
    have hadd : (⟨g, 0, none⟩ : Addr).add i = ⟨g, i, none⟩ := by unfold Addr.add; split <;> simp_all
    rw [hadd, cell_of_row _ _ i _ _ _ hg]
    have h1 : (cur.toList.take (xs.length * 1))[i]? = cur[i]? := by rw [List.getElem?_take_of_lt (by omega), Array.getElem?_toList]
    rw [← h1, htake]
    simp [List.getElem?_eq_getElem hi, List.getD]

theorem scL_valid {l : List UInt8} (h : validL l = true) : scL l = (evs l).map (·.1) := by unfold scL; rw [if_pos h]
theorem scL_bad {l : List UInt8} (h : validL l = false) : scL l = [] := by unfold scL; rw [h]; rfl
theorem scL_cons {l : List UInt8} {r n : Nat} (hd : decL l = some (r, n)) (h : validL l = true) : scL l = r :: scL (l.drop n) := by
  have h2 : validL (l.drop n) = true := by rw [← validL_some hd]; exact h
  rw [scL_valid h, scL_valid h2, evs_some hd]
  rfl
/-- THE SCALARS' TEXT IS THE TEXT. -/
theorem text_scL (n : Nat) : ∀ (l : List UInt8), l.length ≤ n → validL l = true → bytesL (toI (scL l)) = l ∧ goodL (toI (scL l)) = true ∧ (scL l).length ≤ l.length := by
  induction n with
  | zero =>
    intro l hn _
    obtain rfl : l = [] := List.eq_nil_of_length_eq_zero (by omega)
    rw [scL_valid validL_nil, evs_nil]
    exact ⟨rfl, rfl, Nat.le_refl _⟩
  | succ n ih =>
    intro l hn hv
    cases hd : decL l with
    | none =>
      by_cases h0 : l = []
      · subst h0
        rw [scL_valid validL_nil, evs_nil]
        exact ⟨rfl, rfl, Nat.le_refl _⟩
      · rw [validL_none hd h0] at hv; cases hv
    | some x =>
      obtain ⟨r, k⟩ := x
      obtain ⟨e, h9⟩ := split_some hd
      have hl := decL_len hd
      obtain ⟨i1, i2, i3⟩ := ih (l.drop k) (by rw [List.length_drop]; omega) (by rw [← validL_some hd]; exact hv)
      rw [scL_cons hd hv, toI_cons]
      refine ⟨?_, ?_, ?_⟩
      · unfold bytesL at *
        rw [List.flatMap_cons, i1]
        exact e.symm
      · unfold goodL at *
        rw [List.all_cons, i2]
        simp [h9]
      · rw [List.length_cons]
        rw [List.length_drop] at i3
        omega
/-- THE TEXT's SCALARS ARE THE NUMBERS. -/
theorem scL_text : ∀ (xs : List Int), goodL xs = true → validL (bytesL xs) = true ∧ toI (scL (bytesL xs)) = xs
  | [], _ => by
    have e : bytesL [] = [] := rfl
    rw [e, scL_valid validL_nil, evs_nil]
    exact ⟨validL_nil, rfl⟩
  | r :: xs, h => by
    unfold goodL at h
    rw [List.all_cons, Bool.and_eq_true, decide_eq_true_eq] at h
    obtain ⟨h9, hg⟩ := h
    obtain ⟨i1, i2⟩ := scL_text xs hg
    have e : bytesL (r :: xs) = encB r.toNat ++ bytesL xs := by unfold bytesL; rw [List.flatMap_cons]
    have hr := rowR_toNat h9
    have hv : validL (bytesL (r :: xs)) = true := by rw [e, validL_enc hr, i1]
    refine ⟨hv, ?_⟩
    have hd : decL (bytesL (r :: xs)) = some (r.toNat, (encB r.toNat).length) := by rw [e]; exact decL_enc hr _
    rw [scL_cons hd hv, e, List.drop_left, toI_cons, i2, Int.toNat_of_nonneg (scalar_lt h9).1]
end Go.Proofs.YtcdgmamlmapbcaaDoor
