/- Which texts are well-formed: one behind the other; parts of a scalar's bytes. -/
import Derived.Test.YtcdgmamlmapbcaaDoorTrip
import Derived.Test.YtcdgmamlmapbcaaDoorValid
namespace Go.Proofs.YtcdgmamlmapbcaaDoor

theorem validL_nil : validL [] = true := by unfold validL; rw [evs_nil]; rfl
theorem validL_some {l : List UInt8} {r n : Nat} (h : decL l = some (r, n)) : validL l = validL (l.drop n) := by
  unfold validL
  rw [evs_some h]
  simp
theorem validL_none {l : List UInt8} (h : decL l = none) (h0 : l ≠ []) : validL l = false := by
  unfold validL
  rw [evs_none h h0]
  rfl
theorem evs_enc {r : Nat} (h : rowR r < 9) (t : List UInt8) : evs (encB r ++ t) = (r, false) :: evs t := by
  rw [evs_some (decL_enc h t), List.drop_left]
theorem validL_enc {r : Nat} (h : rowR r < 9) (t : List UInt8) : validL (encB r ++ t) = validL t := by
  rw [validL_some (decL_enc h t), List.drop_left]

/-- A byte of a scalar that is not its first one. -/
theorem enc_tail {r : Nat} (h : rowR r < 9) {i : Nat} (h0 : 0 < i) (hi : i < (encB r).length) : 128 ≤ ((encB r).getD i 0).toNat ∧ ((encB r).getD i 0).toNat ≤ 191 :=
  tail_of_fits h (known_row h).fits h0 hi
/-- With such a byte no scalar begins. -/
theorem decL_tail {b : UInt8} {t : List UInt8} (h : 128 ≤ b.toNat ∧ b.toNat ≤ 191) : decL (b :: t) = none := by
  rw [decL_cons]
  have := rowIx_cases b.toNat
  rw [if_neg (by omega)]

theorem split_some {l : List UInt8} {r n : Nat} (h : decL l = some (r, n)) : l = encB r ++ l.drop n ∧ rowR r < 9 := by
  obtain ⟨h9, ht, _⟩ := decL_some h
  exact ⟨by rw [← ht, List.take_append_drop], h9⟩

theorem validL_append (n : Nat) : ∀ (s t : List UInt8), s.length ≤ n → validL s = true → validL (s ++ t) = validL t := by
  induction n with
  | zero =>
    intro s t hn _
    obtain rfl : s = [] := List.eq_nil_of_length_eq_zero (by omega)
    rfl
  | succ n ih =>
    intro s t hn hs
    cases hd : decL s with
    | none =>
      by_cases h0 : s = []
      · subst h0; rfl
      · rw [validL_none hd h0] at hs; cases hs
    | some x =>
      obtain ⟨r, k⟩ := x
      obtain ⟨e, h9⟩ := split_some hd
      have hl := decL_len hd
      rw [validL_some hd] at hs
      have := ih (s.drop k) t (by simp only [List.length_drop]; omega) hs
      rw [e, List.append_assoc, validL_enc h9, this]

theorem validL_head {t : List UInt8} (h : validL t = true) (h0 : t ≠ []) : ¬ (128 ≤ (t.getD 0 0).toNat ∧ (t.getD 0 0).toNat ≤ 191) := by
  intro hb
  cases t with
  | nil => exact h0 rfl
  | cons b t =>
    rw [validL_none (decL_tail (by simpa using hb)) (by simp)] at h
    cases h

theorem validL_front (n : Nat) : ∀ (s t : List UInt8), s.length ≤ n → validL t = true → validL (s ++ t) = validL s := by
  induction n with
  | zero =>
    intro s t hn ht
    obtain rfl : s = [] := List.eq_nil_of_length_eq_zero (by omega)
    rw [List.nil_append, ht, validL_nil]
  | succ n ih =>
    intro s t hn ht
    by_cases h0 : s = []
    · subst h0
      rw [List.nil_append, ht, validL_nil]
    cases hd : decL s with
    | some x =>
      obtain ⟨r, k⟩ := x
      obtain ⟨e, h9⟩ := split_some hd
      have hl := decL_len hd
      have := ih (s.drop k) t (by simp only [List.length_drop]; omega) ht
      rw [validL_some hd]
      conv => lhs; rw [e, List.append_assoc, validL_enc h9, this]
    | none =>
      rw [validL_none hd h0]
      cases hst : decL (s ++ t) with
      | none => exact validL_none hst (by simp [h0])
      | some x =>
        exfalso
        obtain ⟨r, k⟩ := x
        obtain ⟨h9, hk, hlen⟩ := decL_some hst
        rcases Nat.lt_or_ge s.length k with hlt | hge
        · have hl := decL_len hst
          have htn : t ≠ [] := by
            rintro rfl
            simp at hl
            omega
          have hp : 0 < s.length := List.length_pos_iff.2 h0
          have hc := enc_tail h9 hp (by omega)
          refine validL_head ht htn ?_
          have eg : (encB r).getD s.length 0 = t.getD 0 0 := by
            rw [← hk]
            simp only [List.getD, List.getElem?_take, hlt, if_true]
            rw [List.getElem?_append_right (Nat.le_refl _), Nat.sub_self]
          rw [eg] at hc
          exact hc
        · have e : s = encB r ++ s.drop k := by
            have := congrArg (List.take k) (List.take_append_drop k s).symm
            rw [← hk, List.take_append_of_le_length hge, List.take_append_drop]
          rw [e, decL_enc h9] at hd
          cases hd

/-- A part of a scalar's bytes, at its beginning, that is not all of them. -/
theorem validL_take {r i : Nat} (h : rowR r < 9) (h0 : 0 < i) (hi : i < (encB r).length) : validL ((encB r).take i) = false := by
  have K := known_row h
  obtain ⟨b, t, e, hb⟩ := K.head
  have e2 : (encB r).take i = b :: t.take (i - 1) := by
    rw [e]
    obtain ⟨j, rfl⟩ : ∃ j, i = j + 1 := ⟨i - 1, by omega⟩
    simp
  have hl : ((encB r).take i).length = i := by rw [List.length_take]; omega
  rw [e2] at hl ⊢
  refine validL_none ?_ (by simp)
  rw [decL_cons, hb, if_neg]
  rintro ⟨_, hf⟩
  have hs := K.len
  simp only [fitsB, Bool.and_eq_true, decide_eq_true_eq, List.length_take] at hf
  omega
/-- At its end. -/
theorem validL_drop {r i : Nat} (h : rowR r < 9) (h0 : 0 < i) (hi : i < (encB r).length) : validL ((encB r).drop i) = false := by
  have ht := enc_tail h h0 hi
  have e : (encB r).drop i = (encB r).getD i 0 :: (encB r).drop (i + 1) := by
    rw [List.drop_eq_getElem_cons hi]
    simp [List.getD, hi]
  rw [e]
  exact validL_none (decL_tail ht) (by simp)
end Go.Proofs.YtcdgmamlmapbcaaDoor
