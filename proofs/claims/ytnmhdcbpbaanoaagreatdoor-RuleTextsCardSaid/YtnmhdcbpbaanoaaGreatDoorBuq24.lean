/- Shaken by bunq.py. -/
import Derived.Test.YtnmhdcbpbaanoaaGreatDoorBuq23
import Derived.Test.YtnmhdcbpbaanoaaGreatDoorBuq22
import Derived.Test.YtnmhdcbpbaanoaaGreatDoorBuq21
import Derived.Test.YtnmhdcbpbaanoaaGreatDoorBuq11
namespace Go.Proofs.YtnmhdcbpbaanoaaGreatDoor
open Go.RowKit Go.Shelf Go.Maps
attribute [local go_sem] Oper.semAt_some

theorem parse_casesP (ns : List ByteArray) (s : List UInt8) : (parsePE ns s = 0 ∧ namesL ns ∧ rightB (parsePV ns s).2 (ns.length : Nat) = true) ∨ (parsePE ns s ≠ 0 ∧ parsePV ns s = (false, [])) := by
  unfold parsePE parsePV
  by_cases h1 : namesL ns
  · rw [if_pos h1, if_pos h1]
    cases h2 : readP ns s with
    | none => exact .inr ⟨by decide, rfl⟩
    | some r =>
      obtain ⟨st, xs⟩ := r
      exact .inl ⟨rfl, h1, readP_right h1 h2⟩
  · rw [if_neg h1, if_neg h1]
    exact .inr ⟨by decide, rfl⟩
end Go.Proofs.YtnmhdcbpbaanoaaGreatDoor
namespace Go.Proofs.YtnmhdcbpbaanoaaGreatDoor
open Go.RowKit Go.Shelf

theorem parseP_right {ns : List ByteArray} {s : List UInt8} (h : parsePE ns s = 0) : rightB (parsePV ns s).2 (ns.length : Nat) = true := by
  rcases parse_casesP ns s with h1 | h1
  · exact h1.2.2
  · exact absurd h h1.1
theorem rulesP_right {ns : List ByteArray} (hn : namesL ns) : ∀ (l : List (List UInt8 × Nat)) (acc R : List RuleP), (∀ x ∈ acc, rightU (ns.length : Nat) x = true) → acc.length ≤ 40 → rulesP ns l acc = (R, .none) → (∀ x ∈ R, rightU (ns.length : Nat) x = true) ∧ R.length ≤ 40
  | [], acc, R, h1, h2, h => by cases h; exact ⟨h1, h2⟩
  | (x, n) :: l, acc, R, h1, h2, h => by
    rw [rulesP] at h
    split at h
    · exact rulesP_right hn l acc R h1 h2 h
    · cases hl : lineE ns (countedL x) with
      | part s e => rw [hl] at h; cases h
      | line m s e => rw [hl] at h; cases h
      | none =>
        rw [hl] at h
        simp only at h
        split at h
        · cases h
        · rename_i h3
          refine rulesP_right hn l _ R (fun y hy => ?_) (by rw [List.length_append, List.length_singleton]; omega) h
          rcases List.mem_append.1 hy with hy | hy
          · exact h1 y hy
          · rw [List.mem_singleton.1 hy]
            unfold lineE at hl
            split at hl
            · cases hl
            · unfold ruleE at hl
              split at hl
              · cases hl
              · rename_i h4
                simp only [not_or, Decidable.not_not] at h4
                unfold rightU lineP
                simp only
                rw [parseP_right h4.1, parseP_right h4.2.1]
                simpa using h4.2.2
theorem parseU_cases (ns : List ByteArray) (s : List UInt8) : (errNJ (parseU ns s).2 ≠ 0 ∧ (parseU ns s).1 = []) ∨ (errNJ (parseU ns s).2 = 0 ∧ errLJ (parseU ns s).2 = 0 ∧ rightsU (parseU ns s).1 (ns.length : Nat) = true) := by
  unfold parseU
  by_cases hn : namesL ns
  · rw [if_pos hn]
    have key : ∀ (l : List (List UInt8 × Nat)) (acc : List RuleP), (∃ n s e, rulesP ns l acc = ([], .line n s e) ∧ e ≠ 0) ∨ ∃ R, rulesP ns l acc = (R, .none) := by
      intro l
      induction l with
      | nil => intro acc; exact .inr ⟨acc, rfl⟩
      | cons q l ih =>
        intro acc
        obtain ⟨x, n⟩ := q
        rw [rulesP]
        split
        · exact ih acc
        · rcases lineE_form ns (countedL x) with h | ⟨t, h⟩
          · rw [h]
            simp only
            split
            · exact .inl ⟨_, _, _, rfl, by decide⟩
            · exact ih _
          · rw [h]
            exact .inl ⟨_, _, _, rfl, by decide⟩
    rcases key (linesN s) [] with ⟨n, t, e, h, he⟩ | ⟨R, h⟩
    · rw [h]; exact .inl ⟨he, rfl⟩
    · obtain ⟨h1, h2⟩ := rulesP_right hn _ [] R (by simp) (by simp) h
      rw [h]
      refine .inr ⟨rfl, rfl, rights_of (by have := hn.2.2.1; omega) (by have := hn.2.2.2; omega) h2 h1⟩
  · rw [if_neg hn]
    exact .inl ⟨by decide, rfl⟩
end Go.Proofs.YtnmhdcbpbaanoaaGreatDoor
