/- MendCounts: as many units as scalars, none of more than four bytes. -/
import Derived.Test.YthnfekilmiodpaaDoorBunUMet
import Derived.Deep.LoopGhost
import Derived.BigQuiet
import Derived.Deep.QuietTactic
namespace Go.Proofs.YthnfekilmiodpaaDoor
open Go.RowKit

/-- The n-th place. -/
theorem place_last (l : List UInt8) : (placesL l).getD ((placesL l).length - 1) 0 = l.length := by
  unfold placesL
  simp [List.getD]
theorem place_first (l : List UInt8) : (placesL l).getD 0 0 = 0 := by
  unfold placesL
  by_cases h : l = []
  · subst h; rw [uevs_nil]; simp [List.getD]
  · rw [uevs_cons 0 h]; simp [List.getD]
theorem places_length (l : List UInt8) : (placesL l).length = (uevs 0 l).length + 1 := by unfold placesL; simp
/-- One place behind another. -/
theorem places_next (p : Nat) (l : List UInt8) : ∀ i, i < (uevs p l).length → ∃ x ∈ uevs p l, ((uevs p l).map (·.1) ++ [p + l.length]).getD i 0 = x.1 ∧ ((uevs p l).map (·.1) ++ [p + l.length]).getD (i + 1) 0 = x.1 + x.2.1 := by
  refine units_ind (M := fun p l => ∀ i, i < (uevs p l).length → ∃ x ∈ uevs p l, ((uevs p l).map (·.1) ++ [p + l.length]).getD i 0 = x.1 ∧ ((uevs p l).map (·.1) ++ [p + l.length]).getD (i + 1) 0 = x.1 + x.2.1) ?_ ?_ p l
  · intro p i hi; rw [uevs_nil] at hi; simp at hi
  · intro p l h ih i hi
    have hl := unitL_le l h
    have e : (uevs (p + (unitL l).1) (l.drop (unitL l).1)).map (·.1) ++ [p + (unitL l).1 + (l.drop (unitL l).1).length] = (uevs (p + (unitL l).1) (l.drop (unitL l).1)).map (·.1) ++ [p + l.length] := by
      rw [List.length_drop]; congr 2; omega
    rw [uevs_cons p h] at hi ⊢
    cases i with
    | zero =>
      refine ⟨_, List.mem_cons_self, by simp [List.getD], ?_⟩
      rw [List.map_cons, List.cons_append, List.getD_cons_succ]
      by_cases h2 : l.drop (unitL l).1 = []
      · rw [h2, uevs_nil]
        have := congrArg List.length h2
        rw [List.length_drop] at this
        simp [List.getD] at *
        omega
      · rw [uevs_cons _ h2]; simp [List.getD]
    | succ i =>
      obtain ⟨x, hx, h1, h2⟩ := ih i (by simpa using hi)
      rw [e] at h1 h2
      exact ⟨x, List.mem_cons_of_mem _ hx, by rw [List.map_cons, List.cons_append, List.getD_cons_succ]; exact h1, by rw [List.map_cons, List.cons_append, List.getD_cons_succ]; exact h2⟩
theorem place_step (l : List UInt8) {i : Nat} (hi : i < (uevs 0 l).length) : (placesL l).getD i 0 < (placesL l).getD (i + 1) 0 ∧ (placesL l).getD (i + 1) 0 ≤ (placesL l).getD i 0 + 4 ∧ (placesL l).getD (i + 1) 0 ≤ l.length := by
  obtain ⟨x, hx, h1, h2⟩ := places_next 0 l i hi
  rw [Nat.zero_add] at h1 h2
  have hm := uevs_mem 0 l x hx
  unfold placesL
  rw [h1, h2]
  omega

end Go.Proofs.YthnfekilmiodpaaDoor
