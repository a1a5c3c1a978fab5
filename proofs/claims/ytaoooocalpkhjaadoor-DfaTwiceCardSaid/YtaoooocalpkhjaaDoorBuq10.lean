/- Shaken by bunq.py. -/
import Derived.Test.YtaoooocalpkhjaaDoorBuq9
namespace Go.Proofs.YtaoooocalpkhjaaDoor
open Go.RowKit Go.Shelf

theorem first_twice (R : List PatP) : firstD (R ++ R) = firstD R ++ firstD R := by unfold firstD; rw [List.map_append]
theorem first_lenD (R : List PatP) : (firstD R).length = R.length := by unfold firstD; rw [List.length_map]
theorem step_twice {R : List PatP} {S : List Nat} (c : Int) (h : S.length = R.length) : stepD (R ++ R) (S ++ S) c = stepD R S c ++ stepD R S c := by
  unfold stepD
  exact List.zipWith_append h.symm
theorem bits_append : ∀ a b : List Bool, bitsD (a ++ b) = bitsD a + 2 ^ a.length * bitsD b
  | [], b => by simp [bitsD]
  | x :: a, b => by
    rw [List.cons_append, bitsD, bitsD, bits_append a b, List.length_cons, Nat.pow_succ, Nat.mul_add, ← Nat.mul_assoc, Nat.mul_comm 2 (2 ^ a.length), Nat.add_assoc]
theorem done_twice {R : List PatP} {S : List Nat} (h : S.length = R.length) : doneD (R ++ R) (S ++ S) = doneD R S + 2 ^ R.length * doneD R S := by
  unfold doneD
  rw [List.zipWith_append h.symm, bits_append, List.length_zipWith, h, Nat.min_self]
theorem run_lens (R : List PatP) (n : Nat) : ∀ q, ∀ S ∈ (runD R n q).1, S.length = R.length
  | 0 => fun S hS => by
    rw [runD, List.mem_singleton] at hS
    rw [hS, first_lenD]
  | q + 1 => fun S hS => by
    have ih := run_lens R n q
    by_cases hv : liveD R n q
    · obtain ⟨T, hT⟩ : ∃ T, (runD R n q).1[q / (n + 1)]? = some T := ⟨_, List.getElem?_eq_getElem hv⟩
      rw [run_next hT] at hS
      simp only at hS
      split at hS
      · exact ih S hS
      · rcases List.mem_append.1 hS with hS | hS
        · exact ih S hS
        · rw [List.mem_singleton.1 hS]
          exact step_len R T _ (ih T (List.mem_of_getElem? hT))
    · rw [run_halt hv] at hS
      exact ih S hS
def twoD (S : List Nat) : List Nat := S ++ S
theorem two_inj {S T : List Nat} (h : twoD S = twoD T) : S = T := by
  unfold twoD at h
  have hl := congrArg List.length h
  rw [List.length_append, List.length_append] at hl
  exact (List.append_inj h (by omega)).1
theorem idx_two (l : List (List Nat)) (x : List Nat) : (l.map twoD).idxOf (twoD x) = l.idxOf x := by
  induction l with
  | nil => rfl
  | cons a l ih =>
    rw [List.map_cons, List.idxOf_cons, List.idxOf_cons, ih]
    by_cases h : a = x
    · subst h
      rw [show (twoD a == twoD a) = true from beq_self_eq_true _, show (a == a) = true from beq_self_eq_true _]
    · rw [show (a == x) = false from beq_eq_false_iff_ne.2 h, show (twoD a == twoD x) = false from beq_eq_false_iff_ne.2 fun e => h (two_inj e)]
theorem mem_two {l : List (List Nat)} {x : List Nat} : twoD x ∈ l.map twoD ↔ x ∈ l := by
  rw [List.mem_map]
  constructor
  · rintro ⟨a, h1, h2⟩
    rw [← two_inj h2]
    exact h1
  · exact fun h => ⟨x, h, rfl⟩
theorem run_twice (R : List PatP) (n : Nat) : ∀ q, runD (R ++ R) n q = ((runD R n q).1.map twoD, (runD R n q).2)
  | 0 => by
    rw [runD, runD, first_twice]
    rfl
  | q + 1 => by
    have ih := run_twice R n q
    by_cases hv : liveD R n q
    · obtain ⟨T, hT⟩ : ∃ T, (runD R n q).1[q / (n + 1)]? = some T := ⟨_, List.getElem?_eq_getElem hv⟩
      have hT2 : (runD (R ++ R) n q).1[q / (n + 1)]? = some (twoD T) := by
        rw [ih]
        show (List.map twoD _)[_]? = _
        rw [List.getElem?_map, hT]
        rfl
      have hs : stepD (R ++ R) (twoD T) ((q % (n + 1) : Nat) : Int) = twoD (stepD R T ((q % (n + 1) : Nat) : Int)) := step_twice _ (run_lens R n q T (List.mem_of_getElem? hT))
      by_cases hm : stepD R T ((q % (n + 1) : Nat) : Int) ∈ (runD R n q).1
      · have hm2 : stepD (R ++ R) (twoD T) ((q % (n + 1) : Nat) : Int) ∈ (runD (R ++ R) n q).1 := by
          rw [ih, hs]
          exact mem_two.2 hm
        rw [run_old hT hm, run_old hT2 hm2, ih, hs]
        show (_, _ ++ [List.idxOf _ (List.map twoD _)]) = _
        rw [idx_two]
      · have hm2 : stepD (R ++ R) (twoD T) ((q % (n + 1) : Nat) : Int) ∉ (runD (R ++ R) n q).1 := by
          rw [ih, hs]
          exact fun h => hm (mem_two.1 h)
        rw [run_new hT hm, run_new hT2 hm2, ih, hs]
        show (List.map twoD _ ++ [_], _ ++ [List.length (List.map twoD _)]) = _
        rw [List.length_map, List.map_append, List.map_singleton]
    · have hv2 : ¬ liveD (R ++ R) n q := by
        unfold liveD at hv ⊢
        rw [ih]
        show ¬ _ < (List.map twoD _).length
        rw [List.length_map]
        exact hv
      rw [run_halt hv, run_halt hv2, ih]
theorem fin_twice (R : List PatP) (n : Nat) : finD (R ++ R) n = ((finD R n).1.map twoD, (finD R n).2) := by
  unfold finD
  exact run_twice R n (300 * (n + 1))
theorem fin_twice_len (R : List PatP) (n : Nat) : (finD (R ++ R) n).1.length = (finD R n).1.length := by
  rw [fin_twice, List.length_map]
theorem fin_twice_rows (R : List PatP) (n : Nat) : finR (R ++ R) n = finR R n := by
  unfold finR
  rw [fin_twice_len, fin_twice]
theorem fin_twice_fits (R : List PatP) (n : Nat) {i : Nat} {v : Int} (h : (finF R n)[i]? = some v) : ∃ x : Nat, v = ((x : Nat) : Int) ∧ x < 2 ^ R.length ∧ (finF (R ++ R) n)[i]? = some ((x + 2 ^ R.length * x : Nat) : Int) := by
  unfold finF doneP at h ⊢
  rw [List.getElem?_map] at h
  obtain ⟨S, hS, rfl⟩ := Option.map_eq_some_iff.1 h
  have hl := run_lens R n _ S (List.mem_of_getElem? hS)
  refine ⟨doneD R S, rfl, ?_, ?_⟩
  · have := bitsD_lt (doneB R S)
    rwa [doneB_len hl] at this
  · rw [fin_twice]
    simp only [List.getElem?_map, hS, Option.map_some]
    unfold twoD
    rw [done_twice hl]
theorem or_twice {x m : Nat} (h : x < 2 ^ m) : x ||| 2 ^ m * x = x + 2 ^ m * x := by
  have := Nat.two_pow_add_eq_or_of_lt h x
  rw [Nat.or_comm, ← this, Nat.add_comm]
end Go.Proofs.YtaoooocalpkhjaaDoor
