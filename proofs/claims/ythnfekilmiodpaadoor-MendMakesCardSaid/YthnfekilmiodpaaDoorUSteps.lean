/- MendSteps: one forth and one back is where one was. -/
import Derived.Test.YthnfekilmiodpaaDoorBunUMet
namespace Go.Proofs.YthnfekilmiodpaaDoor
open Go.RowKit

theorem uevs_begin_uniq (p : Nat) (l : List UInt8) : ∀ x ∈ uevs p l, ∀ y ∈ uevs p l, x.1 = y.1 → x = y := by
  refine units_ind (M := fun p l => ∀ x ∈ uevs p l, ∀ y ∈ uevs p l, x.1 = y.1 → x = y) ?_ ?_ p l
  · intro p x hx; rw [uevs_nil] at hx; cases hx
  · intro p l h ih x hx y hy e
    have hl := unitL_le l h
    have hm := uevs_mem (p + (unitL l).1) (l.drop (unitL l).1)
    rw [uevs_cons p h] at hx hy
    rcases List.mem_cons.1 hx with rfl | hx <;> rcases List.mem_cons.1 hy with rfl | hy
    · rfl
    · have := hm y hy; simp only at e; omega
    · have := hm x hx; simp only at e; omega
    · exact ih x hx y hy e
theorem uevs_end_uniq (p : Nat) (l : List UInt8) : ∀ x ∈ uevs p l, ∀ y ∈ uevs p l, x.1 + x.2.1 = y.1 + y.2.1 → x = y := by
  refine units_ind (M := fun p l => ∀ x ∈ uevs p l, ∀ y ∈ uevs p l, x.1 + x.2.1 = y.1 + y.2.1 → x = y) ?_ ?_ p l
  · intro p x hx; rw [uevs_nil] at hx; cases hx
  · intro p l h ih x hx y hy e
    have hl := unitL_le l h
    have hm := uevs_mem (p + (unitL l).1) (l.drop (unitL l).1)
    rw [uevs_cons p h] at hx hy
    rcases List.mem_cons.1 hx with rfl | hx <;> rcases List.mem_cons.1 hy with rfl | hy
    · rfl
    · have := hm y hy; simp only at e; omega
    · have := hm x hx; simp only at e; omega
    · exact ih x hx y hy e
theorem find_uniq {xs : List (Nat × Nat × Bool)} {f : Nat × Nat × Bool → Bool} {x : Nat × Nat × Bool} (hx : x ∈ xs) (hf : f x = true) (hu : ∀ y ∈ xs, f y = true → y = x) : xs.find? f = some x := by
  cases h : xs.find? f with
  | none =>
    rw [List.find?_eq_none] at h
    exact absurd hf (h x hx)
  | some y =>
    rw [hu y (List.mem_of_find?_eq_some h) (List.find?_some h)]
theorem nextL_of {l : List UInt8} {x : Nat × Nat × Bool} (hx : x ∈ uevs 0 l) : nextL l x.1 = some x :=
  find_uniq hx (by simp) fun y hy e => uevs_begin_uniq 0 l y hy x hx (by simpa using e)
theorem backL_of {l : List UInt8} {x : Nat × Nat × Bool} (hx : x ∈ uevs 0 l) : backL l (x.1 + x.2.1) = some x :=
  find_uniq hx (by simp) fun y hy e => uevs_end_uniq 0 l y hy x hx (by simpa using e)
theorem nextO_nat (l : List UInt8) (p : Nat) : nextO l (p : Nat) = nextL l p := by unfold nextO; rw [if_pos (by omega)]; rfl
theorem backO_nat (l : List UInt8) (p : Nat) : backO l (p : Nat) = backL l p := by unfold backO; rw [if_pos (by omega)]; rfl
/-- What a step forth answers. -/
theorem steps_next (l : List UInt8) (a : Int) : nextAns (nextO l a) = .tuple #[.int .i64 0, .int .i64 12] ∨
    ∃ t : Int, nextAns (nextO l a) = .tuple #[.int .i64 t, .int .i64 0] ∧ backAns (backO l t) = .tuple #[.int .i64 a, .int .i64 0] ∧ 0 ≤ a ∧ a < t ∧ t ≤ a + 4 ∧ t ≤ (l.length : Nat) := by
  cases h : nextO l a with
  | none => exact .inl rfl
  | some x =>
    right
    unfold nextO at h
    split at h
    · rename_i h0
      obtain ⟨p, rfl⟩ := Int.eq_ofNat_of_zero_le h0
      obtain ⟨hx, hp⟩ := nextL_size (p := p) h
      have hm := uevs_mem 0 l x hx
      refine ⟨((x.1 : Nat) : Int) + ((x.2.1 : Nat) : Int), rfl, ?_, by omega, by omega, by omega, by omega⟩
      have e : ((x.1 : Nat) : Int) + ((x.2.1 : Nat) : Int) = ((x.1 + x.2.1 : Nat) : Int) := by omega
      rw [e, backO_nat, backL_of hx]
      show Value.tuple #[.int .i64 (x.1 : Nat), .int .i64 0] = _
      rw [hp]
    · cases h
theorem steps_back (l : List UInt8) (a : Int) : backAns (backO l a) = .tuple #[.int .i64 0, .int .i64 12] ∨
    ∃ f : Int, backAns (backO l a) = .tuple #[.int .i64 f, .int .i64 0] ∧ nextAns (nextO l f) = .tuple #[.int .i64 a, .int .i64 0] ∧ 0 ≤ f ∧ f < a ∧ a ≤ (l.length : Nat) := by
  cases h : backO l a with
  | none => exact .inl rfl
  | some x =>
    right
    unfold backO at h
    split at h
    · rename_i h0
      obtain ⟨p, rfl⟩ := Int.eq_ofNat_of_zero_le h0
      obtain ⟨hx, hp⟩ := backL_size (p := p) h
      have hm := uevs_mem 0 l x hx
      refine ⟨((x.1 : Nat) : Int), rfl, ?_, by omega, by omega, by omega⟩
      rw [nextO_nat, nextL_of hx]
      show Value.tuple #[.int .i64 ((x.1 : Nat) + (x.2.1 : Nat)), .int .i64 0] = _
      have e : ((x.1 : Nat) : Int) + ((x.2.1 : Nat) : Int) = ((p : Nat) : Int) := by omega
      rw [e]
    · cases h

end Go.Proofs.YthnfekilmiodpaaDoor
