/- Few ranges make few blocks. -/
import Derived.Test.YtcnbcaljpgdcpaaDoorBunA8
import Derived.Test.YtcnbcaljpgdcpaaDoorBunA4
namespace Go.Proofs.YtcnbcaljpgdcpaaDoor

theorem nodup_leA {α : Type} [DecidableEq α] : ∀ {a c : List α}, a.Nodup → (∀ x ∈ a, x ∈ c) → a.length ≤ c.length
  | [], _, _, _ => Nat.zero_le _
  | x :: a, c, hn, hs => by
    rw [List.nodup_cons] at hn
    have hx := hs x (List.mem_cons_self ..)
    have h := nodup_leA (a := a) (c := c.erase x) hn.2 fun y hy => (List.mem_erase_of_ne (show y ≠ x from fun e => hn.1 (by rw [← e]; exact hy))).2 (hs y (List.mem_cons_of_mem _ hy))
    rw [List.length_erase_of_mem hx] at h
    have : 0 < c.length := List.length_pos_of_mem hx
    rw [List.length_cons]
    omega
/-- The pages where a range begins or ends. -/
def edges (l : List Rng) : List Nat := l.flatMap fun a => [(a.1 / 256).toNat, (a.2.1 / 256).toNat]
theorem edges_len : ∀ l, (edges l).length = 2 * l.length
  | [] => rfl
  | a :: l => by have := edges_len l; unfold edges at this ⊢; rw [List.flatMap_cons, List.length_append, this, List.length_cons]; simp; omega
theorem find_page : ∀ {l : List Rng} {i : Nat}, i ∉ edges l → ∀ (j k : Nat), j < 256 → k < 256 → findL l ((256 * i + j : Nat) : Int) = findL l ((256 * i + k : Nat) : Int)
  | [], _, _, _, _, _, _ => rfl
  | a :: l, i, h, j, k, hj, hk => by
    unfold edges at h
    rw [List.flatMap_cons] at h
    have h1 : i ≠ (a.1 / 256).toNat := fun e => h (by simp [← e])
    have h2 : i ≠ (a.2.1 / 256).toNat := fun e => h (by simp [← e])
    have h3 : i ∉ edges l := fun e => h (List.mem_append_right _ e)
    unfold findL
    rw [find_page h3 j k hj hk]
    have e1 : (a.1 ≤ ((256 * i + j : Nat) : Int)) ↔ (a.1 ≤ ((256 * i + k : Nat) : Int)) := by omega
    have e2 : (((256 * i + j : Nat) : Int) ≤ a.2.1) ↔ (((256 * i + k : Nat) : Int) ≤ a.2.1) := by omega
    simp only [e1, e2]
theorem row_page {l : List Rng} {i : Nat} (h : i ∉ edges l) : rowM l i = List.replicate 256 ((findL l ((256 * i : Nat) : Int)).getD 0) := by
  unfold rowM
  apply List.ext_getElem?
  intro k
  rw [List.getElem?_map, List.getElem?_replicate]
  rcases Nat.lt_or_ge k 256 with hk | hk
  · rw [List.getElem?_range hk, if_pos hk, Option.map_some, find_page h k 0 hk (by omega)]
    rfl
  · rw [if_neg (by omega), List.getElem?_eq_none (by rw [List.length_range]; omega)]
    rfl
theorem build_few {l : List Rng} (h : mapL l) (hl : l.length ≤ 20) : (buildT l).2.length ≤ 300 := by
  have hr := buildT_right h
  have ho := leastT_of ((List.range 4352).map (rowM l))
  change LeastOf _ (buildT l) at ho
  have := nodup_leA (c := (edges l).map (rowM l) ++ (List.range 32).map fun v => List.replicate 256 ((v : Nat) : Int)) ho.nodup fun b hb => by
    obtain ⟨i, _, rfl⟩ := List.mem_map.1 (ho.mem b hb)
    by_cases hi : i ∈ edges l
    · exact List.mem_append_left _ (List.mem_map_of_mem hi)
    · refine List.mem_append_right _ (List.mem_map.2 ?_)
      have hf := hr.2.2 _ hb
      rw [row_page hi] at hf ⊢
      obtain ⟨h0, h1⟩ := hf.1 ((findL l ((256 * i : Nat) : Int)).getD 0) (List.mem_replicate.2 ⟨by decide, rfl⟩)
      exact ⟨((findL l ((256 * i : Nat) : Int)).getD 0).toNat, List.mem_range.2 (by omega), by rw [Int.toNat_of_nonneg h0]⟩
  rw [List.length_append, List.length_map, List.length_map, List.length_range, edges_len] at this
  omega
/-- What few ranges build is fine, or an error is told. -/
theorem buildR_fine {A : List Rng} (h : A.length ≤ 20) : ((buildR A).2 = 0 ∧ fineT (buildR A).1) ∨ (buildR A = (([], []), 22)) := by
  by_cases hr : rightL A
  · have e : buildR A = (buildT A, 0) := by unfold buildR; rw [if_pos hr]
    have hf : fineT (buildT A) := And.intro (buildT_right hr.1) (build_few hr.1 h)
    obtain ⟨T, hT⟩ : ∃ T, buildT A = T := ⟨_, rfl⟩
    rw [hT] at e hf
    rw [e]
    exact .inl ⟨rfl, hf⟩
  · have e : buildR A = (([], []), 22) := by unfold buildR; rw [if_neg hr]
    rw [e]
    exact .inr rfl
end Go.Proofs.YtcnbcaljpgdcpaaDoor
