/- Plain laws for the document's own Tight and Over: what is laid range by range, stretch by stretch. -/
import Derived.Test.YtkhniogmogcjlaaDoorNLawMath
namespace Go.Proofs.YtkhniogmogcjlaaDoor

theorem isLay_nil (ls : List (List Rng)) (h : ∀ r, saidL ls r = none) : isLay ls [] := ⟨⟨fun x hx => by simp at hx, List.Pairwise.nil⟩, fun i x y hx => by simp at hx, fun r => (h r).symm⟩
/-- One range more, behind a map that has been laid. -/
theorem tight_snoc {a m : List Rng} {x : Rng} (h : isLay [a] m) (hm : mapL (a ++ [x])) : isLay [a ++ [x]] (joinL m x) := by
  obtain ⟨ha, hx, hlt⟩ := mapL_snoc.1 hm
  have hx' := hx
  unfold okR at hx
  have hsaid : ∀ r, saidL [a ++ [x]] r = (findL a r).or (findL [x] r) := fun r => by
    simp only [saidL, Option.none_or, findL_append]
  have hf : ∀ r, findL m r = findL a r := fun r => lay_says1 h r
  have key : LayUpto [a ++ [x]] m x.1 := by
    refine ⟨h.1, h.2.1, fun y hy => ?_, fun r => ?_⟩
    · have hyo := h.1.1 y hy
      unfold okR at hyo
      have h1 := find_mem h.1 hy (r := y.2.1) (by omega) (Int.le_refl _)
      rw [hf] at h1
      obtain ⟨z, hz, _, h3, _⟩ := findL_some h1
      have := hlt z hz
      omega
    · rw [hf, hsaid]
      by_cases hr : r < x.1
      · rw [if_pos hr, findL_none' (l := [x]) (fun z hz => by rw [List.mem_singleton.1 hz]; omega)]
        simp
      · rw [if_neg hr]
        exact findL_none' fun z hz => by have := hlt z hz; omega
  have hs : saidL [a ++ [x]] x.1 = some x.2.2 := by
    rw [hsaid, findL_none' (l := a) (fun z hz => by have := hlt z hz; omega)]
    show findL [x] x.1 = _
    unfold findL
    rw [if_pos ⟨Int.le_refl _, by omega⟩]
  have hmem : ∀ t ∈ turnsL [a ++ [x]], t ≤ x.1 ∨ t = x.2.1 + 1 := by
    intro t ht
    unfold turnsL turnsOf at ht
    simp only [List.flatMap_cons, List.flatMap_nil, List.append_nil, List.flatMap_append, List.mem_append, List.mem_flatMap, List.mem_cons, List.not_mem_nil, or_false] at ht
    rcases ht with ⟨z, hz, h1⟩ | h1
    · have h2 := hlt z hz
      have h3 := ha.1 z hz
      unfold okR at h3
      omega
    · omega
  have h2 := key.step (q := x.2.1 + 1) (fun b hb y hy => by rw [List.mem_singleton.1 hb] at hy; exact hm.1 y hy) (by omega) (fun t ht => by have := hmem t ht; omega)
  unfold layStep at h2
  rw [hs] at h2
  simp only [Int.add_sub_cancel] at h2
  exact h2.all fun t ht => by have := hmem t ht; omega
theorem joinL_le (m : List Rng) (x : Rng) (n : Nat) (h : m.length ≤ n) : (joinL m x).length ≤ n + 1 := by
  have := joinL_length m x
  omega

/-- The last number up to which nothing turns. -/
def nextStep (r n : Int) (x : Rng) : Int :=
  let n1 := if r < x.1 then min n (x.1 - 1) else n
  if r ≤ x.2.1 then min n1 x.2.1 else n1
def nextL (l : List Rng) (r : Int) : Int := l.foldl (nextStep r) 1114111
theorem nextStep_le (r n : Int) (x : Rng) : nextStep r n x ≤ n := by
  unfold nextStep
  simp only
  split <;> split <;> omega
theorem next_spec (r : Int) : ∀ (l : List Rng) (n : Int), let q := l.foldl (nextStep r) n
    q ≤ n ∧ (∀ x ∈ l, (r < x.1 → q ≤ x.1 - 1) ∧ (r ≤ x.2.1 → q ≤ x.2.1)) ∧ (q = n ∨ ∃ x ∈ l, (r < x.1 ∧ q = x.1 - 1) ∨ (r ≤ x.2.1 ∧ q = x.2.1))
  | [], n => ⟨Int.le_refl _, fun x hx => by simp at hx, .inl rfl⟩
  | y :: l, n => by
    obtain ⟨h1, h2, h3⟩ := next_spec r l (nextStep r n y)
    have hle := nextStep_le r n y
    have hy : (r < y.1 → nextStep r n y ≤ y.1 - 1) ∧ (r ≤ y.2.1 → nextStep r n y ≤ y.2.1) ∧ (nextStep r n y = n ∨ (r < y.1 ∧ nextStep r n y = y.1 - 1) ∨ (r ≤ y.2.1 ∧ nextStep r n y = y.2.1)) := by
      unfold nextStep
      simp only
      split <;> split <;> omega
    simp only [List.foldl_cons]
    refine ⟨by omega, fun x hx => ?_, ?_⟩
    · rcases List.mem_cons.1 hx with rfl | hx
      · exact ⟨fun h => by have := hy.1 h; omega, fun h => by have := hy.2.1 h; omega⟩
      · exact h2 x hx
    · rcases h3 with h3 | ⟨x, hx, h3⟩
      · rcases hy.2.2 with h4 | h4
        · exact .inl (h3.trans h4)
        · exact .inr ⟨y, List.mem_cons_self, by rw [h3]; exact h4⟩
      · exact .inr ⟨x, List.mem_cons_of_mem _ hx, h3⟩
/-- What Over's round needs of it. -/
theorem next_turn {a b : List Rng} {r : Int} (ha : mapL a) (hb : mapL b) (h0 : 0 ≤ r) (hr : r ≤ 1114111) :
    r ≤ nextL (a ++ b) r ∧ nextL (a ++ b) r ≤ 1114111 ∧ (∀ t ∈ turnsL [a, b], ¬ (r < t ∧ t < nextL (a ++ b) r + 1)) ∧ (∀ v, saidL [a, b] r = some v → nextL (a ++ b) r + 1 ∈ turnsL [a, b]) := by
  have hok : ∀ x ∈ a ++ b, okR x := fun x hx => by
    rcases List.mem_append.1 hx with h | h
    · exact ha.1 x h
    · exact hb.1 x h
  have ht : ∀ t, t ∈ turnsL [a, b] ↔ ∃ x ∈ a ++ b, t = x.1 ∨ t = x.2.1 + 1 := fun t => by
    unfold turnsL turnsOf
    simp only [List.flatMap_cons, List.flatMap_nil, List.append_nil, List.mem_append, List.mem_flatMap, List.mem_cons, List.not_mem_nil, or_false]
    constructor
    · rintro (⟨x, hx, h⟩ | ⟨x, hx, h⟩)
      · exact ⟨x, .inl hx, h⟩
      · exact ⟨x, .inr hx, h⟩
    · rintro ⟨x, hx | hx, h⟩
      · exact .inl ⟨x, hx, h⟩
      · exact .inr ⟨x, hx, h⟩
  obtain ⟨h1, h2, h3⟩ := next_spec r (a ++ b) 1114111
  change nextL (a ++ b) r ≤ 1114111 at h1
  change ∀ x ∈ a ++ b, (r < x.1 → nextL (a ++ b) r ≤ x.1 - 1) ∧ (r ≤ x.2.1 → nextL (a ++ b) r ≤ x.2.1) at h2
  change nextL (a ++ b) r = 1114111 ∨ ∃ x ∈ a ++ b, (r < x.1 ∧ nextL (a ++ b) r = x.1 - 1) ∨ (r ≤ x.2.1 ∧ nextL (a ++ b) r = x.2.1) at h3
  refine ⟨?_, h1, ?_, ?_⟩
  · rcases h3 with h | ⟨x, hx, h⟩ <;> omega
  · rintro t htm ⟨h4, h5⟩
    obtain ⟨x, hx, rfl | rfl⟩ := (ht t).1 htm
    · have := (h2 x hx).1 h4; omega
    · have := (h2 x hx).2 (by omega); omega
  · intro v hv
    obtain ⟨l, hl, x, hx, k1, k2, _⟩ := saidL_some hv
    have hxm : x ∈ a ++ b := by
      rcases List.mem_cons.1 hl with rfl | hl
      · exact List.mem_append_left _ hx
      · rw [List.mem_singleton.1 hl] at hx; exact List.mem_append_right _ hx
    have hxo := hok x hxm
    unfold okR at hxo
    have h6 := (h2 x hxm).2 k2
    rw [ht]
    rcases h3 with h | ⟨y, hy, h | h⟩
    · exact ⟨x, hxm, .inr (by omega)⟩
    · exact ⟨y, hy, .inl (by omega)⟩
    · exact ⟨y, hy, .inr (by omega)⟩
/-- How many turns lie at r or below it. -/
def below (ls : List (List Rng)) (r : Int) : Nat := (turnsL ls).countP fun t => decide (t ≤ r)
theorem below_le (ls : List (List Rng)) (r : Int) : below ls r ≤ (turnsL ls).length := List.countP_le_length
theorem below_mono (ls : List (List Rng)) {r q : Int} (h : r ≤ q) : below ls r ≤ below ls q := by
  unfold below
  exact List.countP_mono_left fun t _ h1 => by simp only [decide_eq_true_eq] at h1 ⊢; omega
theorem countP_more {T : List Int} {r q : Int} (h : r < q) (hq : q ∈ T) : T.countP (fun t => decide (t ≤ r)) + 1 ≤ T.countP (fun t => decide (t ≤ q)) := by
  induction T with
  | nil => simp at hq
  | cons t T ih =>
    have hm : T.countP (fun t => decide (t ≤ r)) ≤ T.countP (fun t => decide (t ≤ q)) := List.countP_mono_left fun t _ h1 => by simp only [decide_eq_true_eq] at h1 ⊢; omega
    rw [List.countP_cons, List.countP_cons]
    rcases List.mem_cons.1 hq with rfl | hq
    · rw [if_neg (by simp; omega), if_pos (by simp)]; omega
    · have := ih hq
      by_cases h1 : t ≤ r
      · rw [if_pos (by simpa using h1), if_pos (by simp; omega)]; omega
      · rw [if_neg (by simpa using h1)]; omega
theorem below_more {ls : List (List Rng)} {r q : Int} (h : r < q) (hq : q ∈ turnsL ls) : below ls r + 1 ≤ below ls q := countP_more h hq
/-- What holds between two rounds of Over. -/
structure OverAt (a b : List Rng) (m : List Rng) (r : Int) : Prop where
  upto : LayUpto [a, b] m r
  len : m.length ≤ below [a, b] r
  pos : 0 ≤ r
  le : r ≤ 1114112
theorem OverAt.begin {a b : List Rng} (ha : mapL a) (hb : mapL b) : OverAt a b [] 0 := by
  refine ⟨LayUpto.none fun t ht => ?_, Nat.zero_le _, Int.le_refl _, by omega⟩
  unfold turnsL turnsOf at ht
  simp only [List.flatMap_cons, List.flatMap_nil, List.append_nil, List.mem_append, List.mem_flatMap, List.mem_cons, List.not_mem_nil, or_false] at ht
  rcases ht with ⟨x, hx, h⟩ | ⟨x, hx, h⟩
  · have := ha.1 x hx; unfold okR at this; omega
  · have := hb.1 x hx; unfold okR at this; omega
theorem OverAt.next {a b m : List Rng} {r : Int} (h : OverAt a b m r) (ha : mapL a) (hb : mapL b) (hr : r ≤ 1114111) :
    OverAt a b (layStep [a, b] r (nextL (a ++ b) r + 1) m) (nextL (a ++ b) r + 1) := by
  obtain ⟨n1, n2, n3, n4⟩ := next_turn (r := r) ha hb h.pos hr
  have hp := h.pos
  refine ⟨h.upto.step (fun l hl x hx => ?_) (by omega) n3, ?_, by omega, by omega⟩
  · rcases List.mem_cons.1 hl with rfl | hl
    · exact ha.1 x hx
    · rw [List.mem_singleton.1 hl] at hx; exact hb.1 x hx
  · have hl := h.len
    unfold layStep
    cases hs : saidL [a, b] r with
    | none => exact Nat.le_trans hl (below_mono _ (by omega))
    | some v =>
      have h1 := joinL_length m (r, nextL (a ++ b) r + 1 - 1, v)
      have h2 := below_more (ls := [a, b]) (r := r) (by omega) (n4 v hs)
      simp only
      omega
theorem OverAt.all {a b m : List Rng} {r : Int} (h : OverAt a b m r) (ha : mapL a) (hb : mapL b) (hr : 1114111 < r) : isLay [a, b] m ∧ m.length ≤ (turnsL [a, b]).length := by
  refine ⟨h.upto.all fun t ht => ?_, Nat.le_trans h.len (below_le _ _)⟩
  unfold turnsL turnsOf at ht
  simp only [List.flatMap_cons, List.flatMap_nil, List.append_nil, List.mem_append, List.mem_flatMap, List.mem_cons, List.not_mem_nil, or_false] at ht
  rcases ht with ⟨x, hx, h⟩ | ⟨x, hx, h⟩
  · have := ha.1 x hx; unfold okR at this; omega
  · have := hb.1 x hx; unfold okR at this; omega
end Go.Proofs.YtkhniogmogcjlaaDoor
