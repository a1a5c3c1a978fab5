/- Ranges of numbers, plainly: maps, what they say, tight ones, one over another one. -/
import Derived.Test.YtkhniogmogcjlaaDoorBase
namespace Go.Proofs.YtkhniogmogcjlaaDoor

/-- A range: its first number, its last one, its value. -/
abbrev Rng := Int × Int × Int
def okR (x : Rng) : Prop := 0 ≤ x.1 ∧ x.1 ≤ x.2.1 ∧ x.2.1 ≤ 1114111 ∧ 0 ≤ x.2.2 ∧ x.2.2 ≤ 31
instance okR_dec (x : Rng) : Decidable (okR x) := by unfold okR; infer_instance
/-- Right ranges that ascend. -/
def mapL (l : List Rng) : Prop := (∀ x ∈ l, okR x) ∧ l.Pairwise (fun x y => x.2.1 < y.1)
instance mapL_dec (l : List Rng) : Decidable (mapL l) := by unfold mapL; infer_instance
def findL : List Rng → Int → Option Int
  | [], _ => none
  | x :: l, r => if x.1 ≤ r ∧ r ≤ x.2.1 then some x.2.2 else findL l r
/-- No range begins right behind the one ahead with the same value. -/
def tightL (l : List Rng) : Prop := ∀ (i : Nat) (x y : Rng), l[i]? = some x → l[i + 1]? = some y → ¬ (x.2.1 + 1 = y.1 ∧ x.2.2 = y.2.2)
/-- What is said where the last one of the maps is the topmost. -/
def saidL : List (List Rng) → Int → Option Int
  | [], _ => none
  | a :: ls, r => (saidL ls r).or (findL a r)
def turnsOf (l : List Rng) : List Int := l.flatMap fun x => [x.1, x.2.1 + 1]
def turnsL (ls : List (List Rng)) : List Int := ls.flatMap turnsOf

theorem findL_some : ∀ {l : List Rng} {r v : Int}, findL l r = some v → ∃ x ∈ l, x.1 ≤ r ∧ r ≤ x.2.1 ∧ x.2.2 = v
  | [], r, v, h => by simp [findL] at h
  | x :: l, r, v, h => by
    unfold findL at h
    split at h
    · rename_i h1
      exact ⟨x, List.mem_cons_self, h1.1, h1.2, by simpa using h⟩
    · obtain ⟨y, hy, h2⟩ := findL_some h
      exact ⟨y, List.mem_cons_of_mem _ hy, h2⟩
theorem findL_none : ∀ {l : List Rng} {r : Int}, findL l r = none → ∀ x ∈ l, ¬ (x.1 ≤ r ∧ r ≤ x.2.1)
  | [], r, h, x, hx => by simp at hx
  | y :: l, r, h, x, hx => by
    unfold findL at h
    split at h
    · cases h
    · rename_i h1
      rcases List.mem_cons.1 hx with rfl | hx
      · exact h1
      · exact findL_none h x hx
theorem findL_none' : ∀ {l : List Rng} {r : Int}, (∀ x ∈ l, ¬ (x.1 ≤ r ∧ r ≤ x.2.1)) → findL l r = none
  | [], r, h => rfl
  | y :: l, r, h => by
    unfold findL
    rw [if_neg (h y List.mem_cons_self)]
    exact findL_none' fun x hx => h x (List.mem_cons_of_mem _ hx)
theorem findL_append : ∀ (a b : List Rng) (r : Int), findL (a ++ b) r = (findL a r).or (findL b r)
  | [], b, r => by simp [findL]
  | x :: a, b, r => by
    rw [List.cons_append, findL, findL]
    split
    · rfl
    · exact findL_append a b r
theorem mapL_tail {x : Rng} {l : List Rng} (h : mapL (x :: l)) : mapL l ∧ okR x ∧ ∀ y ∈ l, x.2.1 < y.1 :=
  ⟨⟨fun y hy => h.1 y (List.mem_cons_of_mem _ hy), (List.pairwise_cons.1 h.2).2⟩, h.1 x List.mem_cons_self, (List.pairwise_cons.1 h.2).1⟩
theorem tightL_tail {x : Rng} {l : List Rng} (h : tightL (x :: l)) : tightL l := fun i a b ha hb => h (i + 1) a b (by simpa using ha) (by simpa using hb)
/-- Of a map one range alone has a number. -/
theorem find_mem : ∀ {l : List Rng} {x : Rng} {r : Int}, mapL l → x ∈ l → x.1 ≤ r → r ≤ x.2.1 → findL l r = some x.2.2
  | y :: l, x, r, h, hx, h1, h2 => by
    obtain ⟨hl, hy, hlt⟩ := mapL_tail h
    unfold findL
    rcases List.mem_cons.1 hx with rfl | hx
    · rw [if_pos ⟨h1, h2⟩]
    · have := hlt x hx
      rw [if_neg (by omega)]
      exact find_mem hl hx h1 h2
/-- Tight maps that say the same are the same. -/
theorem tight_unique : ∀ (a b : List Rng), mapL a → mapL b → tightL a → tightL b → (∀ r, findL a r = findL b r) → a = b
  | [], [], _, _, _, _, _ => rfl
  | [], y :: b, _, hb, _, _, h => by
    have h1 := h y.1
    have hy := (mapL_tail hb).2.1
    unfold okR at hy
    rw [find_mem hb List.mem_cons_self (by omega) (by omega)] at h1
    cases h1
  | x :: a, [], ha, _, _, _, h => by
    have h1 := h x.1
    have hx := (mapL_tail ha).2.1
    unfold okR at hx
    rw [find_mem ha List.mem_cons_self (by omega) (by omega)] at h1
    cases h1
  | x :: a, y :: b, ha, hb, ta, tb, h => by
    obtain ⟨ha', hx, hxa⟩ := mapL_tail ha
    obtain ⟨hb', hy, hyb⟩ := mapL_tail hb
    unfold okR at hx hy
    have low : ∀ {x : Rng} {a : List Rng}, mapL (x :: a) → ∀ r v, findL (x :: a) r = some v → x.1 ≤ r := by
      intro x a ha r v hv
      obtain ⟨z, hz, h1, h2, _⟩ := findL_some hv
      obtain ⟨_, hx, hxa⟩ := mapL_tail ha
      unfold okR at hx
      rcases List.mem_cons.1 hz with rfl | hz
      · exact h1
      · have := hxa z hz; omega
    have fx := find_mem ha List.mem_cons_self (r := x.1) (by omega) (by omega)
    have fy := find_mem hb List.mem_cons_self (r := y.1) (by omega) (by omega)
    have e1 := low hb _ _ ((h x.1).symm.trans fx)
    have e2 := low ha _ _ ((h y.1).trans fy)
    have e : x.1 = y.1 := by omega
    have ev : x.2.2 = y.2.2 := by
      have := (h x.1).symm.trans fx
      rw [e, fy] at this
      exact (Option.some.inj this).symm
    have end_le : ∀ {x y : Rng} {a b : List Rng}, mapL (x :: a) → mapL (y :: b) → tightL (x :: a) → (∀ r, findL (x :: a) r = findL (y :: b) r) → x.1 = y.1 → x.2.2 = y.2.2 → y.2.1 ≤ x.2.1 := by
      intro x y a b ha hb ta h e ev
      obtain ⟨ha', hx, hxa⟩ := mapL_tail ha
      obtain ⟨hb', hy, hyb⟩ := mapL_tail hb
      unfold okR at hx hy
      rcases Int.lt_or_le x.2.1 y.2.1 with hlt | hle
      · exfalso
        have f1 := h (x.2.1 + 1)
        rw [find_mem hb List.mem_cons_self (by omega) (by omega)] at f1
        obtain ⟨z, hz, z1, z2, z3⟩ := findL_some f1
        rcases List.mem_cons.1 hz with rfl | hz
        · omega
        · cases a with
          | nil => simp at hz
          | cons q a' =>
            have hq := hxa q List.mem_cons_self
            have hzq : q.1 ≤ z.1 := by
              rcases List.mem_cons.1 hz with rfl | hz'
              · omega
              · have h1 := (mapL_tail ha').2.2 z hz'
                have h2 := (mapL_tail ha').2.1
                unfold okR at h2
                omega
            have fq := find_mem ha' List.mem_cons_self (r := q.1) (by have h2 := (mapL_tail ha').2.1; unfold okR at h2; omega) (by have h2 := (mapL_tail ha').2.1; unfold okR at h2; omega)
            have hq1 : q.1 = x.2.1 + 1 := by omega
            have fq2 : findL (x :: q :: a') (x.2.1 + 1) = some q.2.2 := by
              unfold findL
              rw [if_neg (by omega), ← hq1]
              exact fq
            rw [f1] at fq2
            exact ta 0 x q rfl rfl ⟨by omega, by rw [ev]; exact Option.some.inj fq2⟩
      · exact hle
    have et : x.2.1 = y.2.1 := Int.le_antisymm (end_le hb ha tb (fun r => (h r).symm) e.symm ev.symm) (end_le ha hb ta h e ev)
    have exy : x = y := Prod.ext e (Prod.ext et ev)
    subst exy
    rw [tight_unique a b ha' hb' (tightL_tail ta) (tightL_tail tb) fun r => ?_]
    rcases Int.lt_or_le x.2.1 r with hr | hr
    · have := h r
      unfold findL at this
      rwa [if_neg (by omega), if_neg (by omega)] at this
    · rw [findL_none' (fun z hz => by have := hxa z hz; omega), findL_none' (fun z hz => by have := hyb z hz; omega)]

theorem saidL_some : ∀ {ls : List (List Rng)} {r v : Int}, saidL ls r = some v → ∃ a ∈ ls, ∃ x ∈ a, x.1 ≤ r ∧ r ≤ x.2.1 ∧ x.2.2 = v
  | [], r, v, h => by simp [saidL] at h
  | a :: ls, r, v, h => by
    unfold saidL at h
    cases hs : saidL ls r with
    | some u =>
      rw [hs] at h
      obtain ⟨b, hb, h2⟩ := saidL_some (hs.trans h)
      exact ⟨b, List.mem_cons_of_mem _ hb, h2⟩
    | none =>
      rw [hs] at h
      obtain ⟨x, hx, h2⟩ := findL_some (by simpa using h)
      exact ⟨a, List.mem_cons_self, x, hx, h2⟩
theorem findL_same : ∀ {l : List Rng} {p r : Int}, p ≤ r → (∀ t ∈ turnsOf l, ¬ (p < t ∧ t ≤ r)) → findL l r = findL l p
  | [], p, r, _, _ => rfl
  | x :: l, p, r, hpr, h => by
    have h1 := h x.1 (by simp [turnsOf])
    have h2 := h (x.2.1 + 1) (by simp [turnsOf])
    have ih := findL_same (l := l) hpr fun t ht => h t (by unfold turnsOf at ht ⊢; rw [List.flatMap_cons]; exact List.mem_append_right _ ht)
    unfold findL
    rw [ih]
    by_cases hp : x.1 ≤ p ∧ p ≤ x.2.1
    · rw [if_pos hp, if_pos (by omega)]
    · rw [if_neg hp, if_neg (by omega)]
theorem saidL_same : ∀ {ls : List (List Rng)} {p r : Int}, p ≤ r → (∀ t ∈ turnsL ls, ¬ (p < t ∧ t ≤ r)) → saidL ls r = saidL ls p
  | [], p, r, _, _ => rfl
  | a :: ls, p, r, hpr, h => by
    unfold saidL
    rw [saidL_same hpr fun t ht => h t (by unfold turnsL at ht ⊢; rw [List.flatMap_cons]; exact List.mem_append_right _ ht),
      findL_same hpr fun t ht => h t (by unfold turnsL; rw [List.flatMap_cons]; exact List.mem_append_left _ ht)]
theorem turn_of {ls : List (List Rng)} {a : List Rng} {x : Rng} (ha : a ∈ ls) (hx : x ∈ a) : x.1 ∈ turnsL ls ∧ x.2.1 + 1 ∈ turnsL ls := by
  constructor
  · exact List.mem_flatMap.2 ⟨a, ha, List.mem_flatMap.2 ⟨x, hx, by simp⟩⟩
  · exact List.mem_flatMap.2 ⟨a, ha, List.mem_flatMap.2 ⟨x, hx, by simp⟩⟩
theorem turnsOf_length : ∀ l : List Rng, (turnsOf l).length = 2 * l.length
  | [] => rfl
  | x :: l => by
    have := turnsOf_length l
    unfold turnsOf at this ⊢
    rw [List.flatMap_cons, List.length_append, this]
    simp
    omega

/-- A range behind a tight map. -/
def joinL (m : List Rng) (x : Rng) : List Rng := match m.getLast? with
  | some y => if y.2.1 + 1 = x.1 ∧ y.2.2 = x.2.2 then m.dropLast ++ [(y.1, x.2.1, y.2.2)] else m ++ [x]
  | none => m ++ [x]
/-- What has been laid of the numbers below p. -/
def LayUpto (ls : List (List Rng)) (m : List Rng) (p : Int) : Prop := mapL m ∧ tightL m ∧ (∀ x ∈ m, x.2.1 < p) ∧ ∀ r, findL m r = if r < p then saidL ls r else none
def layStep (ls : List (List Rng)) (p q : Int) (m : List Rng) : List Rng := match saidL ls p with
  | some v => joinL m (p, q - 1, v)
  | none => m
theorem joinL_length (m : List Rng) (x : Rng) : (joinL m x).length ≤ m.length + 1 := by
  unfold joinL
  split
  · split
    · rw [List.length_append, List.length_dropLast, List.length_singleton]; omega
    · simp
  · simp
theorem getLast_split {α : Type} {m : List α} {y : α} (h : m.getLast? = some y) : m = m.dropLast ++ [y] := by
  cases m with
  | nil => simp at h
  | cons a t =>
    rw [List.getLast?_eq_some_getLast (by simp)] at h
    rw [← Option.some.inj h]
    exact (List.dropLast_concat_getLast (by simp)).symm
theorem mapL_snoc {m : List Rng} {x : Rng} : mapL (m ++ [x]) ↔ mapL m ∧ okR x ∧ ∀ y ∈ m, y.2.1 < x.1 := by
  unfold mapL
  rw [List.pairwise_append]
  constructor
  · rintro ⟨h1, h2, _, h3⟩
    exact ⟨⟨fun y hy => h1 y (List.mem_append_left _ hy), h2⟩, h1 x (List.mem_append_right _ (List.mem_singleton.2 rfl)), fun y hy => h3 y hy x (List.mem_singleton.2 rfl)⟩
  · rintro ⟨⟨h1, h2⟩, h3, h4⟩
    refine ⟨fun y hy => ?_, h2, List.pairwise_singleton _ _, fun a ha b hb => ?_⟩
    · rcases List.mem_append.1 hy with h | h
      · exact h1 y h
      · rw [List.mem_singleton.1 h]; exact h3
    · rw [List.mem_singleton.1 hb]; exact h4 a ha
theorem tightL_snoc {m : List Rng} {x : Rng} (h : tightL m) (hl : ∀ y, m.getLast? = some y → ¬ (y.2.1 + 1 = x.1 ∧ y.2.2 = x.2.2)) : tightL (m ++ [x]) := by
  intro i a b ha hb
  rcases Nat.lt_or_ge (i + 1) m.length with hi | hi
  · rw [List.getElem?_append_left hi] at hb
    rw [List.getElem?_append_left (by omega)] at ha
    exact h i a b ha hb
  · have hlt := (List.getElem?_eq_some_iff.1 hb).1
    simp at hlt
    have hi2 : i + 1 = m.length := by omega
    rw [List.getElem?_append_left (by omega)] at ha
    rw [List.getElem?_append_right (by omega), hi2] at hb
    simp at hb
    rw [← hb]
    refine hl a ?_
    rw [List.getLast?_eq_getElem?, ← hi2]
    exact ha
theorem tightL_init {m : List Rng} {x : Rng} (h : tightL (m ++ [x])) : tightL m ∧ ∀ y, m.getLast? = some y → ¬ (y.2.1 + 1 = x.1 ∧ y.2.2 = x.2.2) := by
  refine ⟨fun i a b ha hb => ?_, fun y hy => ?_⟩
  · have h1 := (List.getElem?_eq_some_iff.1 ha).1
    have h2 := (List.getElem?_eq_some_iff.1 hb).1
    exact h i a b (by rw [List.getElem?_append_left h1]; exact ha) (by rw [List.getElem?_append_left h2]; exact hb)
  · rw [List.getLast?_eq_getElem?] at hy
    have h1 := (List.getElem?_eq_some_iff.1 hy).1
    refine h (m.length - 1) y x (by rw [List.getElem?_append_left h1]; exact hy) ?_
    rw [List.getElem?_append_right (by omega), show m.length - 1 + 1 - m.length = 0 from by omega]
    rfl
theorem LayUpto.step {ls : List (List Rng)} {m : List Rng} {p q : Int} (h : LayUpto ls m p) (hls : ∀ a ∈ ls, ∀ x ∈ a, okR x) (hpq : p < q) (ht : ∀ t ∈ turnsL ls, ¬ (p < t ∧ t < q)) : LayUpto ls (layStep ls p q m) q := by
  obtain ⟨hm, htm, hlt, hf⟩ := h
  have same : ∀ r, p ≤ r → r < q → saidL ls r = saidL ls p := fun r h1 h2 => saidL_same h1 fun t htt hh => ht t htt ⟨hh.1, by omega⟩
  unfold layStep
  cases hs : saidL ls p with
  | none =>
    refine ⟨hm, htm, fun x hx => by have := hlt x hx; omega, fun r => ?_⟩
    rw [hf r]
    by_cases h1 : r < p
    · rw [if_pos h1, if_pos (by omega)]
    · rw [if_neg h1]
      by_cases h2 : r < q
      · rw [if_pos h2, same r (by omega) h2, hs]
      · rw [if_neg h2]
  | some v =>
    have hok : okR (p, q - 1, v) := by
      obtain ⟨a, ha, x, hx, h1, _, h3⟩ := saidL_some hs
      obtain ⟨b, hb, y, hy, _, h5, _⟩ := saidL_some ((same (q - 1) (by omega) (by omega)).trans hs)
      have o1 := hls a ha x hx
      have o2 := hls b hb y hy
      unfold okR at o1 o2 ⊢
      refine ⟨?_, ?_, ?_, ?_, ?_⟩ <;> simp only <;> omega
    have hnew : LayUpto ls (m ++ [(p, q - 1, v)]) q ∨ ∃ y, m.getLast? = some y ∧ (y.2.1 + 1 = p ∧ y.2.2 = v) := by
      by_cases hy : ∃ y, m.getLast? = some y ∧ (y.2.1 + 1 = p ∧ y.2.2 = v)
      · exact .inr hy
      · refine .inl ⟨mapL_snoc.2 ⟨hm, hok, hlt⟩, tightL_snoc htm fun y h1 h2 => hy ⟨y, h1, h2⟩, fun x hx => ?_, fun r => ?_⟩
        · rcases List.mem_append.1 hx with h1 | h1
          · have := hlt x h1; omega
          · rw [List.mem_singleton.1 h1]; show q - 1 < q; omega
        · rw [findL_append, hf r]
          by_cases h1 : r < p
          · rw [if_pos h1, if_pos (by omega)]
            have : findL [(p, q - 1, v)] r = none := findL_none' fun x hx => by rw [List.mem_singleton.1 hx]; show ¬ (p ≤ r ∧ _); omega
            rw [this]; simp
          · rw [if_neg h1]
            show findL [(p, q - 1, v)] r = _
            unfold findL
            by_cases h2 : r < q
            · rw [if_pos h2, if_pos (show p ≤ r ∧ r ≤ q - 1 by omega), same r (by omega) h2, hs]
            · rw [if_neg h2, if_neg (show ¬ (p ≤ r ∧ r ≤ q - 1) by omega)]; rfl
    show LayUpto ls (joinL m (p, q - 1, v)) q
    rcases hnew with hnew | ⟨y, hy, hyp, hyv⟩
    · unfold joinL
      split
      · rename_i y hy
        by_cases hc : y.2.1 + 1 = p ∧ y.2.2 = v
        · rw [if_pos hc]
          have hmm := getLast_split hy
          rw [hmm, mapL_snoc] at hm
          rw [hmm] at htm
          obtain ⟨i1, i2⟩ := tightL_init htm
          obtain ⟨n1, n2, n3⟩ := hnew
          exfalso
          have : tightL (m ++ [(p, q - 1, v)]) := n2
          have hl := (tightL_init this).2 y hy
          exact hl hc
        · rw [if_neg hc]
          exact hnew
      · exact hnew
    · unfold joinL
      rw [hy]
      simp only
      rw [if_pos ⟨hyp, hyv⟩]
      have hmm := getLast_split hy
      have hm' := hm
      have htm' := htm
      rw [hmm] at hm' htm'
      rw [mapL_snoc] at hm'
      obtain ⟨g1, g2, g3⟩ := hm'
      obtain ⟨i1, i2⟩ := tightL_init htm'
      have hyo : okR (y.1, q - 1, y.2.2) := by
        unfold okR at hok g2 ⊢
        simp only at hok ⊢
        omega
      refine ⟨mapL_snoc.2 ⟨g1, hyo, g3⟩, tightL_snoc i1 i2, fun x hx => ?_, fun r => ?_⟩
      · rcases List.mem_append.1 hx with h1 | h1
        · have := hlt x (by rw [hmm]; exact List.mem_append_left _ h1); omega
        · rw [List.mem_singleton.1 h1]; show q - 1 < q; omega
      · have hfr := hf r
        rw [hmm, findL_append] at hfr
        rw [findL_append]
        have hyok := g2
        unfold okR at hyok
        have e1 : findL [y] r = if y.1 ≤ r ∧ r ≤ y.2.1 then some y.2.2 else none := rfl
        have e2 : findL [(y.1, q - 1, y.2.2)] r = if y.1 ≤ r ∧ r ≤ q - 1 then some y.2.2 else none := rfl
        rw [e1] at hfr
        rw [e2]
        by_cases h1 : r < p
        · rw [if_pos h1] at hfr
          rw [if_pos (show r < q by omega), ← hfr]
          by_cases h2 : y.1 ≤ r
          · rw [if_pos (show y.1 ≤ r ∧ r ≤ q - 1 from ⟨h2, by omega⟩), if_pos (show y.1 ≤ r ∧ r ≤ y.2.1 from ⟨h2, by omega⟩)]
          · rw [if_neg (show ¬ (y.1 ≤ r ∧ r ≤ q - 1) by omega), if_neg (show ¬ (y.1 ≤ r ∧ r ≤ y.2.1) by omega)]
        · rw [if_neg h1, if_neg (show ¬ (y.1 ≤ r ∧ r ≤ y.2.1) by omega)] at hfr
          have hn : findL m.dropLast r = none := by simpa using hfr
          rw [hn]
          by_cases h2 : r < q
          · rw [if_pos (show y.1 ≤ r ∧ r ≤ q - 1 by omega), if_pos h2, same r (by omega) h2, hs, hyv]; rfl
          · rw [if_neg (show ¬ (y.1 ≤ r ∧ r ≤ q - 1) by omega), if_neg h2]; rfl
/-- The tight map of maps, the last one the topmost. -/
def isLay (ls : List (List Rng)) (m : List Rng) : Prop := mapL m ∧ tightL m ∧ ∀ r, findL m r = saidL ls r
theorem isLay_unique {ls : List (List Rng)} {m n : List Rng} (h : isLay ls m) (k : isLay ls n) : m = n := tight_unique m n h.1 k.1 h.2.1 k.2.1 fun r => (h.2.2 r).trans (k.2.2 r).symm
/-- What has been laid up to the last place is all. -/
theorem LayUpto.all {ls : List (List Rng)} {m : List Rng} {p : Int} (h : LayUpto ls m p) (hp : ∀ t ∈ turnsL ls, t ≤ p) : isLay ls m := by
  refine ⟨h.1, h.2.1, fun r => ?_⟩
  rw [h.2.2.2 r]
  by_cases hr : r < p
  · rw [if_pos hr]
  · rw [if_neg hr]
    cases hs : saidL ls r with
    | none => rfl
    | some v =>
      obtain ⟨a, ha, x, hx, h1, h2, _⟩ := saidL_some hs
      have := hp _ (turn_of ha hx).2
      omega
theorem LayUpto.none {ls : List (List Rng)} {p : Int} (hp : ∀ t ∈ turnsL ls, p ≤ t) : LayUpto ls [] p := by
  refine ⟨⟨fun x hx => by simp at hx, List.Pairwise.nil⟩, fun i x y hx => by simp at hx, fun x hx => by simp at hx, fun r => ?_⟩
  by_cases hr : r < p
  · rw [if_pos hr]
    cases hs : saidL ls r with
    | none => rfl
    | some v =>
      obtain ⟨a, ha, x, hx, h1, h2, _⟩ := saidL_some hs
      have := hp _ (turn_of ha hx).1
      omega
  · rw [if_neg hr]; rfl
end Go.Proofs.YtkhniogmogcjlaaDoor
