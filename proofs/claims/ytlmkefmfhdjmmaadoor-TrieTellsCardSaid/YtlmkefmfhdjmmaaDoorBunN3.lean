/- Ranges of numbers, plainly: maps, what they say, tight ones, one over another one. Ranges in memory; the iterator that goes through them. find: what the first range says that has a number. errors.As at a pointer to a fault; told. -/
import Derived.Test.YtlmkefmfhdjmmaaDoorBunA1
import Derived.Test.YtlmkefmfhdjmmaaDoorProg
import Derived.Stop.Asserts
import Derived.RowKitTokens
import Derived.LaidEql
namespace Go.Proofs.YtlmkefmfhdjmmaaDoor

/-- A range: its first number, its last one, its value. -/
abbrev Rng := Int × Int × Int
def okR (x : Rng) : Prop := 0 ≤ x.1 ∧ x.1 ≤ x.2.1 ∧ x.2.1 ≤ 1114111 ∧ 0 ≤ x.2.2 ∧ x.2.2 ≤ 31
instance okR_dec (x : Rng) : Decidable (okR x) := by unfold okR; infer_instance
/-- Right ranges that ascend. -/
def mapL (l : List Rng) : Prop := (∀ x ∈ l, okR x) ∧ l.Pairwise (fun x y => x.2.1 < y.1)
instance mapL_dec (l : List Rng) : Decidable (mapL l) := by unfold mapL; infer_instance
def findL : List Rng → Int → Option Int
  | [], _ => none
  | x :: l, r => if x.1 ≤ r ∧ r ≤ x.2.1 then some x.2.2 else findL l r
/-- No range begins right behind the one ahead with the same value. -/
def tightL (l : List Rng) : Prop := ∀ (i : Nat) (x y : Rng), l[i]? = some x → l[i + 1]? = some y → ¬ (x.2.1 + 1 = y.1 ∧ x.2.2 = y.2.2)
/-- What is said where the last one of the maps is the topmost. -/
def saidL : List (List Rng) → Int → Option Int
  | [], _ => none
  | a :: ls, r => (saidL ls r).or (findL a r)
def turnsOf (l : List Rng) : List Int := l.flatMap fun x => [x.1, x.2.1 + 1]
def turnsL (ls : List (List Rng)) : List Int := ls.flatMap turnsOf

theorem findL_some : ∀ {l : List Rng} {r v : Int}, findL l r = some v → ∃ x ∈ l, x.1 ≤ r ∧ r ≤ x.2.1 ∧ x.2.2 = v
  | [], r, v, h => by simp [findL] at h
  | x :: l, r, v, h => by
    unfold findL at h
    split at h
    · rename_i h1
      exact ⟨x, List.mem_cons_self, h1.1, h1.2, by simpa using h⟩
    · obtain ⟨y, hy, h2⟩ := findL_some h
      exact ⟨y, List.mem_cons_of_mem _ hy, h2⟩
theorem findL_none : ∀ {l : List Rng} {r : Int}, findL l r = none → ∀ x ∈ l, ¬ (x.1 ≤ r ∧ r ≤ x.2.1)
  | [], r, h, x, hx => by simp at hx
  | y :: l, r, h, x, hx => by
    unfold findL at h
    split at h
    · cases h
    · rename_i h1
      rcases List.mem_cons.1 hx with rfl | hx
      · exact h1
      · exact findL_none h x hx
theorem findL_none' : ∀ {l : List Rng} {r : Int}, (∀ x ∈ l, ¬ (x.1 ≤ r ∧ r ≤ x.2.1)) → findL l r = none
  | [], r, h => rfl
  | y :: l, r, h => by
    unfold findL
    rw [if_neg (h y List.mem_cons_self)]
    exact findL_none' fun x hx => h x (List.mem_cons_of_mem _ hx)
theorem findL_append : ∀ (a b : List Rng) (r : Int), findL (a ++ b) r = (findL a r).or (findL b r)
  | [], b, r => by simp [findL]
  | x :: a, b, r => by
    rw [List.cons_append, findL, findL]
    split
    · rfl
    · exact findL_append a b r
theorem mapL_tail {x : Rng} {l : List Rng} (h : mapL (x :: l)) : mapL l ∧ okR x ∧ ∀ y ∈ l, x.2.1 < y.1 :=
  ⟨⟨fun y hy => h.1 y (List.mem_cons_of_mem _ hy), (List.pairwise_cons.1 h.2).2⟩, h.1 x List.mem_cons_self, (List.pairwise_cons.1 h.2).1⟩
theorem tightL_tail {x : Rng} {l : List Rng} (h : tightL (x :: l)) : tightL l := fun i a b ha hb => h (i + 1) a b (by simpa using ha) (by simpa using hb)
/-- Of a map one range alone has a number. -/
theorem find_mem : ∀ {l : List Rng} {x : Rng} {r : Int}, mapL l → x ∈ l → x.1 ≤ r → r ≤ x.2.1 → findL l r = some x.2.2
  | y :: l, x, r, h, hx, h1, h2 => by
    obtain ⟨hl, hy, hlt⟩ := mapL_tail h
    unfold findL
    rcases List.mem_cons.1 hx with rfl | hx
    · rw [if_pos ⟨h1, h2⟩]
    · have := hlt x hx
      rw [if_neg (by omega)]
      exact find_mem hl hx h1 h2
/-- Tight maps that say the same are the same. -/
theorem tight_unique : ∀ (a b : List Rng), mapL a → mapL b → tightL a → tightL b → (∀ r, findL a r = findL b r) → a = b
  | [], [], _, _, _, _, _ => rfl
  | [], y :: b, _, hb, _, _, h => by
    have h1 := h y.1
    have hy := (mapL_tail hb).2.1
    unfold okR at hy
    rw [find_mem hb List.mem_cons_self (by omega) (by omega)] at h1
    cases h1
  | x :: a, [], ha, _, _, _, h => by
    have h1 := h x.1
    have hx := (mapL_tail ha).2.1
    unfold okR at hx
    rw [find_mem ha List.mem_cons_self (by omega) (by omega)] at h1
    cases h1
  | x :: a, y :: b, ha, hb, ta, tb, h => by
    obtain ⟨ha', hx, hxa⟩ := mapL_tail ha
    obtain ⟨hb', hy, hyb⟩ := mapL_tail hb
    unfold okR at hx hy
    have low : ∀ {x : Rng} {a : List Rng}, mapL (x :: a) → ∀ r v, findL (x :: a) r = some v → x.1 ≤ r := by
      intro x a ha r v hv
      obtain ⟨z, hz, h1, h2, _⟩ := findL_some hv
      obtain ⟨_, hx, hxa⟩ := mapL_tail ha
      unfold okR at hx
      rcases List.mem_cons.1 hz with rfl | hz
      · exact h1
      · have := hxa z hz; omega
    have fx := find_mem ha List.mem_cons_self (r := x.1) (by omega) (by omega)
    have fy := find_mem hb List.mem_cons_self (r := y.1) (by omega) (by omega)
    have e1 := low hb _ _ ((h x.1).symm.trans fx)
    have e2 := low ha _ _ ((h y.1).trans fy)
    have e : x.1 = y.1 := by omega
    have ev : x.2.2 = y.2.2 := by
      have := (h x.1).symm.trans fx
      rw [e, fy] at this
      exact (Option.some.inj this).symm
    have end_le : ∀ {x y : Rng} {a b : List Rng}, mapL (x :: a) → mapL (y :: b) → tightL (x :: a) → (∀ r, findL (x :: a) r = findL (y :: b) r) → x.1 = y.1 → x.2.2 = y.2.2 → y.2.1 ≤ x.2.1 := by
      intro x y a b ha hb ta h e ev
      obtain ⟨ha', hx, hxa⟩ := mapL_tail ha
      obtain ⟨hb', hy, hyb⟩ := mapL_tail hb
      unfold okR at hx hy
      rcases Int.lt_or_le x.2.1 y.2.1 with hlt | hle
      · exfalso
        have f1 := h (x.2.1 + 1)
        rw [find_mem hb List.mem_cons_self (by omega) (by omega)] at f1
        obtain ⟨z, hz, z1, z2, z3⟩ := findL_some f1
        rcases List.mem_cons.1 hz with rfl | hz
        · omega
        · cases a with
          | nil => simp at hz
          | cons q a' =>
            have hq := hxa q List.mem_cons_self
            have hzq : q.1 ≤ z.1 := by
              rcases List.mem_cons.1 hz with rfl | hz'
              · omega
              · have h1 := (mapL_tail ha').2.2 z hz'
                have h2 := (mapL_tail ha').2.1
                unfold okR at h2
                omega
            have fq := find_mem ha' List.mem_cons_self (r := q.1) (by have h2 := (mapL_tail ha').2.1; unfold okR at h2; omega) (by have h2 := (mapL_tail ha').2.1; unfold okR at h2; omega)
            have hq1 : q.1 = x.2.1 + 1 := by omega
            have fq2 : findL (x :: q :: a') (x.2.1 + 1) = some q.2.2 := by
              unfold findL
              rw [if_neg (by omega), ← hq1]
              exact fq
            rw [f1] at fq2
            exact ta 0 x q rfl rfl ⟨by omega, by rw [ev]; exact Option.some.inj fq2⟩
      · exact hle
    have et : x.2.1 = y.2.1 := Int.le_antisymm (end_le hb ha tb (fun r => (h r).symm) e.symm ev.symm) (end_le ha hb ta h e ev)
    have exy : x = y := Prod.ext e (Prod.ext et ev)
    subst exy
    rw [tight_unique a b ha' hb' (tightL_tail ta) (tightL_tail tb) fun r => ?_]
    rcases Int.lt_or_le x.2.1 r with hr | hr
    · have := h r
      unfold findL at this
      rwa [if_neg (by omega), if_neg (by omega)] at this
    · rw [findL_none' (fun z hz => by have := hxa z hz; omega), findL_none' (fun z hz => by have := hyb z hz; omega)]

theorem saidL_some : ∀ {ls : List (List Rng)} {r v : Int}, saidL ls r = some v → ∃ a ∈ ls, ∃ x ∈ a, x.1 ≤ r ∧ r ≤ x.2.1 ∧ x.2.2 = v
  | [], r, v, h => by simp [saidL] at h
  | a :: ls, r, v, h => by
    unfold saidL at h
    cases hs : saidL ls r with
    | some u =>
      rw [hs] at h
      obtain ⟨b, hb, h2⟩ := saidL_some (hs.trans h)
      exact ⟨b, List.mem_cons_of_mem _ hb, h2⟩
    | none =>
      rw [hs] at h
      obtain ⟨x, hx, h2⟩ := findL_some (by simpa using h)
      exact ⟨a, List.mem_cons_self, x, hx, h2⟩
theorem findL_same : ∀ {l : List Rng} {p r : Int}, p ≤ r → (∀ t ∈ turnsOf l, ¬ (p < t ∧ t ≤ r)) → findL l r = findL l p
  | [], p, r, _, _ => rfl
  | x :: l, p, r, hpr, h => by
    have h1 := h x.1 (by simp [turnsOf])
    have h2 := h (x.2.1 + 1) (by simp [turnsOf])
    have ih := findL_same (l := l) hpr fun t ht => h t (by unfold turnsOf at ht ⊢; rw [List.flatMap_cons]; exact List.mem_append_right _ ht)
    unfold findL
    rw [ih]
    by_cases hp : x.1 ≤ p ∧ p ≤ x.2.1
    · rw [if_pos hp, if_pos (by omega)]
    · rw [if_neg hp, if_neg (by omega)]
theorem saidL_same : ∀ {ls : List (List Rng)} {p r : Int}, p ≤ r → (∀ t ∈ turnsL ls, ¬ (p < t ∧ t ≤ r)) → saidL ls r = saidL ls p
  | [], p, r, _, _ => rfl
  | a :: ls, p, r, hpr, h => by
    unfold saidL
    rw [saidL_same hpr fun t ht => h t (by unfold turnsL at ht ⊢; rw [List.flatMap_cons]; exact List.mem_append_right _ ht),
      findL_same hpr fun t ht => h t (by unfold turnsL; rw [List.flatMap_cons]; exact List.mem_append_left _ ht)]
theorem turn_of {ls : List (List Rng)} {a : List Rng} {x : Rng} (ha : a ∈ ls) (hx : x ∈ a) : x.1 ∈ turnsL ls ∧ x.2.1 + 1 ∈ turnsL ls := by
  constructor
  · exact List.mem_flatMap.2 ⟨a, ha, List.mem_flatMap.2 ⟨x, hx, by simp⟩⟩
  · exact List.mem_flatMap.2 ⟨a, ha, List.mem_flatMap.2 ⟨x, hx, by simp⟩⟩
theorem turnsOf_length : ∀ l : List Rng, (turnsOf l).length = 2 * l.length
  | [] => rfl
  | x :: l => by
    have := turnsOf_length l
    unfold turnsOf at this ⊢
    rw [List.flatMap_cons, List.length_append, this]
    simp
    omega

/-- A range behind a tight map. -/
def joinL (m : List Rng) (x : Rng) : List Rng := match m.getLast? with
  | some y => if y.2.1 + 1 = x.1 ∧ y.2.2 = x.2.2 then m.dropLast ++ [(y.1, x.2.1, y.2.2)] else m ++ [x]
  | none => m ++ [x]
/-- What has been laid of the numbers below p. -/
def LayUpto (ls : List (List Rng)) (m : List Rng) (p : Int) : Prop := mapL m ∧ tightL m ∧ (∀ x ∈ m, x.2.1 < p) ∧ ∀ r, findL m r = if r < p then saidL ls r else none
def layStep (ls : List (List Rng)) (p q : Int) (m : List Rng) : List Rng := match saidL ls p with
  | some v => joinL m (p, q - 1, v)
  | none => m
theorem joinL_length (m : List Rng) (x : Rng) : (joinL m x).length ≤ m.length + 1 := by
  unfold joinL
  split
  · split
    · rw [List.length_append, List.length_dropLast, List.length_singleton]; omega
    · simp
  · simp
theorem getLast_split {α : Type} {m : List α} {y : α} (h : m.getLast? = some y) : m = m.dropLast ++ [y] := by
  cases m with
  | nil => simp at h
  | cons a t =>
    rw [List.getLast?_eq_some_getLast (by simp)] at h
    rw [← Option.some.inj h]
    exact (List.dropLast_concat_getLast (by simp)).symm
theorem mapL_snoc {m : List Rng} {x : Rng} : mapL (m ++ [x]) ↔ mapL m ∧ okR x ∧ ∀ y ∈ m, y.2.1 < x.1 := by
  unfold mapL
  rw [List.pairwise_append]
  constructor
  · rintro ⟨h1, h2, _, h3⟩
    exact ⟨⟨fun y hy => h1 y (List.mem_append_left _ hy), h2⟩, h1 x (List.mem_append_right _ (List.mem_singleton.2 rfl)), fun y hy => h3 y hy x (List.mem_singleton.2 rfl)⟩
  · rintro ⟨⟨h1, h2⟩, h3, h4⟩
    refine ⟨fun y hy => ?_, h2, List.pairwise_singleton _ _, fun a ha b hb => ?_⟩
    · rcases List.mem_append.1 hy with h | h
      · exact h1 y h
      · rw [List.mem_singleton.1 h]; exact h3
    · rw [List.mem_singleton.1 hb]; exact h4 a ha
theorem tightL_snoc {m : List Rng} {x : Rng} (h : tightL m) (hl : ∀ y, m.getLast? = some y → ¬ (y.2.1 + 1 = x.1 ∧ y.2.2 = x.2.2)) : tightL (m ++ [x]) := by
  intro i a b ha hb
  rcases Nat.lt_or_ge (i + 1) m.length with hi | hi
  · rw [List.getElem?_append_left hi] at hb
    rw [List.getElem?_append_left (by omega)] at ha
    exact h i a b ha hb
  · have hlt := (List.getElem?_eq_some_iff.1 hb).1
    simp at hlt
    have hi2 : i + 1 = m.length := by omega
    rw [List.getElem?_append_left (by omega)] at ha
    rw [List.getElem?_append_right (by omega), hi2] at hb
    simp at hb
    rw [← hb]
    refine hl a ?_
    rw [List.getLast?_eq_getElem?, ← hi2]
    exact ha
theorem tightL_init {m : List Rng} {x : Rng} (h : tightL (m ++ [x])) : tightL m ∧ ∀ y, m.getLast? = some y → ¬ (y.2.1 + 1 = x.1 ∧ y.2.2 = x.2.2) := by
  refine ⟨fun i a b ha hb => ?_, fun y hy => ?_⟩
  · have h1 := (List.getElem?_eq_some_iff.1 ha).1
    have h2 := (List.getElem?_eq_some_iff.1 hb).1
    exact h i a b (by rw [List.getElem?_append_left h1]; exact ha) (by rw [List.getElem?_append_left h2]; exact hb)
  · rw [List.getLast?_eq_getElem?] at hy
    have h1 := (List.getElem?_eq_some_iff.1 hy).1
    refine h (m.length - 1) y x (by rw [List.getElem?_append_left h1]; exact hy) ?_
    rw [List.getElem?_append_right (by omega), show m.length - 1 + 1 - m.length = 0 from by omega]
    rfl
theorem LayUpto.step {ls : List (List Rng)} {m : List Rng} {p q : Int} (h : LayUpto ls m p) (hls : ∀ a ∈ ls, ∀ x ∈ a, okR x) (hpq : p < q) (ht : ∀ t ∈ turnsL ls, ¬ (p < t ∧ t < q)) : LayUpto ls (layStep ls p q m) q := by
  obtain ⟨hm, htm, hlt, hf⟩ := h
  have same : ∀ r, p ≤ r → r < q → saidL ls r = saidL ls p := fun r h1 h2 => saidL_same h1 fun t htt hh => ht t htt ⟨hh.1, by omega⟩
  unfold layStep
  cases hs : saidL ls p with
  | none =>
    refine ⟨hm, htm, fun x hx => by have := hlt x hx; omega, fun r => ?_⟩
    rw [hf r]
    by_cases h1 : r < p
    · rw [if_pos h1, if_pos (by omega)]
    · rw [if_neg h1]
      by_cases h2 : r < q
      · rw [if_pos h2, same r (by omega) h2, hs]
      · rw [if_neg h2]
  | some v =>
    have hok : okR (p, q - 1, v) := by
      obtain ⟨a, ha, x, hx, h1, _, h3⟩ := saidL_some hs
      obtain ⟨b, hb, y, hy, _, h5, _⟩ := saidL_some ((same (q - 1) (by omega) (by omega)).trans hs)
      have o1 := hls a ha x hx
      have o2 := hls b hb y hy
      unfold okR at o1 o2 ⊢
      refine ⟨?_, ?_, ?_, ?_, ?_⟩ <;> simp only <;> omega
    have hnew : LayUpto ls (m ++ [(p, q - 1, v)]) q ∨ ∃ y, m.getLast? = some y ∧ (y.2.1 + 1 = p ∧ y.2.2 = v) := by
      by_cases hy : ∃ y, m.getLast? = some y ∧ (y.2.1 + 1 = p ∧ y.2.2 = v)
      · exact .inr hy
      · refine .inl ⟨mapL_snoc.2 ⟨hm, hok, hlt⟩, tightL_snoc htm fun y h1 h2 => hy ⟨y, h1, h2⟩, fun x hx => ?_, fun r => ?_⟩
        · rcases List.mem_append.1 hx with h1 | h1
          · have := hlt x h1; omega
          · rw [List.mem_singleton.1 h1]; show q - 1 < q; omega
        · rw [findL_append, hf r]
          by_cases h1 : r < p
          · rw [if_pos h1, if_pos (by omega)]
            have : findL [(p, q - 1, v)] r = none := findL_none' fun x hx => by rw [List.mem_singleton.1 hx]; show ¬ (p ≤ r ∧ _); omega
            rw [this]; simp
          · rw [if_neg h1]
            show findL [(p, q - 1, v)] r = _
            unfold findL
            by_cases h2 : r < q
            · rw [if_pos h2, if_pos (show p ≤ r ∧ r ≤ q - 1 by omega), same r (by omega) h2, hs]
            · rw [if_neg h2, if_neg (show ¬ (p ≤ r ∧ r ≤ q - 1) by omega)]; rfl
    show LayUpto ls (joinL m (p, q - 1, v)) q
    rcases hnew with hnew | ⟨y, hy, hyp, hyv⟩
    · unfold joinL
      split
      · rename_i y hy
        by_cases hc : y.2.1 + 1 = p ∧ y.2.2 = v
        · rw [if_pos hc]
          have hmm := getLast_split hy
          rw [hmm, mapL_snoc] at hm
          rw [hmm] at htm
          obtain ⟨i1, i2⟩ := tightL_init htm
          obtain ⟨n1, n2, n3⟩ := hnew
          exfalso
          have : tightL (m ++ [(p, q - 1, v)]) := n2
          have hl := (tightL_init this).2 y hy
          exact hl hc
        · rw [if_neg hc]
          exact hnew
      · exact hnew
    · unfold joinL
      rw [hy]
      simp only
      rw [if_pos ⟨hyp, hyv⟩]
      have hmm := getLast_split hy
      have hm' := hm
      have htm' := htm
      rw [hmm] at hm' htm'
      rw [mapL_snoc] at hm'
      obtain ⟨g1, g2, g3⟩ := hm'
      obtain ⟨i1, i2⟩ := tightL_init htm'
      have hyo : okR (y.1, q - 1, y.2.2) := by
        unfold okR at hok g2 ⊢
        simp only at hok ⊢
        omega
      refine ⟨mapL_snoc.2 ⟨g1, hyo, g3⟩, tightL_snoc i1 i2, fun x hx => ?_, fun r => ?_⟩
      · rcases List.mem_append.1 hx with h1 | h1
        · have := hlt x (by rw [hmm]; exact List.mem_append_left _ h1); omega
        · rw [List.mem_singleton.1 h1]; show q - 1 < q; omega
      · have hfr := hf r
        rw [hmm, findL_append] at hfr
        rw [findL_append]
        have hyok := g2
        unfold okR at hyok
        have e1 : findL [y] r = if y.1 ≤ r ∧ r ≤ y.2.1 then some y.2.2 else none := rfl
        have e2 : findL [(y.1, q - 1, y.2.2)] r = if y.1 ≤ r ∧ r ≤ q - 1 then some y.2.2 else none := rfl
        rw [e1] at hfr
        rw [e2]
        by_cases h1 : r < p
        · rw [if_pos h1] at hfr
          rw [if_pos (show r < q by omega), ← hfr]
          by_cases h2 : y.1 ≤ r
          · rw [if_pos (show y.1 ≤ r ∧ r ≤ q - 1 from ⟨h2, by omega⟩), if_pos (show y.1 ≤ r ∧ r ≤ y.2.1 from ⟨h2, by omega⟩)]
          · rw [if_neg (show ¬ (y.1 ≤ r ∧ r ≤ q - 1) by omega), if_neg (show ¬ (y.1 ≤ r ∧ r ≤ y.2.1) by omega)]
        · rw [if_neg h1, if_neg (show ¬ (y.1 ≤ r ∧ r ≤ y.2.1) by omega)] at hfr
          have hn : findL m.dropLast r = none := by simpa using hfr
          rw [hn]
          by_cases h2 : r < q
          · rw [if_pos (show y.1 ≤ r ∧ r ≤ q - 1 by omega), if_pos h2, same r (by omega) h2, hs, hyv]; rfl
          · rw [if_neg (show ¬ (y.1 ≤ r ∧ r ≤ q - 1) by omega), if_neg h2]; rfl
/-- The tight map of maps, the last one the topmost. -/
def isLay (ls : List (List Rng)) (m : List Rng) : Prop := mapL m ∧ tightL m ∧ ∀ r, findL m r = saidL ls r
theorem isLay_unique {ls : List (List Rng)} {m n : List Rng} (h : isLay ls m) (k : isLay ls n) : m = n := tight_unique m n h.1 k.1 h.2.1 k.2.1 fun r => (h.2.2 r).trans (k.2.2 r).symm
/-- What has been laid up to the last place is all. -/
theorem LayUpto.all {ls : List (List Rng)} {m : List Rng} {p : Int} (h : LayUpto ls m p) (hp : ∀ t ∈ turnsL ls, t ≤ p) : isLay ls m := by
  refine ⟨h.1, h.2.1, fun r => ?_⟩
  rw [h.2.2.2 r]
  by_cases hr : r < p
  · rw [if_pos hr]
  · rw [if_neg hr]
    cases hs : saidL ls r with
    | none => rfl
    | some v =>
      obtain ⟨a, ha, x, hx, h1, h2, _⟩ := saidL_some hs
      have := hp _ (turn_of ha hx).2
      omega
theorem LayUpto.none {ls : List (List Rng)} {p : Int} (hp : ∀ t ∈ turnsL ls, p ≤ t) : LayUpto ls [] p := by
  refine ⟨⟨fun x hx => by simp at hx, List.Pairwise.nil⟩, fun i x y hx => by simp at hx, fun x hx => by simp at hx, fun r => ?_⟩
  by_cases hr : r < p
  · rw [if_pos hr]
    cases hs : saidL ls r with
    | none => rfl
    | some v =>
      obtain ⟨a, ha, x, hx, h1, h2, _⟩ := saidL_some hs
      have := hp _ (turn_of ha hx).1
      omega
  · rw [if_neg hr]; rfl
end Go.Proofs.YtlmkefmfhdjmmaaDoor

namespace Go.Proofs.YtlmkefmfhdjmmaaDoor
open Go.RowKit Go.Shelf
attribute [local go_sem] Oper.semAt_some

abbrev rngC (x : Rng) : Array Value := #[.int .i64 x.1, .int .i64 x.2.1, .int .i64 x.2.2]
abbrev rngV (x : Rng) : Value := .agg (rngC x)
abbrev rngO (x : Rng) : Obj := .cells (rngC x) 49 (0, 0)
def cellsR (l : List Rng) : List Value := l.flatMap fun x => [.int .i64 x.1, .int .i64 x.2.1, .int .i64 x.2.2]
/-- The block of an address. -/
def inB (o : Option Addr) (k : Nat) : Prop := ∃ a, o = some a ∧ a.block = k
/-- Where ranges stand. -/
def AtR (w : World) (o : Option Addr) (l : List Rng) : Prop := 0 < l.length → ∃ g off, o = some ⟨g, off, none⟩ ∧ ∀ (j : Nat) (x : Rng), l[j]? = some x →
  w.cell? ⟨g, off + j * 3, none⟩ = some (.int .i64 x.1) ∧ w.cell? ⟨g, off + j * 3 + 1, none⟩ = some (.int .i64 x.2.1) ∧ w.cell? ⟨g, off + j * 3 + 2, none⟩ = some (.int .i64 x.2.2)
theorem cell_moves {S : Nat → Prop} {w w' : World} {a : Addr} {v : Value} (hm : Moves S w w') (hs : ¬ S a.block) (h : w.cell? a = some v) : w'.cell? a = some v := by
  have hb := hm.block _ (World.block_lt_of_cell? w _ h) hs
  unfold World.cell? at h ⊢
  rw [hb]
  exact h
theorem cell_keepN {w w' : World} {a : Addr} {v : Value} (hb : Below w.heap.size w w') (h : w.cell? a = some v) : w'.cell? a = some v :=
  (hb.cell (World.block_lt_of_cell? w _ h)).trans h
theorem AtR.moves {S : Nat → Prop} {w w' : World} {o : Option Addr} {l : List Rng} (h : AtR w o l) (hm : Moves S w w') (hs : 0 < l.length → ∀ k, inB o k → ¬ S k) : AtR w' o l := fun hn => by
  obtain ⟨g, off, rfl, hc⟩ := h hn
  have hg : ¬ S g := hs hn g ⟨_, rfl, rfl⟩
  refine ⟨g, off, rfl, fun j x hx => ?_⟩
  obtain ⟨h0, h1, h2⟩ := hc j x hx
  exact ⟨cell_moves hm hg h0, cell_moves hm hg h1, cell_moves hm hg h2⟩
theorem AtR.lt {w : World} {o : Option Addr} {l : List Rng} (h : AtR w o l) (hn : 0 < l.length) {k : Nat} (hk : inB o k) : k < w.heap.size := by
  obtain ⟨g, off, rfl, hc⟩ := h hn
  obtain ⟨a, ha, rfl⟩ := hk
  cases ha
  exact World.block_lt_of_cell? w _ (hc 0 _ (List.getElem?_eq_getElem hn)).1
theorem AtR.below {w w' : World} {o : Option Addr} {l : List Rng} (h : AtR w o l) (hb : Below w.heap.size w w') : AtR w' o l := fun hn => by
  obtain ⟨g, off, ho, hc⟩ := h hn
  refine ⟨g, off, ho, fun j x hx => ?_⟩
  obtain ⟨h0, h1, h2⟩ := hc j x hx
  exact ⟨cell_keepN hb h0, cell_keepN hb h1, cell_keepN hb h2⟩
theorem AtR.take {w : World} {o : Option Addr} {l : List Rng} (h : AtR w o l) (n : Nat) : AtR w o (l.take n) := fun hn => by
  obtain ⟨g, off, ho, hc⟩ := h (by rw [List.length_take] at hn; omega)
  refine ⟨g, off, ho, fun j x hx => hc j x ?_⟩
  rw [List.getElem?_take] at hx
  split at hx
  · exact hx
  · cases hx
theorem rng_cells {w : World} {k : Nat} {x : Rng} (h : w.heap[k]? = some (rngO x)) :
    w.cell? ⟨k, 0, none⟩ = some (.int .i64 x.1) ∧ w.cell? ⟨k, 1, none⟩ = some (.int .i64 x.2.1) ∧ w.cell? ⟨k, 2, none⟩ = some (.int .i64 x.2.2) ∧ w.frozen? ⟨k, 0, none⟩ = false := by
  refine ⟨?_, ?_, ?_, frozen_of_row _ _ _ _ _ h⟩
  · rw [cell_of_row _ _ 0 _ _ _ h]; rfl
  · rw [cell_of_row _ _ 1 _ _ _ h]; rfl
  · rw [cell_of_row _ _ 2 _ _ _ h]; rfl

/-- What an iterator over ranges yields: each with its place. -/
abbrev encR (x : Rng × Nat) : Array Value := #[.int .i64 (x.2 : Nat), rngV x.1]
theorem zip_pre {α : Type} {l : List α} {pre : List (α × Nat)} {x : α} {n : Nat} (h : pre ++ [(x, n)] <+: l.zipIdx) : n = pre.length ∧ l[n]? = some x ∧ pre = (l.take n).zipIdx := by
  obtain ⟨t, ht⟩ := h
  have h1 : (l.zipIdx)[pre.length]? = some (x, n) := by rw [← ht]; simp
  rw [List.getElem?_zipIdx] at h1
  cases hl : l[pre.length]? with
  | none => rw [hl] at h1; cases h1
  | some y =>
    rw [hl] at h1
    simp at h1
    obtain ⟨rfl, rfl⟩ := h1
    refine ⟨rfl, hl, ?_⟩
    apply List.ext_getElem?
    intro i
    rw [List.getElem?_zipIdx]
    rcases Nat.lt_or_ge i pre.length with hi | hi
    · have h2 : (l.zipIdx)[i]? = pre[i]? := by rw [← ht, List.append_assoc, List.getElem?_append_left hi]
      rw [← h2, List.getElem?_zipIdx, List.getElem?_take_of_lt hi]
    · rw [List.getElem?_eq_none hi, List.getElem?_eq_none (by rw [List.length_take]; omega)]
      rfl
theorem zip_more {α : Type} {l : List α} {j : Nat} {x : α} (h : l[j]? = some x) : (l.take j).zipIdx ++ [(x, j)] = (l.take (j + 1)).zipIdx := by
  have hlt := (List.getElem?_eq_some_iff.1 h).1
  rw [List.take_add_one, h, List.zipIdx_append, List.length_take, Nat.min_eq_left (by omega)]
  simp
theorem zip_prefix {α : Type} (l : List α) (j : Nat) : (l.take j).zipIdx <+: l.zipIdx := by
  refine ⟨(l.drop j).zipIdx ((l.take j).length), ?_⟩
  have := List.zipIdx_append (xs := l.take j) (ys := l.drop j) (k := 0)
  rw [List.take_append_drop] at this
  rw [this]
  simp

/-- What the iterator leans on: its ownN box, the ranges' block. -/
abbrev DepR (cb : Nat) (o : Option Addr) (l : List Rng) (k : Nat) : Prop := k = cb ∨ (0 < l.length ∧ inB o k)
set_option maxRecDepth 100000 in
set_option maxHeartbeats 1000000 in
theorem seqRanges {cb cap : Nat} {o : Option Addr} {l : List Rng} {w : World} (hn : l.length ≤ 1000000) (hc : w.heap[cb]? = some (.cells #[.slice o l.length cap] 67 (0, 0))) (hA : AtR w o l) :
    SeqOfX Tryd.prog 5 75 #[.pointer (some ⟨cb, 0, none⟩)] encR (fun _ => False) (DepR cb o l) l.zipIdx w := by
  intro W lp J Jx hm hJ hJx hY h0
  have h1 : 1 ≤ 5 := by omega
  have c0 : W.cell? ⟨cb, 0, none⟩ = some (.slice o l.length cap) := by rw [cell_of_row _ _ 0 _ _ _ (row_keep hc hm id)]; rfl
  have A0 : AtR W o l := hA.moves hm fun _ _ _ => id
  obtain ⟨n, hnn⟩ : ∃ n, l.length = n := ⟨_, rfl⟩
  rw [hnn] at c0 hn
  refine callsIn_of_wp Tryd.func75 rfl trivial ?_ rfl
  simp only [Tryd.ntmps75, List.size_toArray, List.length_cons, List.length_nil, Nat.reduceAdd, Nat.reduceSub, Array.replicate_succ, Array.replicate_zero, List.push_toArray, List.append_toArray, List.nil_append, List.cons_append]
  have HJ := Lib.hid hJ
  have HY := Lib.hid hY
  have HN := Lib.hid hnn
  have HA := Lib.hid A0
  clear hJ hJx hY hm hnn hA A0 hc
  gi_wp2
  gi_loopg [8] n (fun k v wr => ∃ (j : Nat), v = .int .i64 (j : Nat) ∧ j ≤ n ∧ k = n - j ∧ Hid (AtR wr o l) ∧ J (fun _ => False) (l.take j).zipIdx wr)
  case atStart => exact ⟨0, rfl, Nat.zero_le _, rfl, HA, by simpa using h0⟩
  case round =>
    obtain ⟨j, rfl, hj, rfl, ha, hJ'⟩ := hrel
    rcases Nat.lt_or_ge j n with hlt | hge
    · obtain ⟨x, hx⟩ : ∃ x, l[j]? = some x := ⟨_, List.getElem?_eq_getElem (by rw [HN.out]; exact hlt)⟩
      obtain ⟨g, off, rfl, hc⟩ := ha.out (by rw [HN.out]; omega)
      obtain ⟨k0, k1, k2⟩ := hc j x hx
      have hg := World.block_lt_of_cell? wr _ k0
      have HX := Lib.hid hx
      obtain ⟨wb, hwb⟩ : ∃ wb, wr.alloc (rngO x) = wb := ⟨_, rfl⟩
      have hbb : Below wr.heap.size wr wb := by rw [← hwb]; exact (Below.refl _ _).alloc (Nat.le_refl _) _
      have hJb := HJ.out _ (fun _ => False) _ _ wb hJ' (Moves.of_below hbb) (fun k h => h.elim)
      have hpx : (l.take j).zipIdx ++ [(x, j)] <+: l.zipIdx := by rw [zip_more hx]; exact zip_prefix l (j + 1)
      obtain ⟨fn, tmps, assign, body, hy, hR⟩ := HY.out _ _ _ _ hpx hJb
      replace hy : (Instr.yield lp #[.int .i64 (j : Nat), .agg #[.int .i64 x.1, .int .i64 x.2.1, .int .i64 x.2.2]]).run Tryd.prog wb = .ok (.round lp fn tmps assign body) wb := hy
      obtain ⟨q0, q1, q2, _⟩ := rng_cells (w := wb) (k := wr.heap.size) (x := x) (by rw [← hwb]; exact heap_alloc_new _ _)
      have hab := Lib.hid (ha.out.below hbb)
      obtain ⟨a, b, v⟩ := x
      simp only at k0 k1 k2 hy q0 q1 q2
      clear hc hx hpx hJb
      gi_wp2
      refine hR.mono ?_
      rintro e w3 (⟨rfl, hJ4, hk4⟩ | ⟨rfl, hJx4, _⟩)
      · have HX2 := Lib.hid (zip_more HX.out)
        gi_wp2
        gi_roundg (n - (j + 1))
        case measure => omega
        case rel => exact ⟨j + 1, by simp, by omega, rfl, Lib.hid (hab.out.moves hk4 (fun h0 k h h2 => h2.2 (.inr ⟨h0, h⟩))), by rw [← HX2.out]; exact hJ4⟩
      · gi_wp2
        refine bodyPost_ret (results_none rfl _ _ _) rfl ?_
        exact ⟨⟨_, rfl⟩, _, .inr ⟨_, by rw [zip_more HX.out]; exact zip_prefix l (j + 1), hJx4⟩⟩
    · obtain rfl : j = n := by omega
      have hall : l.take j = l := List.take_of_length_le (by rw [HN.out]; exact Nat.le_refl _)
      gi_wp2
      go_end0
      exact ⟨⟨_, rfl⟩, _, .inl (by rw [hall] at hJ'; exact hJ')⟩
end Go.Proofs.YtlmkefmfhdjmmaaDoor

namespace Go.Proofs.YtlmkefmfhdjmmaaDoor
open Go.RowKit Go.Shelf
attribute [local go_sem] Oper.semAt_some

abbrev chartV (o : Option Addr) (n cap : Nat) : Value := .agg #[.slice o n cap]
abbrev chartO (o : Option Addr) (n cap : Nat) : Obj := .cells #[.slice o n cap] 67 (0, 0)
theorem ranges_any (o : Option Addr) (n cap : Nat) (w : World) : Calls Tryd.prog 57 #[chartV o n cap] w fun e w' => e = .returned (.func (.func 75) #[] #[.pointer (some ⟨w.heap.size, 0, none⟩)]) ∧ w.alloc (chartO o n cap) = w' := by
  go_enter Tryd.func57, Tryd.ntmps57
  go_wp2
  go_ret
  exact ⟨rfl, rfl⟩
theorem chartOf_any (o : Option Addr) (n cap : Nat) (hn : n ≤ cap) (w : World) : Calls Tryd.prog 41 #[.slice o n cap] w fun e w' => e = .returned (chartV o n n) ∧ Below w.heap.size w w' := by
  go_enter Tryd.func41, Tryd.ntmps41
  go_wp2
  refine bodyPost_ret (v := chartV o n n) ?_ rfl ⟨rfl, (Below.refl _ _).alloc (Nat.le_refl _) _⟩
  exact results_cell_row rfl _ _ w.heap.size 67 #[.slice o n n] (0, 0) _ rfl (heap_alloc_new _ _) Tryd.underlying67 rfl (by kernel_rfl)

def ansF (s : Option Int) : Value := match s with
  | some v => .tuple #[.int .i64 v, .bool true]
  | none => .tuple #[.int .i64 0, .bool false]
theorem findL_pre {l : List Rng} {j : Nat} {x : Rng} {r : Int} (hx : l[j]? = some x) (h : findL (l.take j) r = none) (hr : x.1 ≤ r ∧ r ≤ x.2.1) : findL l r = some x.2.2 := by
  have h1 : l = l.take j ++ l.drop j := (List.take_append_drop j l).symm
  have hlt := (List.getElem?_eq_some_iff.1 hx).1
  rw [h1, findL_append, h, List.drop_eq_getElem_cons hlt, (List.getElem?_eq_some_iff.1 hx).2]
  show findL (x :: _) r = _
  unfold findL
  rw [if_pos hr]
theorem findL_snoc {l : List Rng} {j : Nat} {x : Rng} {r : Int} (hx : l[j]? = some x) (h : findL (l.take j) r = none) (hr : ¬ (x.1 ≤ r ∧ r ≤ x.2.1)) : findL (l.take (j + 1)) r = none := by
  rw [List.take_add_one, hx, findL_append, h]
  show findL [x] r = none
  unfold findL
  rw [if_neg hr]
  rfl
/-- What holds between two rounds. -/
structure FindInv (w : World) (l : List Rng) (r : Int) (X : Nat → Prop) (W : World) (s : Option Int) : Prop where
  far : ∀ k, X k → w.heap.size + 4 ≤ k
  below : Below w.heap.size w W
  size : w.heap.size + 4 ≤ W.heap.size
  rb : Boxed W (w.heap.size + 1) 3 (.int .i64 r)
  vb : Boxed W (w.heap.size + 2) 3 (.int .i64 (s.getD 0))
  fb : Boxed W (w.heap.size + 3) 4 (.bool s.isSome)
theorem FindInv.moves {w : World} {l : List Rng} {r : Int} {X X' : Nat → Prop} {A B : World} {s : Option Int} (h : FindInv w l r X A s) (hm : Moves X A B) (hX : ∀ k, X' k → (X k ∨ A.heap.size ≤ k) ∧ k < B.heap.size) : FindInv w l r X' B s := by
  have hf := h.far
  have hz := h.size
  have nx : ∀ j, j < w.heap.size + 4 → ¬ X j := fun j hj hx => by have := hf j hx; omega
  refine ⟨?_, Moves.below h.below h.below.size hm (fun k hk => by have := hf k hk; omega), by have := hm.size; omega, row_keep h.rb hm (nx _ (by omega)), row_keep h.vb hm (nx _ (by omega)), row_keep h.fb hm (nx _ (by omega))⟩
  intro k hk
  rcases (hX k hk).1 with h1 | h1
  · exact hf k h1
  · omega
set_option maxRecDepth 100000 in
set_option maxHeartbeats 2000000 in
theorem find_any (o : Option Addr) (l : List Rng) (cap : Nat) (r : Int) (hn : l.length ≤ 1000000) (w : World) (hA : AtR w o l) :
    Calls Tryd.prog 42 #[chartV o l.length cap, .int .i64 r] w fun e w' => e = .returned (ansF (findL l r)) ∧ Below w.heap.size w w' := by
  refine (callsIn_wide (n := 6)).1 ?_
  have h1 : 1 ≤ 6 := by omega
  refine callsIn_of_wp_marks Tryd.func42 rfl trivial ?_ rfl
  simp only [Tryd.ntmps42, List.size_toArray, List.length_cons, List.length_nil, Nat.reduceAdd, Nat.reduceSub, Array.replicate_succ, Array.replicate_zero, List.push_toArray, List.append_toArray, List.nil_append, List.cons_append]
  obtain ⟨P, hP⟩ : ∃ P, (fun (e : Ending) w' => e = .returned (ansF (findL l r)) ∧ Below w.heap.size w w') = P := ⟨_, rfl⟩
  have HP := Lib.hid hP
  rw [hP]
  clear hP
  obtain ⟨n, hnn⟩ : ∃ n, l.length = n := ⟨_, rfl⟩
  have HN := Lib.hid hnn
  rw [hnn] at hn ⊢
  have HA := Lib.hid hA
  clear hA hnn
  gi_wp2_with fail
  refine wpIn_wide.2 (wp_scope_straight ((wpIn_wide (n := 6)).1 ?_))
  gi_wp2_with fail
  refine wpIn_label ?_
  gi_wp2_with fail
  refine ⟨trivial, (callsIn_wide.2 (ranges_any o n cap _)).mono ?_⟩
  rintro e w2 ⟨rfl, hw2⟩
  simp only [World.size_alloc] at hw2 ⊢
  have BW : Below w.heap.size w w2 := by rw [← hw2]; exact (((((Below.refl _ _).alloc (Nat.le_refl _) _).alloc (by simp) _).alloc (by simp; omega) _).alloc (by simp; omega) _).alloc (by simp; omega) _
  have z2 : w2.heap.size = w.heap.size + 5 := by rw [← hw2]; simp
  obtain ⟨B0, hB0⟩ : ∃ B, w.alloc (chartO o n cap) = B := ⟨_, rfl⟩
  have R2 : Boxed w2 (w.heap.size + 1) 3 (.int .i64 r) := by
    rw [← hw2]
    have := Boxed.new (w.alloc (chartO o n cap)) 3 (.int .i64 r)
    rw [World.size_alloc] at this
    exact ((this.alloc _).alloc _).alloc _
  have V2 : Boxed w2 (w.heap.size + 2) 3 (.int .i64 0) := by
    rw [← hw2]
    have := Boxed.new ((w.alloc (chartO o n cap)).alloc (.cells #[.int .i64 r] 3)) 3 (.int .i64 0)
    rw [World.size_alloc, World.size_alloc] at this
    exact (this.alloc _).alloc _
  have F2 : Boxed w2 (w.heap.size + 3) 4 (.bool false) := by
    rw [← hw2]
    have := Boxed.new (((w.alloc (chartO o n cap)).alloc (.cells #[.int .i64 r] 3)).alloc (.cells #[.int .i64 0] 3)) 4 (.bool false)
    rw [World.size_alloc, World.size_alloc, World.size_alloc] at this
    exact this.alloc _
  have hb : w2.heap[w.heap.size + 1 + 1 + 1 + 1]? = some (chartO o n cap) := by
    rw [← hw2]
    have := heap_alloc_new ((((w.alloc (chartO o n cap)).alloc (.cells #[.int .i64 r] 3)).alloc (.cells #[.int .i64 0] 3)).alloc (.cells #[.bool false] 4)) (chartO o n cap)
    simpa using this
  have A2 := HA.out.below BW
  have hlt : ∀ k, 0 < l.length → inB o k → k < w.heap.size := fun k h0 hk => HA.out.lt h0 hk
  clear hw2
  gi_wp2_with fail
  refine wpIn_seqX (n := 6) (Ow := fun _ => False) (Dep := DepR (w.heap.size + 1 + 1 + 1 + 1) o l) (encs := encR) (all := l.zipIdx) (by omega) rfl (enters_of Tryd.func75 (by kernel_rfl) rfl) (fun x => rfl) (seqRanges (by rw [HN.out]; exact hn) (by rw [HN.out]; exact hb) A2)
    (fun k h => h.elim) (fun k h => by rcases h with h | ⟨h0, h⟩; { omega }; { have := hlt k h0 h; omega })
    (fun X pre W => FindInv w l r X W none ∧ findL (l.take pre.length) r = none) (fun c X pre W => c = .exit 0 ∧ ∃ v, FindInv w l r X W (some v) ∧ findL l r = some v) ?hI ?hIx ?h0
    (fun b x => { tmps := #[chartV o n cap, .int .i64 r, .pointer (some ⟨w.heap.size, 0, none⟩), .pointer (some ⟨w.heap.size + 1, 0, none⟩), .int .i64 0, .bool false, .pointer (some ⟨w.heap.size + 1 + 1, 0, none⟩), .pointer (some ⟨w.heap.size + 1 + 1 + 1, 0, none⟩), undef, .pointer (some ⟨b, 0, none⟩), chartV o n cap, .func (.func 75) #[] #[.pointer (some ⟨w.heap.size + 1 + 1 + 1 + 1, 0, none⟩)], .int .i64 (x.2 : Nat), rngV x.1, undef, undef, undef, undef, undef, undef, undef, undef, undef, undef, undef, undef, undef, undef], defers := [] })
    (fun A x B => A.alloc (rngO x.1) = B) (fun A x B h => by rw [← h]; exact Moves.of_below ((Below.refl _ _).alloc (Nat.le_refl _) _)) ?assign ?body ?done ?stop
  case hI =>
    rintro X X' xs A B ⟨h, hf⟩ hm hX
    exact ⟨h.moves hm hX, hf⟩
  case hIx =>
    rintro c X X' xs A B ⟨rfl, v, h, hf⟩ hm hX
    exact ⟨rfl, v, h.moves hm hX, hf⟩
  case h0 => exact ⟨⟨fun k h => h.elim, BW, by omega, R2, V2, F2⟩, rfl⟩
  case assign =>
    rintro l x A K hK
    gi_wp2
    rfl
  case body =>
    rintro lp X pre ⟨x, j⟩ A A' W1 hA1 hpx hAB hm hXn hXn1 hXlt ⟨hI, hf⟩
    obtain ⟨hj, hx, -⟩ := zip_pre hpx
    subst hj
    have hxb : W1.heap[A.heap.size]? = some (rngO x) := by
      have := heap_alloc_new A (rngO x)
      rw [hAB] at this
      have hne : A.heap.size ≠ w.heap.size + 4 + 1 + 1 := by omega
      exact row_keep this hm (by omega)
    obtain ⟨q0, q1, q2, _⟩ := rng_cells hxb
    have cr := hI.rb.cell
    have cv := hI.vb.cell
    have cf := hI.fb.cell
    have fv : W1.frozen? ⟨w.heap.size + 1 + 1, 0, none⟩ = false := hI.vb.frozen
    have ff : W1.frozen? ⟨w.heap.size + 1 + 1 + 1, 0, none⟩ = false := hI.fb.frozen
    have nB : ∀ k, k < w.heap.size + 4 → w.heap.size ≤ k → ¬ X k ∧ ¬ DepR (w.heap.size + 1 + 1 + 1 + 1) o l k := fun k hk hk2 => ⟨fun h => by have := hI.far k h; omega, fun h => by rcases h with h | ⟨h0, h⟩; { omega }; { have := hlt k h0 h; omega }⟩
    have hz := hI.size
    have HI := Lib.hid hI
    have HX := Lib.hid hx
    have HF := Lib.hid hf
    have HNB := Lib.hid nB
    obtain ⟨a, b, v⟩ := x
    simp only at q0 q1 q2
    clear hI hx hf nB hpx hm hXlt hXn hXn1 hxb hAB hA1
    by_cases hin : a ≤ r ∧ r ≤ b
    · obtain ⟨i1, i2⟩ := hin
      have hans := findL_pre HX.out HF.out ⟨i1, i2⟩
      have hm4 : Moves (fun k => k = w.heap.size + 2 ∨ k = w.heap.size + 3) W1 ((W1.setCell ⟨w.heap.size + 1 + 1, 0, none⟩ (.int .i64 v)).setCell ⟨w.heap.size + 1 + 1 + 1, 0, none⟩ (.bool true)) := (Moves.setCell (.inl rfl)).trans (Moves.setCell (.inr rfl))
      have HR : Hid (seqEndX (DepR (w.heap.size + 1 + 1 + 1 + 1) o l) X (fun X pre W => FindInv w l r X W none ∧ findL (l.take pre.length) r = none) (fun c X pre W => c = .exit 0 ∧ ∃ v, FindInv w l r X W (some v) ∧ findL l r = some v) (pre ++ [((a, b, v), pre.length)]) W1 (.exit 0) ({ tmps := #[], defers := [] } : Act) ((W1.setCell ⟨w.heap.size + 1 + 1, 0, none⟩ (.int .i64 v)).setCell ⟨w.heap.size + 1 + 1 + 1, 0, none⟩ (.bool true))) := by
        refine Lib.hid ⟨hm4.mono fun k h => HNB.out k (by omega) (by omega), rfl, v, ⟨HI.out.far, Moves.below HI.out.below HI.out.below.size hm4 (fun k h => by omega), by have := hm4.size; have := HI.out.size; omega, row_keep HI.out.rb hm4 (by omega), ?_, ?_⟩, hans⟩
        · exact row_keep (HI.out.vb.set _) (Moves.setCell (S := fun k => k = w.heap.size + 3) rfl) (by omega)
        · exact (show Boxed (W1.setCell ⟨w.heap.size + 2, 0, none⟩ (.int .i64 v)) (w.heap.size + 3) 4 (.bool false) from row_keep HI.out.fb (Moves.setCell (S := fun k => k = w.heap.size + 2) (w := W1) (a := ⟨w.heap.size + 2, 0, none⟩) (v := .int .i64 v) rfl) (by omega)).set _
      clear hm4 hans
      gi_wp2
      exact HR.out
    · have hans := findL_snoc HX.out HF.out hin
      have HR : Hid (seqEndX (DepR (w.heap.size + 1 + 1 + 1 + 1) o l) X (fun X pre W => FindInv w l r X W none ∧ findL (l.take pre.length) r = none) (fun c X pre W => c = .exit 0 ∧ ∃ v, FindInv w l r X W (some v) ∧ findL l r = some v) (pre ++ [((a, b, v), pre.length)]) W1 .normal ({ tmps := #[], defers := [] } : Act) W1) :=
        Lib.hid ⟨Moves.refl _ _, HI.out, by rw [List.length_append]; exact hans⟩
      clear hans
      by_cases i1 : a ≤ r
      · have i2 : ¬ r ≤ b := fun h => hin ⟨i1, h⟩
        clear hin
        gi_wp2
        exact HR.out
      · clear hin
        gi_wp2
        exact HR.out
  case done =>
    have hfol : Tryd.prog.follows .mixedOrders = true := by kernel_rfl
    rintro X D W hD hXD ⟨hI, hf⟩ hX hK
    have hm : Moves (fun k => k = D) W (W.drew.putObj D (.deferred none)) := (Moves.refl _ _).drew.trans (Moves.putObj rfl)
    have hpost : P (.returned (.tuple #[.int .i64 0, .bool false])) (W.drew.putObj D (.deferred none)) := by
      rw [← HP.out]
      refine ⟨?_, Moves.below hI.below hI.below.size hm (fun k e => by omega)⟩
      rw [List.length_zipIdx, List.take_length] at hf
      rw [hf]
      rfl
    have HPP := Lib.hid hpost
    have hcv : W.cell? ⟨w.heap.size + 1 + 1, 0, none⟩ = some (.int .i64 0) := hI.vb.cell
    have hcf : W.cell? ⟨w.heap.size + 1 + 1 + 1, 0, none⟩ = some (.bool false) := hI.fb.cell
    have hK' : W.drew.heap[D]? = some (.deferred (some [])) := hK
    clear hI hpost hm hX
    gi_wp2
    gi_region
    all_goals
      gi_wp2
      rw [Exit.noGoto_ret]
      refine ⟨by simp, .inl ⟨_, _, rfl, run_takeDeferred hK', ?_⟩⟩
      exact ⟨_, results_tmp2 (t := 4) (u := 5) rfl _ _ _, HPP.out⟩
  case stop =>
    have hfol : Tryd.prog.follows .mixedOrders = true := by kernel_rfl
    rintro X D c pre W hD hXD hpre ⟨rfl, v, hI, hf⟩ hX hK
    have hm : Moves (fun k => k = D) W (W.drew.putObj D (.deferred none)) := (Moves.refl _ _).drew.trans (Moves.putObj rfl)
    have hpost : P (.returned (.tuple #[.int .i64 v, .bool true])) (W.drew.putObj D (.deferred none)) := by
      rw [← HP.out]
      refine ⟨?_, Moves.below hI.below hI.below.size hm (fun k e => by omega)⟩
      rw [hf]
      rfl
    have HPP := Lib.hid hpost
    have hcv : W.cell? ⟨w.heap.size + 1 + 1, 0, none⟩ = some (.int .i64 v) := hI.vb.cell
    have hcf : W.cell? ⟨w.heap.size + 1 + 1 + 1, 0, none⟩ = some (.bool true) := hI.fb.cell
    have hK' : W.drew.heap[D]? = some (.deferred (some [])) := hK
    clear hI hpost hm hX
    gi_wp2
    gi_region
    all_goals
      gi_wp2
      rw [Exit.noGoto_ret]
      refine ⟨by simp, .inl ⟨_, _, rfl, run_takeDeferred hK', ?_⟩⟩
      exact ⟨_, results_tmp2 (t := 4) (u := 5) rfl _ _ _, HPP.out⟩
end Go.Proofs.YtlmkefmfhdjmmaaDoor

namespace Go.Proofs.YtlmkefmfhdjmmaaDoor
open Go.RowKit Go.Extern.Stop Go.Stop Go.Extern Go.Shelf

abbrev tDN (t : Nat) : Value := .pointer (some ⟨3, t, none⟩)
abbrev rtIN (t : Nat) : Value := .iface 133 (.agg #[tDN t])
abbrev vAN (t : Nat) (p : Addr) (fl : Int) : Value := .agg #[tDN t, .pointer (some p), .int .u64 fl]
theorem asKindN (h : Value) (w : World) : (Go.method 309 133 (.agg #[h]) "Kind").run Tryd.prog w = .ok (124, h) w := by kernel_rfl
theorem asElemN (h : Value) (w : World) : (Go.method 309 133 (.agg #[h]) "Elem").run Tryd.prog w = .ok (134, .agg #[h]) w := by kernel_rfl
theorem asImplementsN (h : Value) (w : World) : (Go.method 309 133 (.agg #[h]) "Implements").run Tryd.prog w = .ok (135, .agg #[h]) w := by kernel_rfl
theorem asAssignableN (h : Value) (w : World) : (Go.method 309 133 (.agg #[h]) "AssignableTo").run Tryd.prog w = .ok (132, .agg #[h]) w := by kernel_rfl
theorem rlmN (z : Sem Value) (f : TypeId → Addr → Nat → Nat → Sem Value) (v : Value) :
    ReflectliteValue.method z f #[v] = (do match ← ReflectliteValue.parts v with | none => z | some (t, a, fl) => f t a fl (fl % 32)) := rfl
theorem rlsN (v x : Value) : ReflectliteValue.set #[v, x] = (do
    let (some (dst, a, fl), some (src, b, _)) := (← ReflectliteValue.parts v, ← ReflectliteValue.parts x)
      | unsupported (.noEntry "extern/(internal/reflectlite.Value).Set.zeroValue")
    if fl / ReflectliteValue.flagAddr % 2 == 0 then unsupported (.noEntry "extern/(internal/reflectlite.Value).Set.unaddressable")
    let val ← loadVar src b
    if ← Rtype.directlyAssignable dst src then storeVar dst a val
    else if ← Rtype.implements dst src then
      if (← Rtype.kind src) == 20 then
        match val with
        | .nilIface => unsupported (.noEntry "extern/reflectlite: a nil value of one interface type handed on as a value of another")
        | _ => storeVar dst a val
      else storeVar dst a (.iface src val)
    else panicString ("reflectlite.Set: value of type " ++ (← Rtype.spelt src) ++ " is not assignable to type " ++ (← Rtype.spelt dst))
    pure (.tuple #[])) := rfl
theorem valueOfPLN (t : Addr) (w : World) : (ReflectliteValue.unpack (.iface 95 (.pointer (some t)))).run Tryd.prog w = .ok (vAN 95 ⟨w.heap.size, 0, none⟩ 150) (w.alloc (.cells #[.pointer (some t)] 95)) := by kernel_rfl
theorem typePLN (a : Addr) (w : World) : (ReflectliteValue.methodAny (ReflectliteValue.valueError "reflectlite.Value.Type" 0) (fun t _ _ _ => ReflectliteType.toType t) #[vAN 95 a 150]).run Tryd.prog w = .ok (rtIN 95) w := by kernel_rfl
theorem kindPLN (w : World) : ((ReflectliteType.abiMethod fun t => (fun a : Nat => Value.int IntKind.u8 (a : Int)) <$> Rtype.kind t) #[tDN 95]).run Tryd.prog w = .ok (.int .u8 22) w := by kernel_rfl
theorem kindELN (w : World) : ((ReflectliteType.abiMethod fun t => (fun a : Nat => Value.int IntKind.u8 (a : Int)) <$> Rtype.kind t) #[tDN 93]).run Tryd.prog w = .ok (.int .u8 25) w := by kernel_rfl
theorem partsPLN (a : Addr) (w : World) : (ReflectliteValue.parts (vAN 95 a 150)).run Tryd.prog w = .ok (some (95, a, 150)) w := by kernel_rfl
theorem isNilPLN (a p : Addr) (W : World) (ha : W.cell? a = some (.pointer (some p))) :
    (ReflectliteValue.method (ReflectliteValue.valueError "reflectlite.Value.IsNil" 0) ReflectliteValue.isNil #[vAN 95 a 150]).run Tryd.prog W = .ok (.bool false) W := by
  rw [rlmN]
  simp only [Sem.run_bind, partsPLN, Result.andThen]
  simp [ReflectliteValue.isNil, loadVar, isAgg, underlying, Tryd.underlying95, ha, Result.andThen]
theorem elemPLN (w : World) : (ReflectliteType.method ReflectliteType.elem #[.agg #[tDN 95]]).run Tryd.prog w = .ok (rtIN 93) w := by kernel_rfl
theorem implementsLN (w : World) : (ReflectliteType.relation "Implements" ReflectliteType.implements_ #[.agg #[tDN 93], rtIN 51]).run Tryd.prog w = .ok (.bool true) w := by kernel_rfl
theorem typeOfLN (v : Value) (w : World) : (ReflectliteType.typeOf #[.iface 93 v]).run Tryd.prog w = .ok (rtIN 93) w := by kernel_rfl
theorem elemOfLN (w : World) : (Rtype.elem? 95).run Tryd.prog w = .ok (some 93) w := by kernel_rfl
theorem mkLN (p : Addr) (w : World) : (ReflectliteValue.mk 93 p ReflectliteValue.flagAddr).run Tryd.prog w = .ok (vAN 93 p 409) w := by kernel_rfl
theorem elemVLN (a p : Addr) (W : World) (ha : W.cell? a = some (.pointer (some p))) :
    (ReflectliteValue.method (ReflectliteValue.valueError "reflectlite.Value.Elem" 0) ReflectliteValue.elem #[vAN 95 a 150]).run Tryd.prog W = .ok (vAN 93 p 409) W := by
  rw [rlmN]
  simp only [Sem.run_bind, partsPLN, Result.andThen]
  simp [ReflectliteValue.elem, loadVar, isAgg, underlying, Tryd.underlying95, ha, Result.andThen, elemOfLN, mkLN]
theorem partsALN (a : Addr) (w : World) : (ReflectliteValue.parts (vAN 93 a 409)).run Tryd.prog w = .ok (some (93, a, 409)) w := by kernel_rfl
theorem partsBLN (a : Addr) (w : World) : (ReflectliteValue.parts (vAN 93 a 153)).run Tryd.prog w = .ok (some (93, a, 153)) w := by kernel_rfl
theorem directLN (w : World) : (Rtype.directlyAssignable 93 93).run Tryd.prog w = .ok true w := by kernel_rfl
theorem assignLLN (w : World) : (ReflectliteType.relation "AssignableTo" ReflectliteType.assignableTo #[.agg #[tDN 93], rtIN 93]).run Tryd.prog w = .ok (.bool true) w := by kernel_rfl
theorem valueOfLN (l : Int) (x : Value) (w : World) : (ReflectliteValue.unpack (.iface 93 (.agg #[.int .i64 l, x]))).run Tryd.prog w = .ok (vAN 93 ⟨w.heap.size, 0, none⟩ 153) (w.alloc (.cells #[.int .i64 l, x] 93)) := by kernel_rfl
theorem setLN (g h : Nat) (l n : Int) (u v : Value) (W : World) (hb : W.heap[h]? = some (.cells #[.int .i64 l, .int .i64 n] 93 (0, 0))) (ht : W.heap[g]? = some (.cells #[u, v] 93 (0, 0))) :
    (ReflectliteValue.set #[vAN 93 ⟨g, 0, none⟩ 409, vAN 93 ⟨h, 0, none⟩ 153]).run Tryd.prog W = .ok (.tuple #[]) (W.setRow g #[.int .i64 l, .int .i64 n]) := by
  rw [rlsN]
  simp only [Sem.run_bind, partsALN, partsBLN, Result.andThen]
  have h1 := run_loadVar_row W h 93 93 _ (0, 0) _ hb Tryd.underlying93 rfl (by kernel_rfl)
  have h2 := run_storeVar_row (P := Tryd.prog) W g 93 93 _ #[.int .i64 l, .int .i64 n] ht (by kernel_rfl) rfl (by simp [Value.oneCell'])
  have hf : (409 / ReflectliteValue.flagAddr % 2 == 0) = false := by decide
  simp only [hf, Bool.false_eq_true, if_false, Sem.run_bind, h1, Result.andThen, directLN, if_true, h2, Sem.run_pure]
theorem as_nilN (t : Value) (w : World) : Calls Tryd.prog 56 #[.nilIface, t] w fun e w' => e = .returned (.bool false) ∧ w = w' := by
  go_enter Tryd.func56, Tryd.ntmps56
  go_wp2
  go_ret
  exact ⟨rfl, rfl⟩
theorem below_setRow2N {n g : Nat} {a b : World} (h : Below n a b) (cs : Array Value) : Below n (a.setRow g cs) (b.setRow g cs) := by
  refine ⟨h.os, h.tape, h.output, by simpa using h.size, fun k hk => ?_⟩
  unfold World.setRow
  simp only [Array.getElem?_modify]
  rw [h.block k hk]
set_option maxHeartbeats 4000000 in
/-- errors.as: the error is a line's, and so is the target. -/
theorem as_hitLN (l n : Int) (g v : Nat) (x y : Value) (w : World) (hv : w.cell? ⟨v, 0, none⟩ = some (.pointer (some ⟨g, 0, none⟩))) (ht : w.heap[g]? = some (.cells #[x, y] 93 (0, 0))) :
    Calls Tryd.prog 74 #[.iface 93 (.agg #[.int .i64 l, .int .i64 n]), .iface 95 (.pointer (some ⟨g, 0, none⟩)), vAN 95 ⟨v, 0, none⟩ 150, rtIN 93] w fun e w' => e = .returned (.bool true) ∧ Below w.heap.size (w.setRow g #[.int .i64 l, .int .i64 n]) w' := by
  have h10 := @run_callFunc_extern Tryd.prog 62 _ ReflectliteType.typeOf Tryd.func62 (by kernel_rfl) (by kernel_rfl) (by kernel_rfl) (by kernel_rfl)
  have h35 := @run_callFunc_extern Tryd.prog 132 _ (ReflectliteType.relation "AssignableTo" ReflectliteType.assignableTo) Tryd.func132 (by kernel_rfl) (by kernel_rfl) (by kernel_rfl) (by kernel_rfl)
  have h6 := @run_callFunc_extern Tryd.prog 71 _ (fun args => ReflectliteValue.unpack (args.getD 0 (.tuple #[]))) Tryd.func71 (by kernel_rfl) (by kernel_rfl) (by kernel_rfl) (by kernel_rfl)
  have h11 := @run_callFunc_extern Tryd.prog 84 _ (ReflectliteValue.method (ReflectliteValue.valueError "reflectlite.Value.Elem" 0) ReflectliteValue.elem) Tryd.func84 (by kernel_rfl) (by kernel_rfl) (by kernel_rfl) (by kernel_rfl)
  have h12 := @run_callFunc_extern Tryd.prog 85 _ ReflectliteValue.set Tryd.func85 (by kernel_rfl) (by kernel_rfl) (by kernel_rfl) (by kernel_rfl)
  have tO := typeOfLN
  have mA := asAssignableN
  have aL := assignLLN
  have vL := valueOfLN
  have lg : g < w.heap.size := (Array.getElem?_eq_some_iff.1 ht).1
  have lv : v < w.heap.size := World.block_lt_of_cell? w _ hv
  have el := elemVLN ⟨v, 0, none⟩ ⟨g, 0, none⟩ (w.alloc (.cells #[tDN 95, .pointer (some ⟨v, 0, none⟩), .int .u64 150] 121)) (by rw [World.cell?_alloc_lt _ _ ⟨v, 0, none⟩ lv]; exact hv)
  have st := setLN g (w.heap.size + 1) l n x y ((w.alloc (.cells #[tDN 95, .pointer (some ⟨v, 0, none⟩), .int .u64 150] 121)).alloc (.cells #[.int .i64 l, .int .i64 n] 93))
    (by have := heap_alloc_new (w.alloc (.cells #[tDN 95, .pointer (some ⟨v, 0, none⟩), .int .u64 150] 121)) (.cells #[.int .i64 l, .int .i64 n] 93); rwa [World.size_alloc] at this)
    ((Below.heap_alloc _ _ _ (by simp; omega)).trans ((Below.heap_alloc _ _ _ (by omega)).trans ht))
  have hb2 := below_setRow2N (g := g) (((Below.refl w.heap.size w).alloc (Nat.le_refl _) (.cells #[tDN 95, .pointer (some ⟨v, 0, none⟩), .int .u64 150] 121)).alloc (by simp) (.cells #[.int .i64 l, .int .i64 n] 93)) #[.int .i64 l, .int .i64 n]
  have HB := Lib.hid hb2
  clear hb2
  go_enter Tryd.func74, Tryd.ntmps74
  go_wp2_with fail
  refine wp_loop_rounds 1 ?_
  rw [rounds_succ]
  go_wp2
  go_ret
  exact ⟨rfl, HB.out⟩
set_option maxHeartbeats 4000000 in
/-- errors.As, by what errors.as answers. -/
theorem as_frontLN (err : Value) (T : TypeId) (hT : ∃ z, err = .iface T z) (g : Nat) (w : World) (hg : w.cell? ⟨2, 0, none⟩ = some (rtIN 51)) (b : Bool) (R : World → Prop)
    (hA : Calls Tryd.prog 74 #[err, .iface 95 (.pointer (some ⟨g, 0, none⟩)), vAN 95 ⟨w.heap.size, 0, none⟩ 150, rtIN 93] ((w.alloc (.cells #[.pointer (some ⟨g, 0, none⟩)] 95)).alloc (.cells #[tDN 95, .pointer (some ⟨w.heap.size, 0, none⟩), .int .u64 150] 121)) fun e w' => e = .returned (.bool b) ∧ R w') :
    Calls Tryd.prog 56 #[err, .iface 95 (.pointer (some ⟨g, 0, none⟩))] w fun e w' => e = .returned (.bool b) ∧ R w' := by
  obtain ⟨z, rfl⟩ := hT
  have h6 := @run_callFunc_extern Tryd.prog 71 _ (fun args => ReflectliteValue.unpack (args.getD 0 (.tuple #[]))) Tryd.func71 (by kernel_rfl) (by kernel_rfl) (by kernel_rfl) (by kernel_rfl)
  have h7 := @run_callFunc_extern Tryd.prog 72 _ (ReflectliteValue.methodAny (ReflectliteValue.valueError "reflectlite.Value.Type" 0) (fun t _ _ _ => ReflectliteType.toType t)) Tryd.func72 (by kernel_rfl) (by kernel_rfl) (by kernel_rfl) (by kernel_rfl)
  have h8 := @run_callFunc_extern Tryd.prog 73 _ (ReflectliteValue.method (ReflectliteValue.valueError "reflectlite.Value.IsNil" 0) ReflectliteValue.isNil) Tryd.func73 (by kernel_rfl) (by kernel_rfl) (by kernel_rfl) (by kernel_rfl)
  have h27 := @run_callFunc_extern Tryd.prog 124 _ (ReflectliteType.abiMethod fun t => do pure (.int .u8 (← Rtype.kind t))) Tryd.func124 (by kernel_rfl) (by kernel_rfl) (by kernel_rfl) (by kernel_rfl)
  have h37 := @run_callFunc_extern Tryd.prog 134 _ (ReflectliteType.method ReflectliteType.elem) Tryd.func134 (by kernel_rfl) (by kernel_rfl) (by kernel_rfl) (by kernel_rfl)
  have h38 := @run_callFunc_extern Tryd.prog 135 _ (ReflectliteType.relation "Implements" ReflectliteType.implements_) Tryd.func135 (by kernel_rfl) (by kernel_rfl) (by kernel_rfl) (by kernel_rfl)
  have f6 := valueOfPLN
  have f7 := typePLN
  have mK := asKindN
  have mE := asElemN
  have mI := asImplementsN
  have kP := kindPLN
  have kE := kindELN
  have eP := elemPLN
  have iE := implementsLN
  have n8 := isNilPLN ⟨w.heap.size, 0, none⟩ ⟨g, 0, none⟩ ((w.alloc (.cells #[.pointer (some ⟨g, 0, none⟩)] 95)).alloc (.cells #[tDN 95, .pointer (some ⟨w.heap.size, 0, none⟩), .int .u64 150] 121)) (by simp)
  have lg := World.block_lt_of_cell? w _ hg
  have hg2 : ((w.alloc (.cells #[.pointer (some ⟨g, 0, none⟩)] 95)).alloc (.cells #[tDN 95, .pointer (some ⟨w.heap.size, 0, none⟩), .int .u64 150] 121)).cell? ⟨2, 0, none⟩ = some (rtIN 51) := by
    rw [World.cell?_alloc_lt _ _ ⟨2, 0, none⟩ (by simp only [World.size_alloc]; exact Nat.lt_succ_of_lt lg), World.cell?_alloc_lt _ _ ⟨2, 0, none⟩ lg]; exact hg
  have HA := Lib.hid hA
  clear hA
  go_enter Tryd.func56, Tryd.ntmps56
  go_wp2_with fail
  refine HA.out.mono ?_
  rintro e w' ⟨rfl, hR⟩
  have HR := Lib.hid hR
  clear hR
  go_wp2
  go_ret
  exact ⟨rfl, HR.out⟩
theorem row_twoN {w : World} {A B o : Obj} {g : Nat} (h : w.heap[g]? = some o) : ((w.alloc A).alloc B).heap[g]? = some o := by
  have hg := (Array.getElem?_eq_some_iff.1 h).1
  rw [Below.heap_alloc _ _ _ (by simp; omega), Below.heap_alloc _ _ _ hg]
  exact h
theorem asL_hitN (l n : Int) (g : Nat) (x y : Value) (w : World) (hG : w.cell? ⟨2, 0, none⟩ = some (rtIN 51)) (ht : w.heap[g]? = some (.cells #[x, y] 93 (0, 0))) :
    Calls Tryd.prog 56 #[.iface 93 (.agg #[.int .i64 l, .int .i64 n]), .iface 95 (.pointer (some ⟨g, 0, none⟩))] w fun e w' => e = .returned (.bool true) ∧ Below w.heap.size (w.setRow g #[.int .i64 l, .int .i64 n]) w' :=
  as_frontLN _ 93 ⟨_, rfl⟩ g w hG true (Below w.heap.size (w.setRow g #[.int .i64 l, .int .i64 n]))
    ((as_hitLN l n g w.heap.size x y _ (by simp) (row_twoN ht)).mono fun _ _ ⟨h1, h2⟩ => ⟨h1, (below_setRow2N (((Below.refl w.heap.size w).alloc (Nat.le_refl _) _).alloc (by simp) _) _).trans (h2.mono (by simp; omega))⟩)
theorem moves_drewN0 (w : World) (q : Nat) : Moves (fun _ => False) w (w.drewN q) := by
  induction q with
  | zero => exact Moves.refl _ _
  | succ q ih => exact ih.drew
abbrev fltO (n l : Int) : Obj := .cells #[.int .i64 n, .int .i64 l] 93 (0, 0)
set_option maxHeartbeats 1000000 in
theorem told_nilN (w : World) : Calls Tryd.prog 40 #[.nilIface] w fun e w' => e = .returned (.tuple #[.int .i64 0, .int .i64 0]) ∧ Below w.heap.size w w' := by
  go_enter Tryd.func40, Tryd.ntmps40
  go_wp2_with fail
  refine (as_nilN _ _).mono ?_
  rintro e w' ⟨rfl, rfl⟩
  go_wp2
  go_quiet (fail)
  go_wp2
  go_ret2
  exact ⟨rfl, (((Below.refl _ _).alloc (Nat.le_refl _) _).trans (Moves.below (Below.refl _ _) (by simp) (moves_drewN0 _ _) (fun k h => h.elim)))⟩
set_option maxHeartbeats 1000000 in
theorem told_fault (n l : Int) (w : World) (hG : w.cell? ⟨2, 0, none⟩ = some (rtIN 51)) : Calls Tryd.prog 40 #[.iface 93 (.agg #[.int .i64 n, .int .i64 l])] w fun e w' => e = .returned (.tuple #[.int .i64 l, .int .i64 n]) ∧ Below w.heap.size w w' := by
  have A0 : Below w.heap.size w (w.alloc (fltO 0 0)) := (Below.refl _ _).alloc (Nat.le_refl _) _
  have hG0 := cell_keepN A0 hG
  have r0 : (w.alloc (fltO 0 0)).heap[w.heap.size]? = some (fltO 0 0) := heap_alloc_new _ _
  have HH := Lib.hid (asL_hitN n l w.heap.size _ _ _ hG0 r0)
  have HA0 := Lib.hid A0
  have R0 := Lib.hid r0
  clear A0 r0 hG0
  go_enter Tryd.func40, Tryd.ntmps40
  go_wp2_with fail
  refine HH.out.mono ?_
  rintro e w1 ⟨rfl, b1⟩
  have r0 : w1.heap[w.heap.size]? = some (fltO n l) := (b1.block _ (by simp)).trans (setRow_heap _ _ _ _ _ _ R0.out)
  have B1 : Below w.heap.size w w1 := (below_setRow HA0.out (Nat.le_refl _) _).trans (b1.mono (by simp))
  have c0 : w1.cell? ⟨w.heap.size, 0, none⟩ = some (.int .i64 n) := by rw [cell_of_row _ _ 0 _ _ _ r0]; rfl
  have c1 : w1.cell? ⟨w.heap.size, 1, none⟩ = some (.int .i64 l) := by rw [cell_of_row _ _ 1 _ _ _ r0]; rfl
  have HB1 := Lib.hid B1
  clear r0 b1 B1
  go_wp2
  go_quiet (fail)
  go_wp2
  go_ret2
  exact ⟨rfl, HB1.out.trans (Moves.below (Below.refl _ _) HB1.out.size (moves_drewN0 _ _) (fun k h => h.elim))⟩
end Go.Proofs.YtlmkefmfhdjmmaaDoor
