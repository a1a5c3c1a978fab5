/- Ranges of numbers, plainly: maps, what they say, tight ones, one over another one. Ranges in memory; the iterator that goes through them. find: what the first range says that has a number. errors.As at a pointer to a fault; told. right, checked, ascends, isMap, count: whether ranges are a map. A quiet region that draws, inside a round. -/
import Derived.Test.YtcnbcaljpgdcpaaDoorBunA1
import Derived.Test.YtcnbcaljpgdcpaaDoorProg
import Derived.Stop.Asserts
import Derived.RowKitTokens
import Derived.LaidEql
import Derived.Sort.QuietIn
import Derived.OwnWalkIn
import Derived.RangeFuncCalls
namespace Go.Proofs.YtcnbcaljpgdcpaaDoor

/-- A range: its first number, its last one, its value. -/
abbrev Rng := Int × Int × Int
def okR (x : Rng) : Prop := 0 ≤ x.1 ∧ x.1 ≤ x.2.1 ∧ x.2.1 ≤ 1114111 ∧ 0 ≤ x.2.2 ∧ x.2.2 ≤ 31
instance okR_dec (x : Rng) : Decidable (okR x) := by unfold okR; infer_instance
/-- Right ranges that ascend. -/
def mapL (l : List Rng) : Prop := (∀ x ∈ l, okR x) ∧ l.Pairwise (fun x y => x.2.1 < y.1)
instance mapL_dec (l : List Rng) : Decidable (mapL l) := by unfold mapL; infer_instance
def findL : List Rng → Int → Option Int
  | [], _ => none
  | x :: l, r => if x.1 ≤ r ∧ r ≤ x.2.1 then some x.2.2 else findL l r
/-- No range begins right behind the one ahead with the same value. -/
def tightL (l : List Rng) : Prop := ∀ (i : Nat) (x y : Rng), l[i]? = some x → l[i + 1]? = some y → ¬ (x.2.1 + 1 = y.1 ∧ x.2.2 = y.2.2)
/-- What is said where the last one of the maps is the topmost. -/
def saidL : List (List Rng) → Int → Option Int
  | [], _ => none
  | a :: ls, r => (saidL ls r).or (findL a r)
def turnsOf (l : List Rng) : List Int := l.flatMap fun x => [x.1, x.2.1 + 1]
def turnsL (ls : List (List Rng)) : List Int := ls.flatMap turnsOf

theorem findL_some : ∀ {l : List Rng} {r v : Int}, findL l r = some v → ∃ x ∈ l, x.1 ≤ r ∧ r ≤ x.2.1 ∧ x.2.2 = v
  | [], r, v, h => by simp [findL] at h
  | x :: l, r, v, h => by
    unfold findL at h
    split at h
    · rename_i h1
      exact ⟨x, List.mem_cons_self, h1.1, h1.2, by simpa using h⟩
    · obtain ⟨y, hy, h2⟩ := findL_some h
      exact ⟨y, List.mem_cons_of_mem _ hy, h2⟩
theorem findL_none : ∀ {l : List Rng} {r : Int}, findL l r = none → ∀ x ∈ l, ¬ (x.1 ≤ r ∧ r ≤ x.2.1)
  | [], r, h, x, hx => by simp at hx
  | y :: l, r, h, x, hx => by
    unfold findL at h
    split at h
    · cases h
    · rename_i h1
      rcases List.mem_cons.1 hx with rfl | hx
      · exact h1
      · exact findL_none h x hx
theorem findL_none' : ∀ {l : List Rng} {r : Int}, (∀ x ∈ l, ¬ (x.1 ≤ r ∧ r ≤ x.2.1)) → findL l r = none
  | [], r, h => rfl
  | y :: l, r, h => by
    unfold findL
    rw [if_neg (h y List.mem_cons_self)]
    exact findL_none' fun x hx => h x (List.mem_cons_of_mem _ hx)
theorem findL_append : ∀ (a b : List Rng) (r : Int), findL (a ++ b) r = (findL a r).or (findL b r)
  | [], b, r => by simp [findL]
  | x :: a, b, r => by
    rw [List.cons_append, findL, findL]
    split
    · rfl
    · exact findL_append a b r
theorem mapL_tail {x : Rng} {l : List Rng} (h : mapL (x :: l)) : mapL l ∧ okR x ∧ ∀ y ∈ l, x.2.1 < y.1 :=
  ⟨⟨fun y hy => h.1 y (List.mem_cons_of_mem _ hy), (List.pairwise_cons.1 h.2).2⟩, h.1 x List.mem_cons_self, (List.pairwise_cons.1 h.2).1⟩
theorem tightL_tail {x : Rng} {l : List Rng} (h : tightL (x :: l)) : tightL l := fun i a b ha hb => h (i + 1) a b (by simpa using ha) (by simpa using hb)
/-- Of a map one range alone has a number. -/
theorem find_mem : ∀ {l : List Rng} {x : Rng} {r : Int}, mapL l → x ∈ l → x.1 ≤ r → r ≤ x.2.1 → findL l r = some x.2.2
  | y :: l, x, r, h, hx, h1, h2 => by
    obtain ⟨hl, hy, hlt⟩ := mapL_tail h
    unfold findL
    rcases List.mem_cons.1 hx with rfl | hx
    · rw [if_pos ⟨h1, h2⟩]
    · have := hlt x hx
      rw [if_neg (by omega)]
      exact find_mem hl hx h1 h2
/-- Tight maps that say the same are the same. -/
theorem tight_unique : ∀ (a b : List Rng), mapL a → mapL b → tightL a → tightL b → (∀ r, findL a r = findL b r) → a = b
  | [], [], _, _, _, _, _ => rfl
  | [], y :: b, _, hb, _, _, h => by
    have h1 := h y.1
    have hy := (mapL_tail hb).2.1
    unfold okR at hy
    rw [find_mem hb List.mem_cons_self (by omega) (by omega)] at h1
    cases h1
  | x :: a, [], ha, _, _, _, h => by
    have h1 := h x.1
    have hx := (mapL_tail ha).2.1
    unfold okR at hx
    rw [find_mem ha List.mem_cons_self (by omega) (by omega)] at h1
    cases h1
  | x :: a, y :: b, ha, hb, ta, tb, h => by
    obtain ⟨ha', hx, hxa⟩ := mapL_tail ha
    obtain ⟨hb', hy, hyb⟩ := mapL_tail hb
    unfold okR at hx hy
    have low : ∀ {x : Rng} {a : List Rng}, mapL (x :: a) → ∀ r v, findL (x :: a) r = some v → x.1 ≤ r := by
      intro x a ha r v hv
      obtain ⟨z, hz, h1, h2, _⟩ := findL_some hv
      obtain ⟨_, hx, hxa⟩ := mapL_tail ha
      unfold okR at hx
      rcases List.mem_cons.1 hz with rfl | hz
      · exact h1
      · have := hxa z hz; omega
    have fx := find_mem ha List.mem_cons_self (r := x.1) (by omega) (by omega)
    have fy := find_mem hb List.mem_cons_self (r := y.1) (by omega) (by omega)
    have e1 := low hb _ _ ((h x.1).symm.trans fx)
    have e2 := low ha _ _ ((h y.1).trans fy)
    have e : x.1 = y.1 := by omega
    have ev : x.2.2 = y.2.2 := by
      have := (h x.1).symm.trans fx
      rw [e, fy] at this
      exact (Option.some.inj this).symm
    have end_le : ∀ {x y : Rng} {a b : List Rng}, mapL (x :: a) → mapL (y :: b) → tightL (x :: a) → (∀ r, findL (x :: a) r = findL (y :: b) r) → x.1 = y.1 → x.2.2 = y.2.2 → y.2.1 ≤ x.2.1 := by
      intro x y a b ha hb ta h e ev
      obtain ⟨ha', hx, hxa⟩ := mapL_tail ha
      obtain ⟨hb', hy, hyb⟩ := mapL_tail hb
      unfold okR at hx hy
      rcases Int.lt_or_le x.2.1 y.2.1 with hlt | hle
      · exfalso
        have f1 := h (x.2.1 + 1)
        rw [find_mem hb List.mem_cons_self (by omega) (by omega)] at f1
        obtain ⟨z, hz, z1, z2, z3⟩ := findL_some f1
        rcases List.mem_cons.1 hz with rfl | hz
        · omega
        · cases a with
          | nil => simp at hz
          | cons q a' =>
            have hq := hxa q List.mem_cons_self
            have hzq : q.1 ≤ z.1 := by
              rcases List.mem_cons.1 hz with rfl | hz'
              · omega
              · have h1 := (mapL_tail ha').2.2 z hz'
                have h2 := (mapL_tail ha').2.1
                unfold okR at h2
                omega
            have fq := find_mem ha' List.mem_cons_self (r := q.1) (by have h2 := (mapL_tail ha').2.1; unfold okR at h2; omega) (by have h2 := (mapL_tail ha').2.1; unfold okR at h2; omega)
            have hq1 : q.1 = x.2.1 + 1 := by omega
            have fq2 : findL (x :: q :: a') (x.2.1 + 1) = some q.2.2 := by
              unfold findL
              rw [if_neg (by omega), ← hq1]
              exact fq
            rw [f1] at fq2
            exact ta 0 x q rfl rfl ⟨by omega, by rw [ev]; exact Option.some.inj fq2⟩
      · exact hle
    have et : x.2.1 = y.2.1 := Int.le_antisymm (end_le hb ha tb (fun r => (h r).symm) e.symm ev.symm) (end_le ha hb ta h e ev)
    have exy : x = y := Prod.ext e (Prod.ext et ev)
    subst exy
    rw [tight_unique a b ha' hb' (tightL_tail ta) (tightL_tail tb) fun r => ?_]
    rcases Int.lt_or_le x.2.1 r with hr | hr
    · have := h r
      unfold findL at this
      rwa [if_neg (by omega), if_neg (by omega)] at this
    · rw [findL_none' (fun z hz => by have := hxa z hz; omega), findL_none' (fun z hz => by have := hyb z hz; omega)]

theorem saidL_some : ∀ {ls : List (List Rng)} {r v : Int}, saidL ls r = some v → ∃ a ∈ ls, ∃ x ∈ a, x.1 ≤ r ∧ r ≤ x.2.1 ∧ x.2.2 = v
  | [], r, v, h => by simp [saidL] at h
  | a :: ls, r, v, h => by
    unfold saidL at h
    cases hs : saidL ls r with
    | some u =>
      rw [hs] at h
      obtain ⟨b, hb, h2⟩ := saidL_some (hs.trans h)
      exact ⟨b, List.mem_cons_of_mem _ hb, h2⟩
    | none =>
      rw [hs] at h
      obtain ⟨x, hx, h2⟩ := findL_some (by simpa using h)
      exact ⟨a, List.mem_cons_self, x, hx, h2⟩
theorem findL_same : ∀ {l : List Rng} {p r : Int}, p ≤ r → (∀ t ∈ turnsOf l, ¬ (p < t ∧ t ≤ r)) → findL l r = findL l p
  | [], p, r, _, _ => rfl
  | x :: l, p, r, hpr, h => by
    have h1 := h x.1 (by simp [turnsOf])
    have h2 := h (x.2.1 + 1) (by simp [turnsOf])
    have ih := findL_same (l := l) hpr fun t ht => h t (by unfold turnsOf at ht ⊢; rw [List.flatMap_cons]; exact List.mem_append_right _ ht)
    unfold findL
    rw [ih]
    by_cases hp : x.1 ≤ p ∧ p ≤ x.2.1
    · rw [if_pos hp, if_pos (by omega)]
    · rw [if_neg hp, if_neg (by omega)]
theorem saidL_same : ∀ {ls : List (List Rng)} {p r : Int}, p ≤ r → (∀ t ∈ turnsL ls, ¬ (p < t ∧ t ≤ r)) → saidL ls r = saidL ls p
  | [], p, r, _, _ => rfl
  | a :: ls, p, r, hpr, h => by
    unfold saidL
    rw [saidL_same hpr fun t ht => h t (by unfold turnsL at ht ⊢; rw [List.flatMap_cons]; exact List.mem_append_right _ ht),
      findL_same hpr fun t ht => h t (by unfold turnsL; rw [List.flatMap_cons]; exact List.mem_append_left _ ht)]
theorem turn_of {ls : List (List Rng)} {a : List Rng} {x : Rng} (ha : a ∈ ls) (hx : x ∈ a) : x.1 ∈ turnsL ls ∧ x.2.1 + 1 ∈ turnsL ls := by
  constructor
  · exact List.mem_flatMap.2 ⟨a, ha, List.mem_flatMap.2 ⟨x, hx, by simp⟩⟩
  · exact List.mem_flatMap.2 ⟨a, ha, List.mem_flatMap.2 ⟨x, hx, by simp⟩⟩
theorem turnsOf_length : ∀ l : List Rng, (turnsOf l).length = 2 * l.length
  | [] => rfl
  | x :: l => by
    have := turnsOf_length l
    unfold turnsOf at this ⊢
    rw [List.flatMap_cons, List.length_append, this]
    simp
    omega

/-- A range behind a tight map. -/
def joinL (m : List Rng) (x : Rng) : List Rng := match m.getLast? with
  | some y => if y.2.1 + 1 = x.1 ∧ y.2.2 = x.2.2 then m.dropLast ++ [(y.1, x.2.1, y.2.2)] else m ++ [x]
  | none => m ++ [x]
/-- What has been laid of the numbers below p. -/
def LayUpto (ls : List (List Rng)) (m : List Rng) (p : Int) : Prop := mapL m ∧ tightL m ∧ (∀ x ∈ m, x.2.1 < p) ∧ ∀ r, findL m r = if r < p then saidL ls r else none
def layStep (ls : List (List Rng)) (p q : Int) (m : List Rng) : List Rng := match saidL ls p with
  | some v => joinL m (p, q - 1, v)
  | none => m
theorem joinL_length (m : List Rng) (x : Rng) : (joinL m x).length ≤ m.length + 1 := by
  unfold joinL
  split
  · split
    · rw [List.length_append, List.length_dropLast, List.length_singleton]; omega
    · simp
  · simp
theorem getLast_split {α : Type} {m : List α} {y : α} (h : m.getLast? = some y) : m = m.dropLast ++ [y] := by
  cases m with
  | nil => simp at h
  | cons a t =>
    rw [List.getLast?_eq_some_getLast (by simp)] at h
    rw [← Option.some.inj h]
    exact (List.dropLast_concat_getLast (by simp)).symm
theorem mapL_snoc {m : List Rng} {x : Rng} : mapL (m ++ [x]) ↔ mapL m ∧ okR x ∧ ∀ y ∈ m, y.2.1 < x.1 := by
  unfold mapL
  rw [List.pairwise_append]
  constructor
  · rintro ⟨h1, h2, _, h3⟩
    exact ⟨⟨fun y hy => h1 y (List.mem_append_left _ hy), h2⟩, h1 x (List.mem_append_right _ (List.mem_singleton.2 rfl)), fun y hy => h3 y hy x (List.mem_singleton.2 rfl)⟩
  · rintro ⟨⟨h1, h2⟩, h3, h4⟩
    refine ⟨fun y hy => ?_, h2, List.pairwise_singleton _ _, fun a ha b hb => ?_⟩
    · rcases List.mem_append.1 hy with h | h
      · exact h1 y h
      · rw [List.mem_singleton.1 h]; exact h3
    · rw [List.mem_singleton.1 hb]; exact h4 a ha
theorem tightL_snoc {m : List Rng} {x : Rng} (h : tightL m) (hl : ∀ y, m.getLast? = some y → ¬ (y.2.1 + 1 = x.1 ∧ y.2.2 = x.2.2)) : tightL (m ++ [x]) := by
  intro i a b ha hb
  rcases Nat.lt_or_ge (i + 1) m.length with hi | hi
  · rw [List.getElem?_append_left hi] at hb
    rw [List.getElem?_append_left (by omega)] at ha
    exact h i a b ha hb
  · have hlt := (List.getElem?_eq_some_iff.1 hb).1
    simp at hlt
    have hi2 : i + 1 = m.length := by omega
    rw [List.getElem?_append_left (by omega)] at ha
    rw [List.getElem?_append_right (by omega), hi2] at hb
    simp at hb
    rw [← hb]
    refine hl a ?_
    rw [List.getLast?_eq_getElem?, ← hi2]
    exact ha
theorem tightL_init {m : List Rng} {x : Rng} (h : tightL (m ++ [x])) : tightL m ∧ ∀ y, m.getLast? = some y → ¬ (y.2.1 + 1 = x.1 ∧ y.2.2 = x.2.2) := by
  refine ⟨fun i a b ha hb => ?_, fun y hy => ?_⟩
  · have h1 := (List.getElem?_eq_some_iff.1 ha).1
    have h2 := (List.getElem?_eq_some_iff.1 hb).1
    exact h i a b (by rw [List.getElem?_append_left h1]; exact ha) (by rw [List.getElem?_append_left h2]; exact hb)
  · rw [List.getLast?_eq_getElem?] at hy
    have h1 := (List.getElem?_eq_some_iff.1 hy).1
    refine h (m.length - 1) y x (by rw [List.getElem?_append_left h1]; exact hy) ?_
    rw [List.getElem?_append_right (by omega), show m.length - 1 + 1 - m.length = 0 from by omega]
    rfl
theorem LayUpto.step {ls : List (List Rng)} {m : List Rng} {p q : Int} (h : LayUpto ls m p) (hls : ∀ a ∈ ls, ∀ x ∈ a, okR x) (hpq : p < q) (ht : ∀ t ∈ turnsL ls, ¬ (p < t ∧ t < q)) : LayUpto ls (layStep ls p q m) q := by
  obtain ⟨hm, htm, hlt, hf⟩ := h
  have same : ∀ r, p ≤ r → r < q → saidL ls r = saidL ls p := fun r h1 h2 => saidL_same h1 fun t htt hh => ht t htt ⟨hh.1, by omega⟩
  unfold layStep
  cases hs : saidL ls p with
  | none =>
    refine ⟨hm, htm, fun x hx => by have := hlt x hx; omega, fun r => ?_⟩
    rw [hf r]
    by_cases h1 : r < p
    · rw [if_pos h1, if_pos (by omega)]
    · rw [if_neg h1]
      by_cases h2 : r < q
      · rw [if_pos h2, same r (by omega) h2, hs]
      · rw [if_neg h2]
  | some v =>
    have hok : okR (p, q - 1, v) := by
      obtain ⟨a, ha, x, hx, h1, _, h3⟩ := saidL_some hs
      obtain ⟨b, hb, y, hy, _, h5, _⟩ := saidL_some ((same (q - 1) (by omega) (by omega)).trans hs)
      have o1 := hls a ha x hx
      have o2 := hls b hb y hy
      unfold okR at o1 o2 ⊢
      refine ⟨?_, ?_, ?_, ?_, ?_⟩ <;> simp only <;> omega
    have hnew : LayUpto ls (m ++ [(p, q - 1, v)]) q ∨ ∃ y, m.getLast? = some y ∧ (y.2.1 + 1 = p ∧ y.2.2 = v) := by
      by_cases hy : ∃ y, m.getLast? = some y ∧ (y.2.1 + 1 = p ∧ y.2.2 = v)
      · exact .inr hy
      · refine .inl ⟨mapL_snoc.2 ⟨hm, hok, hlt⟩, tightL_snoc htm fun y h1 h2 => hy ⟨y, h1, h2⟩, fun x hx => ?_, fun r => ?_⟩
        · rcases List.mem_append.1 hx with h1 | h1
          · have := hlt x h1; omega
          · rw [List.mem_singleton.1 h1]; show q - 1 < q; omega
        · rw [findL_append, hf r]
          by_cases h1 : r < p
          · rw [if_pos h1, if_pos (by omega)]
            have : findL [(p, q - 1, v)] r = none := findL_none' fun x hx => by rw [List.mem_singleton.1 hx]; show ¬ (p ≤ r ∧ _); omega
            rw [this]; simp
          · rw [if_neg h1]
            show findL [(p, q - 1, v)] r = _
            unfold findL
            by_cases h2 : r < q
            · rw [if_pos h2, if_pos (show p ≤ r ∧ r ≤ q - 1 by omega), same r (by omega) h2, hs]
            · rw [if_neg h2, if_neg (show ¬ (p ≤ r ∧ r ≤ q - 1) by omega)]; rfl
    show LayUpto ls (joinL m (p, q - 1, v)) q
    rcases hnew with hnew | ⟨y, hy, hyp, hyv⟩
    · unfold joinL
      split
      · rename_i y hy
        by_cases hc : y.2.1 + 1 = p ∧ y.2.2 = v
        · rw [if_pos hc]
          have hmm := getLast_split hy
          rw [hmm, mapL_snoc] at hm
          rw [hmm] at htm
          obtain ⟨i1, i2⟩ := tightL_init htm
          obtain ⟨n1, n2, n3⟩ := hnew
          exfalso
          have : tightL (m ++ [(p, q - 1, v)]) := n2
          have hl := (tightL_init this).2 y hy
          exact hl hc
        · rw [if_neg hc]
          exact hnew
      · exact hnew
    · unfold joinL
      rw [hy]
      simp only
      rw [if_pos ⟨hyp, hyv⟩]
      have hmm := getLast_split hy
      have hm' := hm
      have htm' := htm
      rw [hmm] at hm' htm'
      rw [mapL_snoc] at hm'
      obtain ⟨g1, g2, g3⟩ := hm'
      obtain ⟨i1, i2⟩ := tightL_init htm'
      have hyo : okR (y.1, q - 1, y.2.2) := by
        unfold okR at hok g2 ⊢
        simp only at hok ⊢
        omega
      refine ⟨mapL_snoc.2 ⟨g1, hyo, g3⟩, tightL_snoc i1 i2, fun x hx => ?_, fun r => ?_⟩
      · rcases List.mem_append.1 hx with h1 | h1
        · have := hlt x (by rw [hmm]; exact List.mem_append_left _ h1); omega
        · rw [List.mem_singleton.1 h1]; show q - 1 < q; omega
      · have hfr := hf r
        rw [hmm, findL_append] at hfr
        rw [findL_append]
        have hyok := g2
        unfold okR at hyok
        have e1 : findL [y] r = if y.1 ≤ r ∧ r ≤ y.2.1 then some y.2.2 else none := rfl
        have e2 : findL [(y.1, q - 1, y.2.2)] r = if y.1 ≤ r ∧ r ≤ q - 1 then some y.2.2 else none := rfl
        rw [e1] at hfr
        rw [e2]
        by_cases h1 : r < p
        · rw [if_pos h1] at hfr
          rw [if_pos (show r < q by omega), ← hfr]
          by_cases h2 : y.1 ≤ r
          · rw [if_pos (show y.1 ≤ r ∧ r ≤ q - 1 from ⟨h2, by omega⟩), if_pos (show y.1 ≤ r ∧ r ≤ y.2.1 from ⟨h2, by omega⟩)]
          · rw [if_neg (show ¬ (y.1 ≤ r ∧ r ≤ q - 1) by omega), if_neg (show ¬ (y.1 ≤ r ∧ r ≤ y.2.1) by omega)]
        · rw [if_neg h1, if_neg (show ¬ (y.1 ≤ r ∧ r ≤ y.2.1) by omega)] at hfr
          have hn : findL m.dropLast r = none := by simpa using hfr
          rw [hn]
          by_cases h2 : r < q
          · rw [if_pos (show y.1 ≤ r ∧ r ≤ q - 1 by omega), if_pos h2, same r (by omega) h2, hs, hyv]; rfl
          · rw [if_neg (show ¬ (y.1 ≤ r ∧ r ≤ q - 1) by omega), if_neg h2]; rfl
/-- The tight map of maps, the last one the topmost. -/
def isLay (ls : List (List Rng)) (m : List Rng) : Prop := mapL m ∧ tightL m ∧ ∀ r, findL m r = saidL ls r
theorem isLay_unique {ls : List (List Rng)} {m n : List Rng} (h : isLay ls m) (k : isLay ls n) : m = n := tight_unique m n h.1 k.1 h.2.1 k.2.1 fun r => (h.2.2 r).trans (k.2.2 r).symm
/-- What has been laid up to the last place is all. -/
theorem LayUpto.all {ls : List (List Rng)} {m : List Rng} {p : Int} (h : LayUpto ls m p) (hp : ∀ t ∈ turnsL ls, t ≤ p) : isLay ls m := by
  refine ⟨h.1, h.2.1, fun r => ?_⟩
  rw [h.2.2.2 r]
  by_cases hr : r < p
  · rw [if_pos hr]
  · rw [if_neg hr]
    cases hs : saidL ls r with
    | none => rfl
    | some v =>
      obtain ⟨a, ha, x, hx, h1, h2, _⟩ := saidL_some hs
      have := hp _ (turn_of ha hx).2
      omega
theorem LayUpto.none {ls : List (List Rng)} {p : Int} (hp : ∀ t ∈ turnsL ls, p ≤ t) : LayUpto ls [] p := by
  refine ⟨⟨fun x hx => by simp at hx, List.Pairwise.nil⟩, fun i x y hx => by simp at hx, fun x hx => by simp at hx, fun r => ?_⟩
  by_cases hr : r < p
  · rw [if_pos hr]
    cases hs : saidL ls r with
    | none => rfl
    | some v =>
      obtain ⟨a, ha, x, hx, h1, h2, _⟩ := saidL_some hs
      have := hp _ (turn_of ha hx).1
      omega
  · rw [if_neg hr]; rfl
end Go.Proofs.YtcnbcaljpgdcpaaDoor

namespace Go.Proofs.YtcnbcaljpgdcpaaDoor
open Go.RowKit Go.Shelf
attribute [local go_sem] Oper.semAt_some

abbrev rngC (x : Rng) : Array Value := #[.int .i64 x.1, .int .i64 x.2.1, .int .i64 x.2.2]
abbrev rngV (x : Rng) : Value := .agg (rngC x)
abbrev rngO (x : Rng) : Obj := .cells (rngC x) 106 (0, 0)
def cellsR (l : List Rng) : List Value := l.flatMap fun x => [.int .i64 x.1, .int .i64 x.2.1, .int .i64 x.2.2]
/-- The block of an address. -/
def inB (o : Option Addr) (k : Nat) : Prop := ∃ a, o = some a ∧ a.block = k
/-- Where ranges stand. -/
def AtR (w : World) (o : Option Addr) (l : List Rng) : Prop := 0 < l.length → ∃ g off, o = some ⟨g, off, none⟩ ∧ ∀ (j : Nat) (x : Rng), l[j]? = some x →
  w.cell? ⟨g, off + j * 3, none⟩ = some (.int .i64 x.1) ∧ w.cell? ⟨g, off + j * 3 + 1, none⟩ = some (.int .i64 x.2.1) ∧ w.cell? ⟨g, off + j * 3 + 2, none⟩ = some (.int .i64 x.2.2)
theorem cell_moves {S : Nat → Prop} {w w' : World} {a : Addr} {v : Value} (hm : Moves S w w') (hs : ¬ S a.block) (h : w.cell? a = some v) : w'.cell? a = some v := by
  have hb := hm.block _ (World.block_lt_of_cell? w _ h) hs
  unfold World.cell? at h ⊢
  rw [hb]
  exact h
theorem cell_keepN {w w' : World} {a : Addr} {v : Value} (hb : Below w.heap.size w w') (h : w.cell? a = some v) : w'.cell? a = some v :=
  (hb.cell (World.block_lt_of_cell? w _ h)).trans h
theorem AtR.moves {S : Nat → Prop} {w w' : World} {o : Option Addr} {l : List Rng} (h : AtR w o l) (hm : Moves S w w') (hs : 0 < l.length → ∀ k, inB o k → ¬ S k) : AtR w' o l := fun hn => by
  obtain ⟨g, off, rfl, hc⟩ := h hn
  have hg : ¬ S g := hs hn g ⟨_, rfl, rfl⟩
  refine ⟨g, off, rfl, fun j x hx => ?_⟩
  obtain ⟨h0, h1, h2⟩ := hc j x hx
  exact ⟨cell_moves hm hg h0, cell_moves hm hg h1, cell_moves hm hg h2⟩
theorem AtR.lt {w : World} {o : Option Addr} {l : List Rng} (h : AtR w o l) (hn : 0 < l.length) {k : Nat} (hk : inB o k) : k < w.heap.size := by
  obtain ⟨g, off, rfl, hc⟩ := h hn
  obtain ⟨a, ha, rfl⟩ := hk
  cases ha
  exact World.block_lt_of_cell? w _ (hc 0 _ (List.getElem?_eq_getElem hn)).1
theorem AtR.below {w w' : World} {o : Option Addr} {l : List Rng} (h : AtR w o l) (hb : Below w.heap.size w w') : AtR w' o l := fun hn => by
  obtain ⟨g, off, ho, hc⟩ := h hn
  refine ⟨g, off, ho, fun j x hx => ?_⟩
  obtain ⟨h0, h1, h2⟩ := hc j x hx
  exact ⟨cell_keepN hb h0, cell_keepN hb h1, cell_keepN hb h2⟩
theorem AtR.take {w : World} {o : Option Addr} {l : List Rng} (h : AtR w o l) (n : Nat) : AtR w o (l.take n) := fun hn => by
  obtain ⟨g, off, ho, hc⟩ := h (by rw [List.length_take] at hn; omega)
  refine ⟨g, off, ho, fun j x hx => hc j x ?_⟩
  rw [List.getElem?_take] at hx
  split at hx
  · exact hx
  · cases hx
theorem rng_cells {w : World} {k : Nat} {x : Rng} (h : w.heap[k]? = some (rngO x)) :
    w.cell? ⟨k, 0, none⟩ = some (.int .i64 x.1) ∧ w.cell? ⟨k, 1, none⟩ = some (.int .i64 x.2.1) ∧ w.cell? ⟨k, 2, none⟩ = some (.int .i64 x.2.2) ∧ w.frozen? ⟨k, 0, none⟩ = false := by
  refine ⟨?_, ?_, ?_, frozen_of_row _ _ _ _ _ h⟩
  · rw [cell_of_row _ _ 0 _ _ _ h]; rfl
  · rw [cell_of_row _ _ 1 _ _ _ h]; rfl
  · rw [cell_of_row _ _ 2 _ _ _ h]; rfl

/-- What an iterator over ranges yields: each with its place. -/
abbrev encR (x : Rng × Nat) : Array Value := #[.int .i64 (x.2 : Nat), rngV x.1]
theorem zip_pre {α : Type} {l : List α} {pre : List (α × Nat)} {x : α} {n : Nat} (h : pre ++ [(x, n)] <+: l.zipIdx) : n = pre.length ∧ l[n]? = some x ∧ pre = (l.take n).zipIdx := by
  obtain ⟨t, ht⟩ := h
  have h1 : (l.zipIdx)[pre.length]? = some (x, n) := by rw [← ht]; simp
  rw [List.getElem?_zipIdx] at h1
  cases hl : l[pre.length]? with
  | none => rw [hl] at h1; cases h1
  | some y =>
    rw [hl] at h1
    simp at h1
    obtain ⟨rfl, rfl⟩ := h1
    refine ⟨rfl, hl, ?_⟩
    apply List.ext_getElem?
    intro i
    rw [List.getElem?_zipIdx]
    rcases Nat.lt_or_ge i pre.length with hi | hi
    · have h2 : (l.zipIdx)[i]? = pre[i]? := by rw [← ht, List.append_assoc, List.getElem?_append_left hi]
      rw [← h2, List.getElem?_zipIdx, List.getElem?_take_of_lt hi]
    · rw [List.getElem?_eq_none hi, List.getElem?_eq_none (by rw [List.length_take]; omega)]
      rfl
theorem zip_more {α : Type} {l : List α} {j : Nat} {x : α} (h : l[j]? = some x) : (l.take j).zipIdx ++ [(x, j)] = (l.take (j + 1)).zipIdx := by
  have hlt := (List.getElem?_eq_some_iff.1 h).1
  rw [List.take_add_one, h, List.zipIdx_append, List.length_take, Nat.min_eq_left (by omega)]
  simp
theorem zip_prefix {α : Type} (l : List α) (j : Nat) : (l.take j).zipIdx <+: l.zipIdx := by
  refine ⟨(l.drop j).zipIdx ((l.take j).length), ?_⟩
  have := List.zipIdx_append (xs := l.take j) (ys := l.drop j) (k := 0)
  rw [List.take_append_drop] at this
  rw [this]
  simp

/-- What the iterator leans on: its ownN box, the ranges' block. -/
abbrev DepR (cb : Nat) (o : Option Addr) (l : List Rng) (k : Nat) : Prop := k = cb ∨ (0 < l.length ∧ inB o k)
set_option maxRecDepth 100000 in
set_option maxHeartbeats 1000000 in
theorem seqRanges {cb cap : Nat} {o : Option Addr} {l : List Rng} {w : World} (hn : l.length ≤ 1000000) (hc : w.heap[cb]? = some (.cells #[.slice o l.length cap] 134 (0, 0))) (hA : AtR w o l) :
    SeqOfX Tryd.prog 5 94 #[.pointer (some ⟨cb, 0, none⟩)] encR (fun _ => False) (DepR cb o l) l.zipIdx w := by
  intro W lp J Jx hm hJ hJx hY h0
  have h1 : 1 ≤ 5 := by omega
  have c0 : W.cell? ⟨cb, 0, none⟩ = some (.slice o l.length cap) := by rw [cell_of_row _ _ 0 _ _ _ (row_keep hc hm id)]; rfl
  have A0 : AtR W o l := hA.moves hm fun _ _ _ => id
  obtain ⟨n, hnn⟩ : ∃ n, l.length = n := ⟨_, rfl⟩
  rw [hnn] at c0 hn
  refine callsIn_of_wp Tryd.func94 rfl trivial ?_ rfl
  simp only [Tryd.ntmps94, List.size_toArray, List.length_cons, List.length_nil, Nat.reduceAdd, Nat.reduceSub, Array.replicate_succ, Array.replicate_zero, List.push_toArray, List.append_toArray, List.nil_append, List.cons_append]
  have HJ := Lib.hid hJ
  have HY := Lib.hid hY
  have HN := Lib.hid hnn
  have HA := Lib.hid A0
  clear hJ hJx hY hm hnn hA A0 hc
  gi_wp2
  gi_loopg [8] n (fun k v wr => ∃ (j : Nat), v = .int .i64 (j : Nat) ∧ j ≤ n ∧ k = n - j ∧ Hid (AtR wr o l) ∧ J (fun _ => False) (l.take j).zipIdx wr)
  case atStart => exact ⟨0, rfl, Nat.zero_le _, rfl, HA, by simpa using h0⟩
  case round =>
    obtain ⟨j, rfl, hj, rfl, ha, hJ'⟩ := hrel
    rcases Nat.lt_or_ge j n with hlt | hge
    · obtain ⟨x, hx⟩ : ∃ x, l[j]? = some x := ⟨_, List.getElem?_eq_getElem (by rw [HN.out]; exact hlt)⟩
      obtain ⟨g, off, rfl, hc⟩ := ha.out (by rw [HN.out]; omega)
      obtain ⟨k0, k1, k2⟩ := hc j x hx
      have hg := World.block_lt_of_cell? wr _ k0
      have HX := Lib.hid hx
      obtain ⟨wb, hwb⟩ : ∃ wb, wr.alloc (rngO x) = wb := ⟨_, rfl⟩
      have hbb : Below wr.heap.size wr wb := by rw [← hwb]; exact (Below.refl _ _).alloc (Nat.le_refl _) _
      have hJb := HJ.out _ (fun _ => False) _ _ wb hJ' (Moves.of_below hbb) (fun k h => h.elim)
      have hpx : (l.take j).zipIdx ++ [(x, j)] <+: l.zipIdx := by rw [zip_more hx]; exact zip_prefix l (j + 1)
      obtain ⟨fn, tmps, assign, body, hy, hR⟩ := HY.out _ _ _ _ hpx hJb
      replace hy : (Instr.yield lp #[.int .i64 (j : Nat), .agg #[.int .i64 x.1, .int .i64 x.2.1, .int .i64 x.2.2]]).run Tryd.prog wb = .ok (.round lp fn tmps assign body) wb := hy
      obtain ⟨q0, q1, q2, _⟩ := rng_cells (w := wb) (k := wr.heap.size) (x := x) (by rw [← hwb]; exact heap_alloc_new _ _)
      have hab := Lib.hid (ha.out.below hbb)
      obtain ⟨a, b, v⟩ := x
      simp only at k0 k1 k2 hy q0 q1 q2
      clear hc hx hpx hJb
      gi_wp2
      refine hR.mono ?_
      rintro e w3 (⟨rfl, hJ4, hk4⟩ | ⟨rfl, hJx4, _⟩)
      · have HX2 := Lib.hid (zip_more HX.out)
        gi_wp2
        gi_roundg (n - (j + 1))
        case measure => omega
        case rel => exact ⟨j + 1, by simp, by omega, rfl, Lib.hid (hab.out.moves hk4 (fun h0 k h h2 => h2.2 (.inr ⟨h0, h⟩))), by rw [← HX2.out]; exact hJ4⟩
      · gi_wp2
        refine bodyPost_ret (results_none rfl _ _ _) rfl ?_
        exact ⟨⟨_, rfl⟩, _, .inr ⟨_, by rw [zip_more HX.out]; exact zip_prefix l (j + 1), hJx4⟩⟩
    · obtain rfl : j = n := by omega
      have hall : l.take j = l := List.take_of_length_le (by rw [HN.out]; exact Nat.le_refl _)
      gi_wp2
      go_end0
      exact ⟨⟨_, rfl⟩, _, .inl (by rw [hall] at hJ'; exact hJ')⟩
end Go.Proofs.YtcnbcaljpgdcpaaDoor

namespace Go.Proofs.YtcnbcaljpgdcpaaDoor
open Go.RowKit Go.Shelf
attribute [local go_sem] Oper.semAt_some

abbrev chartV (o : Option Addr) (n cap : Nat) : Value := .agg #[.slice o n cap]
abbrev chartO (o : Option Addr) (n cap : Nat) : Obj := .cells #[.slice o n cap] 134 (0, 0)
theorem ranges_any (o : Option Addr) (n cap : Nat) (w : World) : Calls Tryd.prog 92 #[chartV o n cap] w fun e w' => e = .returned (.func (.func 94) #[] #[.pointer (some ⟨w.heap.size, 0, none⟩)]) ∧ w.alloc (chartO o n cap) = w' := by
  go_enter Tryd.func92, Tryd.ntmps92
  go_wp2
  go_ret
  exact ⟨rfl, rfl⟩
theorem chartOf_any (o : Option Addr) (n cap : Nat) (hn : n ≤ cap) (w : World) : Calls Tryd.prog 78 #[.slice o n cap] w fun e w' => e = .returned (chartV o n n) ∧ Below w.heap.size w w' := by
  go_enter Tryd.func78, Tryd.ntmps78
  go_wp2
  refine bodyPost_ret (v := chartV o n n) ?_ rfl ⟨rfl, (Below.refl _ _).alloc (Nat.le_refl _) _⟩
  exact results_cell_row rfl _ _ w.heap.size 134 #[.slice o n n] (0, 0) _ rfl (heap_alloc_new _ _) Tryd.underlying134 rfl (by kernel_rfl)

def ansF (s : Option Int) : Value := match s with
  | some v => .tuple #[.int .i64 v, .bool true]
  | none => .tuple #[.int .i64 0, .bool false]
theorem findL_pre {l : List Rng} {j : Nat} {x : Rng} {r : Int} (hx : l[j]? = some x) (h : findL (l.take j) r = none) (hr : x.1 ≤ r ∧ r ≤ x.2.1) : findL l r = some x.2.2 := by
  have h1 : l = l.take j ++ l.drop j := (List.take_append_drop j l).symm
  have hlt := (List.getElem?_eq_some_iff.1 hx).1
  rw [h1, findL_append, h, List.drop_eq_getElem_cons hlt, (List.getElem?_eq_some_iff.1 hx).2]
  show findL (x :: _) r = _
  unfold findL
  rw [if_pos hr]
theorem findL_snoc {l : List Rng} {j : Nat} {x : Rng} {r : Int} (hx : l[j]? = some x) (h : findL (l.take j) r = none) (hr : ¬ (x.1 ≤ r ∧ r ≤ x.2.1)) : findL (l.take (j + 1)) r = none := by
  rw [List.take_add_one, hx, findL_append, h]
  show findL [x] r = none
  unfold findL
  rw [if_neg hr]
  rfl
/-- What holds between two rounds. -/
structure FindInv (w : World) (l : List Rng) (r : Int) (X : Nat → Prop) (W : World) (s : Option Int) : Prop where
  far : ∀ k, X k → w.heap.size + 4 ≤ k
  below : Below w.heap.size w W
  size : w.heap.size + 4 ≤ W.heap.size
  rb : Boxed W (w.heap.size + 1) 3 (.int .i64 r)
  vb : Boxed W (w.heap.size + 2) 3 (.int .i64 (s.getD 0))
  fb : Boxed W (w.heap.size + 3) 4 (.bool s.isSome)
theorem FindInv.moves {w : World} {l : List Rng} {r : Int} {X X' : Nat → Prop} {A B : World} {s : Option Int} (h : FindInv w l r X A s) (hm : Moves X A B) (hX : ∀ k, X' k → (X k ∨ A.heap.size ≤ k) ∧ k < B.heap.size) : FindInv w l r X' B s := by
  have hf := h.far
  have hz := h.size
  have nx : ∀ j, j < w.heap.size + 4 → ¬ X j := fun j hj hx => by have := hf j hx; omega
  refine ⟨?_, Moves.below h.below h.below.size hm (fun k hk => by have := hf k hk; omega), by have := hm.size; omega, row_keep h.rb hm (nx _ (by omega)), row_keep h.vb hm (nx _ (by omega)), row_keep h.fb hm (nx _ (by omega))⟩
  intro k hk
  rcases (hX k hk).1 with h1 | h1
  · exact hf k h1
  · omega
end Go.Proofs.YtcnbcaljpgdcpaaDoor

namespace Go.Proofs.YtcnbcaljpgdcpaaDoor
open Go.RowKit Go.Extern.Stop Go.Stop Go.Extern Go.Shelf

abbrev tDN (t : Nat) : Value := .pointer (some ⟨3, t, none⟩)
abbrev rtIN (t : Nat) : Value := .iface 148 (.agg #[tDN t])
abbrev vAN (t : Nat) (p : Addr) (fl : Int) : Value := .agg #[tDN t, .pointer (some p), .int .u64 fl]
theorem asKindN (h : Value) (w : World) : (Go.method 306 148 (.agg #[h]) "Kind").run Tryd.prog w = .ok (109, h) w := by kernel_rfl
theorem asElemN (h : Value) (w : World) : (Go.method 306 148 (.agg #[h]) "Elem").run Tryd.prog w = .ok (121, .agg #[h]) w := by kernel_rfl
theorem asImplementsN (h : Value) (w : World) : (Go.method 306 148 (.agg #[h]) "Implements").run Tryd.prog w = .ok (122, .agg #[h]) w := by kernel_rfl
theorem asAssignableN (h : Value) (w : World) : (Go.method 306 148 (.agg #[h]) "AssignableTo").run Tryd.prog w = .ok (119, .agg #[h]) w := by kernel_rfl
theorem rlmN (z : Sem Value) (f : TypeId → Addr → Nat → Nat → Sem Value) (v : Value) :
    ReflectliteValue.method z f #[v] = (do match ← ReflectliteValue.parts v with | none => z | some (t, a, fl) => f t a fl (fl % 32)) := rfl
theorem rlsN (v x : Value) : ReflectliteValue.set #[v, x] = (do
    let (some (dst, a, fl), some (src, b, _)) := (← ReflectliteValue.parts v, ← ReflectliteValue.parts x)
      | unsupported (.noEntry "extern/(internal/reflectlite.Value).Set.zeroValue")
    if fl / ReflectliteValue.flagAddr % 2 == 0 then unsupported (.noEntry "extern/(internal/reflectlite.Value).Set.unaddressable")
    let val ← loadVar src b
    if ← Rtype.directlyAssignable dst src then storeVar dst a val
    else if ← Rtype.implements dst src then
      if (← Rtype.kind src) == 20 then
        match val with
        | .nilIface => unsupported (.noEntry "extern/reflectlite: a nil value of one interface type handed on as a value of another")
        | _ => storeVar dst a val
      else storeVar dst a (.iface src val)
    else panicString ("reflectlite.Set: value of type " ++ (← Rtype.spelt src) ++ " is not assignable to type " ++ (← Rtype.spelt dst))
    pure (.tuple #[])) := rfl
theorem kindELN (w : World) : ((ReflectliteType.abiMethod fun t => (fun a : Nat => Value.int IntKind.u8 (a : Int)) <$> Rtype.kind t) #[tDN 171]).run Tryd.prog w = .ok (.int .u8 25) w := by kernel_rfl
theorem implementsLN (w : World) : (ReflectliteType.relation "Implements" ReflectliteType.implements_ #[.agg #[tDN 171], rtIN 54]).run Tryd.prog w = .ok (.bool true) w := by kernel_rfl
theorem typeOfLN (v : Value) (w : World) : (ReflectliteType.typeOf #[.iface 171 v]).run Tryd.prog w = .ok (rtIN 171) w := by kernel_rfl
theorem mkLN (p : Addr) (w : World) : (ReflectliteValue.mk 171 p ReflectliteValue.flagAddr).run Tryd.prog w = .ok (vAN 171 p 409) w := by kernel_rfl
theorem partsALN (a : Addr) (w : World) : (ReflectliteValue.parts (vAN 171 a 409)).run Tryd.prog w = .ok (some (171, a, 409)) w := by kernel_rfl
theorem partsBLN (a : Addr) (w : World) : (ReflectliteValue.parts (vAN 171 a 153)).run Tryd.prog w = .ok (some (171, a, 153)) w := by kernel_rfl
theorem directLN (w : World) : (Rtype.directlyAssignable 171 171).run Tryd.prog w = .ok true w := by kernel_rfl
theorem assignLLN (w : World) : (ReflectliteType.relation "AssignableTo" ReflectliteType.assignableTo #[.agg #[tDN 171], rtIN 171]).run Tryd.prog w = .ok (.bool true) w := by kernel_rfl
theorem valueOfLN (l : Int) (x : Value) (w : World) : (ReflectliteValue.unpack (.iface 171 (.agg #[.int .i64 l, x]))).run Tryd.prog w = .ok (vAN 171 ⟨w.heap.size, 0, none⟩ 153) (w.alloc (.cells #[.int .i64 l, x] 171)) := by kernel_rfl
theorem setLN (g h : Nat) (l n : Int) (u v : Value) (W : World) (hb : W.heap[h]? = some (.cells #[.int .i64 l, .int .i64 n] 171 (0, 0))) (ht : W.heap[g]? = some (.cells #[u, v] 171 (0, 0))) :
    (ReflectliteValue.set #[vAN 171 ⟨g, 0, none⟩ 409, vAN 171 ⟨h, 0, none⟩ 153]).run Tryd.prog W = .ok (.tuple #[]) (W.setRow g #[.int .i64 l, .int .i64 n]) := by
  rw [rlsN]
  simp only [Sem.run_bind, partsALN, partsBLN, Result.andThen]
  have h1 := run_loadVar_row W h 171 171 _ (0, 0) _ hb Tryd.underlying171 rfl (by kernel_rfl)
  have h2 := run_storeVar_row (P := Tryd.prog) W g 171 171 _ #[.int .i64 l, .int .i64 n] ht (by kernel_rfl) rfl (by simp [Value.oneCell'])
  have hf : (409 / ReflectliteValue.flagAddr % 2 == 0) = false := by decide
  simp only [hf, Bool.false_eq_true, if_false, Sem.run_bind, h1, Result.andThen, directLN, if_true, h2, Sem.run_pure]
theorem as_nilN (t : Value) (w : World) : Calls Tryd.prog 52 #[.nilIface, t] w fun e w' => e = .returned (.bool false) ∧ w = w' := by
  go_enter Tryd.func52, Tryd.ntmps52
  go_wp2
  go_ret
  exact ⟨rfl, rfl⟩
theorem below_setRow2N {n g : Nat} {a b : World} (h : Below n a b) (cs : Array Value) : Below n (a.setRow g cs) (b.setRow g cs) := by
  refine ⟨h.os, h.tape, h.output, by simpa using h.size, fun k hk => ?_⟩
  unfold World.setRow
  simp only [Array.getElem?_modify]
  rw [h.block k hk]
theorem row_twoN {w : World} {A B o : Obj} {g : Nat} (h : w.heap[g]? = some o) : ((w.alloc A).alloc B).heap[g]? = some o := by
  have hg := (Array.getElem?_eq_some_iff.1 h).1
  rw [Below.heap_alloc _ _ _ (by simp; omega), Below.heap_alloc _ _ _ hg]
  exact h
theorem moves_drewN0 (w : World) (q : Nat) : Moves (fun _ => False) w (w.drewN q) := by
  induction q with
  | zero => exact Moves.refl _ _
  | succ q ih => exact ih.drew
abbrev fltO (n l : Int) : Obj := .cells #[.int .i64 n, .int .i64 l] 171 (0, 0)
end Go.Proofs.YtcnbcaljpgdcpaaDoor

namespace Go.Proofs.YtcnbcaljpgdcpaaDoor
open Go.RowKit Go.Shelf
attribute [local go_sem] Oper.semAt_some

theorem right_any (x : Rng) (w : World) : Calls Tryd.prog 93 #[rngV x] w fun e w' => e = .returned (.bool (decide (okR x))) ∧ Below w.heap.size w w' := by
  obtain ⟨a, b, v⟩ := x
  obtain ⟨D, hD⟩ : ∃ D, decide (okR (a, b, v)) = D := ⟨_, rfl⟩
  rw [hD]
  have HD := Lib.hid hD
  clear hD
  have no : ¬ okR (a, b, v) → D = false := fun h => by rw [← HD.out, decide_eq_false h]
  have yes : okR (a, b, v) → D = true := fun h => by rw [← HD.out, decide_eq_true h]
  unfold okR at no yes
  simp only at no yes
  have NO := Lib.hid no
  have YES := Lib.hid yes
  clear no yes
  go_enter Tryd.func93, Tryd.ntmps93
  by_cases h0 : 0 ≤ a
  · by_cases h1 : a ≤ b
    · by_cases h2 : b ≤ 1114111
      · by_cases h3 : 0 ≤ v
        · by_cases h4 : v ≤ 31
          · have h := YES.out ⟨h0, h1, h2, h3, h4⟩
            rw [h]
            go_wp2
            go_ret
            exact ⟨rfl, (Below.refl _ _).alloc (Nat.le_refl _) _⟩
          · have h := NO.out (by omega)
            rw [h]
            go_wp2
            go_ret
            exact ⟨rfl, (Below.refl _ _).alloc (Nat.le_refl _) _⟩
        · have h := NO.out (by omega)
          rw [h]
          go_wp2
          go_ret
          exact ⟨rfl, (Below.refl _ _).alloc (Nat.le_refl _) _⟩
      · have h := NO.out (by omega)
        rw [h]
        go_wp2
        go_ret
        exact ⟨rfl, (Below.refl _ _).alloc (Nat.le_refl _) _⟩
    · have h := NO.out (by omega)
      rw [h]
      go_wp2
      go_ret
      exact ⟨rfl, (Below.refl _ _).alloc (Nat.le_refl _) _⟩
  · have h := NO.out (by omega)
    rw [h]
    go_wp2
    go_ret
    exact ⟨rfl, (Below.refl _ _).alloc (Nat.le_refl _) _⟩

/-- What stays, through the rounds. -/
structure Kept (w : World) (k : Nat) (X : Nat → Prop) (W : World) : Prop where
  far : ∀ j, X j → w.heap.size + k ≤ j
  below : Below w.heap.size w W
  size : w.heap.size + k ≤ W.heap.size
theorem Kept.moves {w : World} {n : Nat} {X X' : Nat → Prop} {A B : World} (h : Kept w n X A) (hm : Moves X A B) (hX : ∀ k, X' k → (X k ∨ A.heap.size ≤ k) ∧ k < B.heap.size) : Kept w n X' B := by
  have hf := h.far
  have hz := h.size
  refine ⟨?_, Moves.below h.below h.below.size hm (fun k hk => by have := hf k hk; omega), by have := hm.size; omega⟩
  intro k hk
  rcases (hX k hk).1 with h1 | h1
  · exact hf k h1
  · omega
theorem Kept.row {w : World} {n : Nat} {X : Nat → Prop} {A B : World} (h : Kept w n X A) (hm : Moves X A B) {j : Nat} (hj : j < w.heap.size + n) {o : Obj} (hr : A.heap[j]? = some o) : B.heap[j]? = some o :=
  row_keep hr hm fun hx => by have := h.far j hx; omega
/-- What a round turns: blocks of the call's ownN, no iterator's and none that it leans on. -/
theorem Kept.turn {w : World} {n : Nat} {X S : Nat → Prop} {A B : World} (h : Kept w n X A) (hm : Moves S A B) (hS : ∀ k, S k → w.heap.size ≤ k) : Kept w n X B :=
  ⟨h.far, Moves.below h.below h.below.size hm hS, by have := hm.size; have := h.size; omega⟩
theorem Kept.free {w : World} {n cb : Nat} {X : Nat → Prop} {A : World} {o : Option Addr} {l : List Rng} (h : Kept w n X A) (hcb : w.heap.size + n ≤ cb) (hlt : ∀ k, 0 < l.length → inB o k → k < w.heap.size) : ∀ k, k < w.heap.size + n → w.heap.size ≤ k → ¬ X k ∧ ¬ DepR cb o l k :=
  fun k hk hk2 => ⟨fun hx => by have := h.far k hx; omega, fun hx => by rcases hx with hx | ⟨h0, hx⟩; { omega }; { have := hlt k h0 hx; omega }⟩

abbrev faultV (n at' : Int) : Value := .iface 171 (.agg #[.int .i64 n, .int .i64 at'])
def errC (c : Option Nat) : Value := match c with
  | none => .nilIface
  | some i => faultV 22 (i : Nat)
def badAt (l : List Rng) : Option Nat := l.findIdx? fun x => !decide (okR x)
def chkL (l : List Rng) : Option Nat := match badAt l with
  | some i => some i
  | none => if 600 < l.length then some 600 else none
theorem badAt_some {l : List Rng} {j : Nat} {x : Rng} (hx : l[j]? = some x) (hp : ∀ y ∈ l.take j, okR y) (hb : ¬ okR x) : badAt l = some j := by
  obtain ⟨hlt, hxe⟩ := List.getElem?_eq_some_iff.1 hx
  unfold badAt
  rw [List.findIdx?_eq_some_iff_getElem]
  refine ⟨hlt, by rw [hxe]; simpa using hb, fun i hi => ?_⟩
  have : l[i] ∈ l.take j := List.mem_take_iff_getElem.2 ⟨i, by omega, rfl⟩
  simpa using hp _ this
theorem badAt_none {l : List Rng} (h : ∀ y ∈ l, okR y) : badAt l = none := by
  unfold badAt
  rw [List.findIdx?_eq_none_iff]
  intro x hx
  simpa using h x hx
theorem chk_ok {l : List Rng} : chkL l = none ↔ (∀ y ∈ l, okR y) ∧ l.length ≤ 600 := by
  unfold chkL
  constructor
  · intro h
    cases hb : badAt l with
    | some i => rw [hb] at h; cases h
    | none =>
      rw [hb] at h
      simp only at h
      unfold badAt at hb
      rw [List.findIdx?_eq_none_iff] at hb
      split at h
      · cases h
      · exact ⟨fun y hy => by simpa using hb y hy, by omega⟩
  · rintro ⟨h1, h2⟩
    rw [badAt_none h1]
    simp only
    rw [if_neg (by omega)]
theorem all_snoc {l : List Rng} {j : Nat} {x : Rng} {p : Rng → Prop} (hx : l[j]? = some x) (h : ∀ y ∈ l.take j, p y) (hp : p x) : ∀ y ∈ l.take (j + 1), p y := by
  rw [List.take_add_one, hx]
  intro y hy
  rcases List.mem_append.1 hy with h1 | h1
  · exact h y h1
  · rw [show y = x from by simpa using h1]; exact hp

/-- What holds between two rounds of checked. -/
structure ChkInv (w : World) (o : Option Addr) (n cap : Nat) (X : Nat → Prop) (W : World) (s : Option Nat) : Prop where
  kept : Kept w 2 X W
  ch : W.heap[w.heap.size]? = some (chartO o n cap)
  eb : Boxed W (w.heap.size + 1) 54 (errC s)
theorem ChkInv.moves {w : World} {o : Option Addr} {n cap : Nat} {X X' : Nat → Prop} {A B : World} {s : Option Nat} (h : ChkInv w o n cap X A s) (hm : Moves X A B) (hX : ∀ k, X' k → (X k ∨ A.heap.size ≤ k) ∧ k < B.heap.size) : ChkInv w o n cap X' B s :=
  ⟨h.kept.moves hm hX, h.kept.row hm (by omega) h.ch, h.kept.row hm (by omega) h.eb⟩
set_option maxRecDepth 100000 in
set_option maxHeartbeats 2000000 in
theorem checked_any (o : Option Addr) (l : List Rng) (cap : Nat) (hn : l.length ≤ 1000000) (w : World) (hA : AtR w o l) :
    Calls Tryd.prog 89 #[chartV o l.length cap] w fun e w' => e = .returned (errC (chkL l)) ∧ Below w.heap.size w w' := by
  refine (callsIn_wide (n := 6)).1 ?_
  have h1 : 1 ≤ 6 := by omega
  refine callsIn_of_wp_marks Tryd.func89 rfl trivial ?_ rfl
  simp only [Tryd.ntmps89, List.size_toArray, List.length_cons, List.length_nil, Nat.reduceAdd, Nat.reduceSub, Array.replicate_succ, Array.replicate_zero, List.push_toArray, List.append_toArray, List.nil_append, List.cons_append]
  obtain ⟨P, hP⟩ : ∃ P, (fun (e : Ending) w' => e = .returned (errC (chkL l)) ∧ Below w.heap.size w w') = P := ⟨_, rfl⟩
  have HP := Lib.hid hP
  rw [hP]
  clear hP
  obtain ⟨n, hnn⟩ : ∃ n, l.length = n := ⟨_, rfl⟩
  have HN := Lib.hid hnn
  rw [hnn] at hn ⊢
  have HA := Lib.hid hA
  clear hA hnn
  gi_wp2_with fail
  refine wpIn_wide.2 (wp_scope_straight ((wpIn_wide (n := 6)).1 ?_))
  gi_wp2_with fail
  refine wpIn_label ?_
  gi_wp2_with fail
  refine ⟨trivial, (callsIn_wide.2 (ranges_any o n cap _)).mono ?_⟩
  rintro e w2 ⟨rfl, hw2⟩
  simp only [World.size_alloc] at hw2 ⊢
  have BW : Below w.heap.size w w2 := by rw [← hw2]; exact (((Below.refl _ _).alloc (Nat.le_refl _) _).alloc (by simp) _).alloc (by simp; omega) _
  have z2 : w2.heap.size = w.heap.size + 3 := by rw [← hw2]; simp
  have C2 : w2.heap[w.heap.size]? = some (chartO o n cap) := by
    rw [← hw2, Below.heap_alloc _ _ _ (by simp; omega), Below.heap_alloc _ _ _ (by simp)]
    exact heap_alloc_new _ _
  have E2 : Boxed w2 (w.heap.size + 1) 54 .nilIface := by
    rw [← hw2]
    have := Boxed.new (w.alloc (chartO o n cap)) 54 .nilIface
    rw [World.size_alloc] at this
    exact this.alloc _
  have hb : w2.heap[w.heap.size + 1 + 1]? = some (chartO o n cap) := by
    rw [← hw2]
    have := heap_alloc_new ((w.alloc (chartO o n cap)).alloc (.cells #[.nilIface] 54)) (chartO o n cap)
    simpa using this
  have A2 := HA.out.below BW
  have hlt : ∀ k, 0 < l.length → inB o k → k < w.heap.size := fun k h0 hk => HA.out.lt h0 hk
  clear hw2
  gi_wp2_with fail
  refine wpIn_seqX (n := 6) (Ow := fun _ => False) (Dep := DepR (w.heap.size + 1 + 1) o l) (encs := encR) (all := l.zipIdx) (by omega) rfl (enters_of Tryd.func94 (by kernel_rfl) rfl) (fun x => rfl) (seqRanges (by rw [HN.out]; exact hn) (by rw [HN.out]; exact hb) A2)
    (fun k h => h.elim) (fun k h => by rcases h with h | ⟨h0, h⟩; { omega }; { have := hlt k h0 h; omega })
    (fun X pre W => ChkInv w o n cap X W none ∧ ∀ y ∈ l.take pre.length, okR y) (fun c X pre W => c = .exit 0 ∧ ∃ i, ChkInv w o n cap X W (some i) ∧ badAt l = some i) ?hI ?hIx ?h0
    (fun b x => { tmps := #[chartV o n cap, .pointer (some ⟨w.heap.size, 0, none⟩), .nilIface, .pointer (some ⟨w.heap.size + 1, 0, none⟩), .int .i64 (x.2 : Nat), .pointer (some ⟨b, 0, none⟩), chartV o n cap, .func (.func 94) #[] #[.pointer (some ⟨w.heap.size + 1 + 1, 0, none⟩)], .int .i64 (x.2 : Nat), rngV x.1, undef, undef, undef, undef, undef, undef, undef, undef, undef, undef, undef, undef, undef, undef, undef, undef, undef], defers := [] })
    (fun A x B => A.alloc (rngO x.1) = B) (fun A x B h => by rw [← h]; exact Moves.of_below ((Below.refl _ _).alloc (Nat.le_refl _) _)) ?assign ?body ?done ?stop
  case hI =>
    rintro X X' xs A B ⟨h, hf⟩ hm hX
    exact ⟨h.moves hm hX, hf⟩
  case hIx =>
    rintro c X X' xs A B ⟨rfl, v, h, hf⟩ hm hX
    exact ⟨rfl, v, h.moves hm hX, hf⟩
  case h0 => exact ⟨⟨⟨fun k h => h.elim, BW, by omega⟩, C2, E2⟩, fun y hy => by simp at hy⟩
  case assign =>
    rintro l x A K hK
    gi_wp2
    rfl
  case body =>
    rintro lp X pre ⟨x, j⟩ A A' W1 hA1 hpx hAB hm hXn hXn1 hXlt ⟨hI, hf⟩
    obtain ⟨hj, hx, -⟩ := zip_pre hpx
    subst hj
    have hxb : W1.heap[A.heap.size]? = some (rngO x) := by
      have := heap_alloc_new A (rngO x)
      rw [hAB] at this
      exact row_keep this hm (by omega)
    obtain ⟨q0, q1, q2, _⟩ := rng_cells hxb
    have nB := hI.kept.free (o := o) (l := l) (cb := w.heap.size + 1 + 1) (by omega) hlt
    have ce := hI.eb.cell
    have fe := hI.eb.frozen
    have hz := hI.kept.size
    have hXb : ∀ k, X k → k < W1.heap.size := fun k h => by have h1 := hXlt k h; have h2 := hm.size; rw [← hAB] at h2; simp at h2; omega
    have HI := Lib.hid hI
    have HX := Lib.hid hx
    have HF := Lib.hid hf
    have HNB := Lib.hid nB
    have HXB := Lib.hid hXb
    obtain ⟨a, b, v⟩ := x
    have HRI := Lib.hid (right_any (a, b, v) W1)
    simp only at q0 q1 q2
    clear hI hx hf nB hpx hm hXlt hXn hXn1 hxb hAB hA1 hXb
    gi_wp2_with fail
    refine ⟨trivial, CallsIn.inRound lp ((callsIn_wide.2 HRI.out).mono ?_)⟩
    rintro e W2 ⟨rfl, b2⟩
    have hI2 := HI.out.moves (Moves.of_below b2) (fun k h => ⟨.inl h, by have := HXB.out k h; have := b2.size; omega⟩)
    have HI2 := Lib.hid hI2
    have HB2 := Lib.hid b2
    have ce2 := hI2.eb.cell
    have fe2 := hI2.eb.frozen
    clear hI2 b2 q0 q1 q2 ce fe HRI
    by_cases hok : okR (a, b, v)
    · have HR : Hid (seqEndX (DepR (w.heap.size + 1 + 1) o l) X (fun X pre W => ChkInv w o n cap X W none ∧ ∀ y ∈ l.take pre.length, okR y) (fun c X pre W => c = .exit 0 ∧ ∃ i, ChkInv w o n cap X W (some i) ∧ badAt l = some i) (pre ++ [((a, b, v), pre.length)]) W1 .normal ({ tmps := #[], defers := [] } : Act) W2) :=
        Lib.hid ⟨Moves.of_below HB2.out, HI2.out, by rw [List.length_append]; exact all_snoc HX.out HF.out hok⟩
      rw [decide_eq_true hok]
      clear hok
      gi_wp2
      exact HR.out
    · have hans := badAt_some HX.out HF.out hok
      have hm4 : Moves (fun k => k = w.heap.size + 1) W2 (W2.setCell ⟨w.heap.size + 1, 0, none⟩ (faultV 22 (pre.length : Nat))) := Moves.setCell rfl
      have HR : Hid (seqEndX (DepR (w.heap.size + 1 + 1) o l) X (fun X pre W => ChkInv w o n cap X W none ∧ ∀ y ∈ l.take pre.length, okR y) (fun c X pre W => c = .exit 0 ∧ ∃ i, ChkInv w o n cap X W (some i) ∧ badAt l = some i) (pre ++ [((a, b, v), pre.length)]) W1 (.exit 0) ({ tmps := #[], defers := [] } : Act) (W2.setCell ⟨w.heap.size + 1, 0, none⟩ (faultV 22 (pre.length : Nat)))) :=
        Lib.hid ⟨(Moves.of_below HB2.out).trans (hm4.mono fun k h => HNB.out k (by omega) (by omega)), rfl, pre.length, ⟨HI2.out.kept.turn hm4 (fun k h => by omega), row_keep HI2.out.ch hm4 (by omega), HI2.out.eb.set _⟩, hans⟩
      rw [decide_eq_false hok]
      clear hok hm4 hans
      gi_wp2
      exact HR.out
  case done =>
    rintro X D W hD hXD ⟨hI, hf⟩ hX hK
    rw [List.length_zipIdx, List.take_length] at hf
    have hcl : W.cell? ⟨w.heap.size, 0, none⟩ = some (.slice o n cap) := by rw [cell_of_row _ _ 0 _ _ _ hI.ch]; rfl
    have hce : W.cell? ⟨w.heap.size + 1, 0, none⟩ = some .nilIface := hI.eb.cell
    have hfe := hI.eb.frozen
    rcases Nat.lt_or_ge 600 n with h6 | h6
    · have hm1 : Moves (fun k => k = w.heap.size + 1) W (W.setCell ⟨w.heap.size + 1, 0, none⟩ (faultV 22 600)) := Moves.setCell rfl
      have hce2 : (W.setCell ⟨w.heap.size + 1, 0, none⟩ (faultV 22 600)).cell? ⟨w.heap.size + 1, 0, none⟩ = some (faultV 22 600) := (hI.eb.set _).cell
      have hK2 : (W.setCell ⟨w.heap.size + 1, 0, none⟩ (faultV 22 600)).heap[D]? = some (.deferred (some [])) := row_keep hK hm1 (by
        rintro rfl
        have := hI.eb
        unfold Boxed at this
        rw [hK] at this
        cases this)
      have hpost : P (.returned (faultV 22 600)) ((W.setCell ⟨w.heap.size + 1, 0, none⟩ (faultV 22 600)).putObj D (.deferred none)) := by
        rw [← HP.out]
        refine ⟨?_, Moves.below hI.kept.below hI.kept.below.size (hm1.mono (T := fun k => w.heap.size ≤ k) (fun k h => by omega) |>.trans (Moves.putObj (show w.heap.size ≤ D by omega))) (fun k h => h)⟩
        unfold chkL
        rw [badAt_none hf, HN.out]
        simp only
        rw [if_pos h6]
        rfl
      have HPP := Lib.hid hpost
      clear hpost hI hm1 hf
      gi_wp2
      rw [Exit.noGoto_ret]
      refine ⟨by simp, .inl ⟨_, _, rfl, run_takeDeferred hK2, ?_⟩⟩
      exact ⟨_, results_tmp (t := 2) rfl _ _ _, HPP.out⟩
    · have hm : Moves (fun k => k = D) W (W.putObj D (.deferred none)) := Moves.putObj rfl
      have hpost : P (.returned .nilIface) (W.putObj D (.deferred none)) := by
        rw [← HP.out]
        refine ⟨?_, Moves.below hI.kept.below hI.kept.below.size hm (fun k h => by omega)⟩
        rw [chk_ok.2 ⟨hf, by rw [HN.out]; exact h6⟩]
        rfl
      have HPP := Lib.hid hpost
      have hK2 := hK
      clear hpost hI hm hf
      gi_wp2
      rw [Exit.noGoto_ret]
      refine ⟨by simp, .inl ⟨_, _, rfl, run_takeDeferred hK2, ?_⟩⟩
      exact ⟨_, results_tmp (t := 2) rfl _ _ _, HPP.out⟩
  case stop =>
    rintro X D c pre W hD hXD hpre ⟨rfl, i, hI, hf⟩ hX hK
    have hm : Moves (fun k => k = D) W (W.putObj D (.deferred none)) := Moves.putObj rfl
    have hce : W.cell? ⟨w.heap.size + 1, 0, none⟩ = some (faultV 22 (i : Nat)) := hI.eb.cell
    have hpost : P (.returned (faultV 22 (i : Nat))) (W.putObj D (.deferred none)) := by
      rw [← HP.out]
      refine ⟨?_, Moves.below hI.kept.below hI.kept.below.size hm (fun k h => by omega)⟩
      unfold chkL
      rw [hf]
      rfl
    have HPP := Lib.hid hpost
    have hK2 := hK
    clear hpost hI hm
    gi_wp2
    rw [Exit.noGoto_ret]
    refine ⟨by simp, .inl ⟨_, _, rfl, run_takeDeferred hK2, ?_⟩⟩
    exact ⟨_, results_tmp (t := 2) rfl _ _ _, HPP.out⟩
end Go.Proofs.YtcnbcaljpgdcpaaDoor

namespace Go.Proofs.YtcnbcaljpgdcpaaDoor
open Go.RowKit

def noDefer (o : Oper) : Bool := match o.op with
  | .defer _ => false
  | _ => true
theorem wpOperIn_round {F : Fence} {n : Nat} {P : Program} {Q : Exit → Act → World → Prop} {o : Oper} {a : Act} {w : World} {K K' : Act → World → Prop} (l0 : Nat) (hd : noDefer o = true) (hK : ∀ a w, K a w → K' a w)
    (h : o.wpIn F n P a w K Q) : o.wpIn (F.inRound l0) n P a w K' Q := by
  have hs : ∀ c, o.op ≠ .defer c := fun c e => by unfold noDefer at hd; rw [e] at hd; cases hd
  unfold Oper.wpIn at h ⊢
  refine ⟨h.1, ?_⟩
  have h2 := h.2
  rw [Oper.semAt_plain F _ _ hs] at h2
  rw [Oper.semAt_plain (F.inRound l0) _ _ hs]
  revert h2
  generalize (execOp a.eval o).run P w = R
  intro h2
  cases R with
  | ok nx w' =>
    cases nx
    case value v => exact hK _ _ h2
    case skip => exact hK _ _ h2
    case defer d => exact hK _ _ h2
    case enter f args => exact ⟨h2.1, CallsIn.inRound l0 (CallsIn.mono h2.2 fun e w'' h3 => by cases e <;> first | exact hK _ _ h3 | exact h3)⟩
    case row r args => exact ⟨h2.1, RowsIn.mono (F := F) h2.2 fun v w'' h3 => hK _ _ h3⟩
    case round l f tmps assign body => exact ⟨h2.1, RoundIn.mono (F := F) h2.2 fun e w'' h3 => by cases e <;> first | exact hK _ _ h3 | exact h3⟩
    all_goals exact h2
  | halt hlt w' => cases hlt <;> exact h2
theorem wpAnyIn_round {F : Fence} {n : Nat} {P : Program} {md : Region.Mode} {ops : Array Oper} {Q : Exit → Act → World → Prop} (l0 : Nat) (hd : ∀ o ∈ ops.toList, noDefer o = true) :
    ∀ (fuel : Nat) (listed : Array Bool) (a : Act) (w : World), wpAnyIn F n P md ops Q fuel listed a w → wpAnyIn (F.inRound l0) n P md ops Q fuel listed a w
  | 0, _, _, _, h => h
  | fuel + 1, listed, a, w, h => by
    refine ⟨h.1, fun i hi => ?_⟩
    have h2 := h.2 i hi
    unfold wpOpIn at h2 ⊢
    cases ho : ops[i]? with
    | none => rw [ho] at h2; exact wpAnyIn_round l0 hd fuel _ _ _ h2
    | some o =>
      rw [ho] at h2
      simp only at h2 ⊢
      split at h2
      · rename_i hw
        rw [if_pos hw]
        refine wpOperIn_round l0 (hd o ?_) (fun a w h => wpAnyIn_round l0 hd fuel _ _ _ h) h2
        exact Array.mem_toList_iff.2 (Array.mem_of_getElem? ho)
      · rename_i hw
        rw [if_neg hw]
        exact ⟨h2.1, wpAnyIn_round l0 hd fuel _ _ _ h2.2⟩
/-- A region whose operations only look, inside a round: walked once, in the order of the text. -/
theorem wpIn_quiet_round {P : Program} {id n : Nat} {Q : Exit → Act → World → Prop} {a : Act} {w : World} {l : List Oper} (l0 : Nat) (hd : l.all noDefer = true) (hm : P.follows .mixedOrders = true) (hB : Region.lexB .any l.toArray = true)
    (h : wpQuietIn Fence.wide n P l.toArray (fun w' => ∃ n, w' = w.drewN n) (fun a' => ∀ w', (∃ n, w' = w.drewN n) → Q .normal a' w') l a) : (Code.region id l.toArray true).wpIn (Fence.wide.inRound l0) n P Q a w := by
  simp only [Region.lexB, Bool.and_eq_true] at hB
  refine wpIn_region_any hm (wpAnyIn_round l0 (fun o ho => List.all_eq_true.1 hd o (by simpa using ho)) _ _ _ _ ?_)
  refine wpAnyIn_of_quiet (C := fun w' => ∃ n, w' = w.drewN n) (Q := fun a' => ∀ w', (∃ n, w' = w.drewN n) → Q .normal a' w') rfl (fun _ w' hw' h => h w' hw') _ _ _ _ ⟨1, rfl⟩ ?_
  have hq := wpAnyQIn_lex (F := Fence.wide) (n := n) (P := P) (C := fun w' => ∃ n, w' = w.drewN n) (md := .any) hB.1 l.toArray.toList 0 (Array.replicate l.toArray.size false) a (by simp) (by simpa using hB.2) (by simpa using h)
  simpa using hq
end Go.Proofs.YtcnbcaljpgdcpaaDoor
