/- The sets of lists of classes, plainly. -/
import Derived.Test.YtnpbbmoknlbfaaaGreatDoorKPure
namespace Go.Proofs.YtnpbbmoknlbfaaaGreatDoor

def ofA (x : Nat) (l : List Int) : Nat := l.foldl (fun x c => x ||| 2 ^ c.toNat) x
theorem ofA_bit : ∀ (l : List Int) (x i : Nat), (ofA x l).testBit i = (x.testBit i || decide (∃ c ∈ l, c.toNat = i))
  | [], x, i => by simp [ofA]
  | c :: l, x, i => by
    rw [ofA, List.foldl_cons, ← ofA, ofA_bit l, bit_or_two, Bool.or_assoc]
    congr 1
    by_cases h : c.toNat = i
    · simp [h]
    · simp [h]
theorem ofN_bit (l : List Int) (i : Nat) : (ofN l).testBit i = decide (∃ c ∈ l, c.toNat = i) := by
  have := ofA_bit l 0 i
  rwa [Nat.zero_testBit, Bool.false_or] at this
theorem ofA_lt : ∀ (l : List Int) (x : Nat), x < 2 ^ 32 → l.all inC = true → ofA x l < 2 ^ 32
  | [], x, h, _ => h
  | c :: l, x, h, ha => by
    rw [List.all_cons, Bool.and_eq_true] at ha
    have hc := of_decide_eq_true ha.1
    exact ofA_lt l _ (or_two_lt h (by omega)) ha.2
theorem ofN_lt {l : List Int} (h : l.all inC = true) : ofN l < 2 ^ 32 := ofA_lt l 0 (by decide) h
theorem ofZ_lt {l : List Int} {x : Nat} (h : ofZ l = some x) : x < 2 ^ 32 := by
  unfold ofZ at h
  split at h
  · rename_i g
    injection h with h
    rw [← h]; exact ofN_lt g
  · cases h
theorem ofA_snoc (x : Nat) (l : List Int) (c : Int) : ofA x (l ++ [c]) = ofA x l ||| 2 ^ c.toNat := by
  unfold ofA
  rw [List.foldl_append]
  rfl
theorem ofZ_none {l : List Int} {c : Int} (hc : c ∈ l) (h : inC c = false) : ofZ l = none := by
  unfold ofZ
  rw [if_neg fun ha => by have := List.all_eq_true.1 ha c hc; rw [h] at this; cases this]
theorem ofZ_some {l : List Int} (h : l.all inC = true) : ofZ l = some (ofN l) := by unfold ofZ; rw [if_pos h]
theorem ofZ_append (l m : List Int) : ofZ (m ++ l) = match ofZ l, ofZ m with | some a, some b => some (a ||| b) | _, _ => none := by
  unfold ofZ
  rw [List.all_append]
  cases h1 : m.all inC <;> cases h2 : l.all inC <;> simp
  apply Nat.eq_of_testBit_eq
  intro i
  rw [Nat.testBit_or, ofN_bit, ofN_bit, ofN_bit]
  by_cases g1 : ∃ c ∈ l, c.toNat = i
  · obtain ⟨c, hc, rfl⟩ := g1
    rw [decide_eq_true (show ∃ d ∈ m ++ l, d.toNat = c.toNat from ⟨c, List.mem_append_right _ hc, rfl⟩), decide_eq_true (show ∃ d ∈ l, d.toNat = c.toNat from ⟨c, hc, rfl⟩)]
    rfl
  · rw [decide_eq_false g1, Bool.false_or]
    congr 1
    rw [eq_iff_iff]
    constructor
    · rintro ⟨c, hc, e⟩
      rcases List.mem_append.1 hc with h | h
      · exact ⟨c, h, e⟩
      · exact absurd ⟨c, h, e⟩ g1
    · rintro ⟨c, hc, e⟩
      exact ⟨c, List.mem_append_left _ hc, e⟩
theorem ofZ_classes {x : Nat} (h : x < 2 ^ 32) : ofZ ((classesN 32 x).map fun c => ((c : Nat) : Int)) = some x := by
  have ha : ((classesN 32 x).map fun c => ((c : Nat) : Int)).all inC = true := by
    rw [List.all_eq_true]
    intro c hc
    obtain ⟨d, hd, rfl⟩ := List.mem_map.1 hc
    have := (classesN_mem.1 hd).1
    exact decide_eq_true (by omega)
  rw [ofZ_some ha]
  congr 1
  apply Nat.eq_of_testBit_eq
  intro i
  rw [ofN_bit]
  by_cases hi : x.testBit i = true
  · have h32 : i < 32 := by
      rcases Nat.lt_or_ge i 32 with g | g
      · exact g
      · rw [bit_lt h g] at hi; cases hi
    rw [hi, decide_eq_true ⟨((i : Nat) : Int), List.mem_map.2 ⟨i, classesN_mem.2 ⟨h32, hi⟩, rfl⟩, by simp⟩]
  · rw [decide_eq_false]
    · simpa using hi
    · rintro ⟨c, hc, rfl⟩
      obtain ⟨d, hd, rfl⟩ := List.mem_map.1 hc
      exact hi (by simpa using (classesN_mem.1 hd).2)
theorem hasZ_nat {x : Nat} (h : x < 2 ^ 32) (c : Int) : hasZ (x : Int) c = (decide (0 ≤ c ∧ c < 32) && x.testBit c.toNat) := by
  unfold hasZ
  rw [rightZ_32 (Nat.le_refl 32) h, Bool.true_and, Int.toNat_natCast]
/-- A number is in the set of a list just if it stands in it. -/
theorem has_of {l : List Int} {x : Nat} (h : ofZ l = some x) (c : Int) : hasZ (x : Int) c = decide (c ∈ l) := by
  have hx := ofZ_lt h
  unfold ofZ at h
  split at h
  · rename_i ha
    have e := Option.some.inj h
    rw [hasZ_nat hx, ← e, ofN_bit]
    have hin := List.all_eq_true.1 ha
    by_cases hc : c ∈ l
    · have := of_decide_eq_true (hin c hc)
      rw [decide_eq_true this, decide_eq_true (show ∃ d ∈ l, d.toNat = c.toNat from ⟨c, hc, rfl⟩), decide_eq_true hc]
      rfl
    · rw [decide_eq_false hc]
      by_cases h0 : 0 ≤ c ∧ c < 32
      · rw [decide_eq_false (p := ∃ d ∈ l, d.toNat = c.toNat), Bool.and_false]
        rintro ⟨d, hd, e⟩
        have := of_decide_eq_true (hin d hd)
        have : d = c := by omega
        exact hc (this ▸ hd)
      · rw [decide_eq_false h0, Bool.false_and]
  · cases h
/-- What is not in the classes that are not in a set. -/
theorem notZ_nat {x n : Nat} (h1 : 1 ≤ n) (h2 : n ≤ 32) (h : x < 2 ^ n) : notZ (x : Int) (n : Int) = ((notN n x : Nat) : Int) := by
  unfold notZ
  rw [rightZ_ok h1 h2 h]
  simp
theorem has_not {x n : Nat} (h2 : n ≤ 32) (h : x < 2 ^ n) {c : Int} (h0 : 0 ≤ c) (hc : c < n) : hasZ (x : Int) c = !hasZ ((notN n x : Nat) : Int) c := by
  have hp : 2 ^ n ≤ 2 ^ 32 := Nat.pow_le_pow_right (by decide) h2
  have l1 : notN n x < 2 ^ n := notN_lt
  rw [hasZ_nat (by omega), hasZ_nat (by omega), notN_bit h, decide_eq_true (show 0 ≤ c ∧ c < 32 by omega), decide_eq_true (show c.toNat < n by omega)]
  simp
end Go.Proofs.YtnpbbmoknlbfaaaGreatDoor
