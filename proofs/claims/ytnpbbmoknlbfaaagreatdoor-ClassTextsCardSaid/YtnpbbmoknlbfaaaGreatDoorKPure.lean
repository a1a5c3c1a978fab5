/- Sets of classes and their texts, plainly. -/
import Derived.Test.YtnpbbmoknlbfaaaGreatDoorPPure
import Derived.Test.YtnpbbmoknlbfaaaGreatDoorFSplit
import Derived.Lib.Join
namespace Go.Proofs.YtnpbbmoknlbfaaaGreatDoor

def rightZ (s n : Int) : Bool := decide (1 ≤ n ∧ n ≤ 32 ∧ 0 ≤ s ∧ s < 2 ^ n.toNat)
def hasZ (s c : Int) : Bool := rightZ s 32 && decide (0 ≤ c ∧ c < 32) && s.toNat.testBit c.toNat
def inC (c : Int) : Bool := decide (0 ≤ c ∧ c < 32)
def ofN (l : List Int) : Nat := l.foldl (fun x c => x ||| 2 ^ c.toNat) 0
def ofZ (l : List Int) : Option Nat := if l.all inC then some (ofN l) else none
def classesN (n x : Nat) : List Nat := (List.range n).filter x.testBit
def notN (n x : Nat) : Nat := 2 ^ n - 1 - x
def notZ (s n : Int) : Int := if rightZ s n then ((notN n.toNat s.toNat : Nat) : Int) else 0
def classesZ (s : Int) : List Nat := if rightZ s 32 then classesN 32 s.toNat else []
def nameAt (ns : List ByteArray) (c : Nat) : ByteArray := ns.getD c ⟨#[]⟩
def listB (ns : List ByteArray) (cs : List Nat) : List UInt8 := Lib.join (cs.map fun c => (nameAt ns c).data.toList) [32]
def textB (ns : List ByteArray) (x : Nat) : List UInt8 :=
  if x = 2 ^ ns.length - 1 then [46]
  else if (classesN ns.length x).length = 1 then listB ns (classesN ns.length x)
  else if ns.length < 2 * (classesN ns.length x).length then [91, 94] ++ listB ns (classesN ns.length (notN ns.length x)) ++ [93]
  else [91] ++ listB ns (classesN ns.length x) ++ [93]
def withinL (ns : List ByteArray) : Nat → List (List UInt8) → Option Nat
  | x, [] => some x
  | x, t :: l => match valueL ns ⟨t.toArray⟩ with
    | none => none
    | some c => if x.testBit c then none else withinL ns (x ||| 2 ^ c) l
def listedL (ns : List ByteArray) (t : List UInt8) : Option Nat := if t = [] then some 0 else withinL ns 0 (splitL 32 t)
/-- The text between a bracket, and what stands ahead of it, and the closing one. -/
def readL (ns : List ByteArray) (s : List UInt8) : Option Nat :=
  if s = [46] then some (2 ^ ns.length - 1)
  else if s.getLast? = some 93 ∧ [91, 94] <+: s.dropLast then (listedL ns (s.dropLast.drop 2)).map (notN ns.length)
  else if s.getLast? = some 93 ∧ [91] <+: s.dropLast then listedL ns (s.dropLast.drop 1)
  else (valueL ns ⟨s.toArray⟩).map (2 ^ ·)

theorem two_pos (n : Nat) : 1 ≤ 2 ^ n := Nat.one_le_two_pow
theorem rightZ_nat {x n : Nat} : rightZ (x : Int) (n : Int) = (decide (1 ≤ n) && decide (n ≤ 32) && decide (x < 2 ^ n)) := by
  have e : ((x : Int) < 2 ^ n) ↔ x < 2 ^ n := by
    rw [show ((2 : Int) ^ n) = ((2 ^ n : Nat) : Int) by simp]
    exact Int.ofNat_lt
  unfold rightZ
  rw [← Bool.decide_and, ← Bool.decide_and]
  congr 1
  simp only [Int.toNat_natCast, eq_iff_iff, e, and_assoc]
  omega
theorem rightZ_of {s n : Int} (h : rightZ s n = true) : ∃ x m : Nat, s = x ∧ n = m ∧ 1 ≤ m ∧ m ≤ 32 ∧ x < 2 ^ m := by
  unfold rightZ at h
  have h1 := of_decide_eq_true h
  obtain ⟨x, rfl⟩ := Int.eq_ofNat_of_zero_le h1.2.2.1
  obtain ⟨m, rfl⟩ := Int.eq_ofNat_of_zero_le (show 0 ≤ n by omega)
  have h2 := rightZ_nat (x := x) (n := m)
  unfold rightZ at h2
  rw [h] at h2
  simp only [Bool.true_eq, Bool.and_eq_true, decide_eq_true_eq] at h2
  exact ⟨x, m, rfl, rfl, h2.1.1, h2.1.2, h2.2⟩
theorem rightZ_ok {x m : Nat} (h1 : 1 ≤ m) (h2 : m ≤ 32) (h3 : x < 2 ^ m) : rightZ (x : Int) (m : Int) = true := by
  rw [rightZ_nat]
  simp [h1, h2, h3]
theorem rightZ_32 {x m : Nat} (h2 : m ≤ 32) (h3 : x < 2 ^ m) : rightZ (x : Int) 32 = true := by
  rw [show (32 : Int) = ((32 : Nat) : Int) from rfl]
  exact rightZ_ok (by omega) (by omega) (Nat.lt_of_lt_of_le h3 (Nat.pow_le_pow_right (by decide) h2))
theorem and_two {x c : Nat} (h : x.testBit c = false) : x &&& 2 ^ c = 0 := by
  apply Nat.eq_of_testBit_eq
  intro i
  rw [Nat.testBit_and, Nat.testBit_two_pow, Nat.zero_testBit]
  by_cases g : c = i
  · subst g; rw [h]; rfl
  · rw [decide_eq_false g, Bool.and_false]
theorem or_two {x c : Nat} (h : x.testBit c = false) : x ||| 2 ^ c = x + 2 ^ c := by
  obtain ⟨w, hw⟩ : ∃ w, w = x + 2 ^ c := ⟨_, rfl⟩
  have hp := two_pos c
  have l1 : x < 2 ^ w := Nat.lt_of_le_of_lt (by rw [hw]; omega) Nat.lt_two_pow_self
  have l2 : 2 ^ c < 2 ^ w := Nat.lt_of_le_of_lt (by rw [hw]; omega) Nat.lt_two_pow_self
  have e : (BitVec.ofNat w x) &&& (BitVec.ofNat w (2 ^ c)) = 0#w := by
    apply BitVec.eq_of_toNat_eq
    rw [BitVec.toNat_and, BitVec.toNat_ofNat, BitVec.toNat_ofNat, Nat.mod_eq_of_lt l1, Nat.mod_eq_of_lt l2, and_two h]
    rfl
  have e1 := BitVec.toNat_add_of_and_eq_zero e
  rw [BitVec.add_eq_or_of_and_eq_zero _ _ e, BitVec.toNat_or, BitVec.toNat_ofNat, BitVec.toNat_ofNat, Nat.mod_eq_of_lt l1, Nat.mod_eq_of_lt l2] at e1
  exact e1
theorem bit_or_two (x c i : Nat) : (x ||| 2 ^ c).testBit i = (x.testBit i || decide (c = i)) := by rw [Nat.testBit_or, Nat.testBit_two_pow]
theorem or_two_has {x c : Nat} (h : x.testBit c = true) : x ||| 2 ^ c = x := by
  apply Nat.eq_of_testBit_eq
  intro i
  rw [bit_or_two]
  by_cases g : c = i
  · subst g; rw [h]; simp
  · rw [decide_eq_false g, Bool.or_false]
theorem or_two_ne {x c : Nat} (h : x.testBit c = false) : x ||| 2 ^ c ≠ x := fun e => by
  have := bit_or_two x c c
  rw [e, h] at this
  simp at this
theorem or_two_lt {x c n : Nat} (h : x < 2 ^ n) (hc : c < n) : x ||| 2 ^ c < 2 ^ n := Nat.or_lt_two_pow h (Nat.pow_lt_pow_right (by decide) hc)
theorem notN_bit {n x : Nat} (h : x < 2 ^ n) (i : Nat) : (notN n x).testBit i = (decide (i < n) && !x.testBit i) := by
  unfold notN
  rw [Nat.sub_sub, Nat.add_comm 1 x]
  exact Nat.testBit_two_pow_sub_succ h i
theorem notN_lt {n x : Nat} : notN n x < 2 ^ n := by
  have := two_pos n
  unfold notN
  omega
theorem notN_notN {n x : Nat} (h : x < 2 ^ n) : notN n (notN n x) = x := by unfold notN; omega
theorem div_bit (x c : Nat) : (decide (x / 2 ^ c % 2 = 1)) = x.testBit c := Nat.testBit_eq_decide_div_mod_eq.symm
theorem bit_lt {n x i : Nat} (h : x < 2 ^ n) (hi : n ≤ i) : x.testBit i = false := Nat.testBit_lt_two_pow (Nat.lt_of_lt_of_le h (Nat.pow_le_pow_right (by decide) hi))
/-- The classes, one further. -/
theorem classesN_snoc (n x : Nat) : classesN (n + 1) x = classesN n x ++ (if x.testBit n then [n] else []) := by
  unfold classesN
  rw [List.range_succ, List.filter_append]
  congr 1
  by_cases h : x.testBit n <;> simp [h]
theorem classesN_mem {n x c : Nat} : c ∈ classesN n x ↔ c < n ∧ x.testBit c = true := by
  unfold classesN
  rw [List.mem_filter, List.mem_range]
theorem classesN_more {n x : Nat} (h : x < 2 ^ n) : ∀ k, classesN (n + k) x = classesN n x
  | 0 => rfl
  | k + 1 => by rw [← Nat.add_assoc, classesN_snoc, classesN_more h k, bit_lt h (by omega)]; simp
theorem classesN_32 {n x : Nat} (h : x < 2 ^ n) (hn : n ≤ 32) : classesN 32 x = classesN n x := by
  have := classesN_more h (32 - n)
  rwa [show n + (32 - n) = 32 by omega] at this
theorem classesN_length {n x : Nat} (h : x < 2 ^ n) : ∀ k, k ≤ n → (classesN k x).length + (classesN k (notN n x)).length = k
  | 0, _ => rfl
  | k + 1, hk => by
    have ih := classesN_length h k (by omega)
    have e : (notN n x).testBit k = !x.testBit k := by rw [notN_bit h, decide_eq_true (show k < n by omega), Bool.true_and]
    rw [classesN_snoc, classesN_snoc, List.length_append, List.length_append, e]
    cases x.testBit k <;> simp <;> omega
theorem classesN_le (n x : Nat) : (classesN n x).length ≤ n := by
  unfold classesN
  have := List.length_filter_le x.testBit (List.range n)
  rwa [List.length_range] at this
/-- What is made of the classes, one by one. -/
def orN (x : Nat) (l : List Nat) : Nat := l.foldl (fun x c => x ||| 2 ^ c) x
theorem orN_bit : ∀ (l : List Nat) (x i : Nat), (orN x l).testBit i = (x.testBit i || decide (i ∈ l))
  | [], x, i => by simp [orN]
  | c :: l, x, i => by
    rw [orN, List.foldl_cons, ← orN, orN_bit l, bit_or_two, Bool.or_assoc]
    congr 1
    by_cases h : c = i
    · simp [h]
    · simp [h, Ne.symm h]
theorem orN_classes {n x : Nat} (h : x < 2 ^ n) : orN 0 (classesN n x) = x := by
  apply Nat.eq_of_testBit_eq
  intro i
  rw [orN_bit, Nat.zero_testBit, Bool.false_or]
  rcases Nat.lt_or_ge i n with hi | hi
  · by_cases hx : x.testBit i = true
    · rw [hx, decide_eq_true (classesN_mem.2 ⟨hi, hx⟩)]
    · rw [decide_eq_false fun hm => hx (classesN_mem.1 hm).2]
      simpa using hx
  · rw [bit_lt h hi, decide_eq_false fun hm => absurd (classesN_mem.1 hm).1 (by omega)]
theorem classesN_nodup (n x : Nat) : (classesN n x).Nodup := List.Pairwise.filter _ List.nodup_range
theorem classesN_inj {n x y : Nat} (hx : x < 2 ^ n) (hy : y < 2 ^ n) (h : classesN n x = classesN n y) : x = y := by rw [← orN_classes hx, ← orN_classes hy, h]
theorem all_iff {n x : Nat} (h : x < 2 ^ n) : x = 2 ^ n - 1 ↔ (classesN n x).length = n := by
  have hl := classesN_length h n (Nat.le_refl _)
  constructor
  · rintro rfl
    have : notN n (2 ^ n - 1) = 0 := by unfold notN; omega
    rw [this] at hl
    have e : classesN n 0 = [] := by
      rw [List.eq_nil_iff_forall_not_mem]
      intro c hc
      have := (classesN_mem.1 hc).2
      simp at this
    rw [e] at hl
    simpa using hl
  · intro e
    have e2 : classesN n (notN n x) = [] := List.length_eq_zero_iff.1 (by omega)
    have := orN_classes (x := notN n x) notN_lt
    rw [e2] at this
    have h3 : notN n x = 0 := this.symm
    unfold notN at h3
    omega
end Go.Proofs.YtnpbbmoknlbfaaaGreatDoor
