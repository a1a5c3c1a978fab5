/- Sets of classes and their texts, plainly. Patterns: what fits them, plainly. Patterns: how far items have fitted, number by number, as it is worked out. States of patterns as numbers, plainly. The sets of lists of classes, plainly. whole, right, has, with, not. -/
import Derived.Test.YtjacebnlikhjnaaDoorBunP4
import Derived.Test.YtjacebnlikhjnaaDoorBunF3
import Derived.Lib.Join
import Derived.StillTailTactics
import Derived.Deep.RegionHeld3
namespace Go.Proofs.YtjacebnlikhjnaaDoor

def rightZ (s n : Int) : Bool := decide (1 ≤ n ∧ n ≤ 32 ∧ 0 ≤ s ∧ s < 2 ^ n.toNat)
def hasZ (s c : Int) : Bool := rightZ s 32 && decide (0 ≤ c ∧ c < 32) && s.toNat.testBit c.toNat
def inC (c : Int) : Bool := decide (0 ≤ c ∧ c < 32)
def ofN (l : List Int) : Nat := l.foldl (fun x c => x ||| 2 ^ c.toNat) 0
def ofZ (l : List Int) : Option Nat := if l.all inC then some (ofN l) else none
def classesN (n x : Nat) : List Nat := (List.range n).filter x.testBit
def notN (n x : Nat) : Nat := 2 ^ n - 1 - x
def notZ (s n : Int) : Int := if rightZ s n then ((notN n.toNat s.toNat : Nat) : Int) else 0
def classesZ (s : Int) : List Nat := if rightZ s 32 then classesN 32 s.toNat else []
def nameAt (ns : List ByteArray) (c : Nat) : ByteArray := ns.getD c ⟨#[]⟩
def listB (ns : List ByteArray) (cs : List Nat) : List UInt8 := Lib.join (cs.map fun c => (nameAt ns c).data.toList) [32]
def textB (ns : List ByteArray) (x : Nat) : List UInt8 :=
  if x = 2 ^ ns.length - 1 then [46]
  else if (classesN ns.length x).length = 1 then listB ns (classesN ns.length x)
  else if ns.length < 2 * (classesN ns.length x).length then [91, 94] ++ listB ns (classesN ns.length (notN ns.length x)) ++ [93]
  else [91] ++ listB ns (classesN ns.length x) ++ [93]
def withinL (ns : List ByteArray) : Nat → List (List UInt8) → Option Nat
  | x, [] => some x
  | x, t :: l => match valueL ns ⟨t.toArray⟩ with
    | none => none
    | some c => if x.testBit c then none else withinL ns (x ||| 2 ^ c) l
def listedL (ns : List ByteArray) (t : List UInt8) : Option Nat := if t = [] then some 0 else withinL ns 0 (splitL 32 t)
/-- The text between a bracket, and what stands ahead of it, and the closing one. -/
def readL (ns : List ByteArray) (s : List UInt8) : Option Nat :=
  if s = [46] then some (2 ^ ns.length - 1)
  else if s.getLast? = some 93 ∧ [91, 94] <+: s.dropLast then (listedL ns (s.dropLast.drop 2)).map (notN ns.length)
  else if s.getLast? = some 93 ∧ [91] <+: s.dropLast then listedL ns (s.dropLast.drop 1)
  else (valueL ns ⟨s.toArray⟩).map (2 ^ ·)

theorem two_pos (n : Nat) : 1 ≤ 2 ^ n := Nat.one_le_two_pow
theorem rightZ_nat {x n : Nat} : rightZ (x : Int) (n : Int) = (decide (1 ≤ n) && decide (n ≤ 32) && decide (x < 2 ^ n)) := by
  have e : ((x : Int) < 2 ^ n) ↔ x < 2 ^ n := by
    rw [show ((2 : Int) ^ n) = ((2 ^ n : Nat) : Int) by simp]
    exact Int.ofNat_lt
  unfold rightZ
  rw [← Bool.decide_and, ← Bool.decide_and]
  congr 1
  simp only [Int.toNat_natCast, eq_iff_iff, e, and_assoc]
  omega
theorem rightZ_of {s n : Int} (h : rightZ s n = true) : ∃ x m : Nat, s = x ∧ n = m ∧ 1 ≤ m ∧ m ≤ 32 ∧ x < 2 ^ m := by
  unfold rightZ at h
  have h1 := of_decide_eq_true h
  obtain ⟨x, rfl⟩ := Int.eq_ofNat_of_zero_le h1.2.2.1
  obtain ⟨m, rfl⟩ := Int.eq_ofNat_of_zero_le (show 0 ≤ n by omega)
  have h2 := rightZ_nat (x := x) (n := m)
  unfold rightZ at h2
  rw [h] at h2
  simp only [Bool.true_eq, Bool.and_eq_true, decide_eq_true_eq] at h2
  exact ⟨x, m, rfl, rfl, h2.1.1, h2.1.2, h2.2⟩
theorem rightZ_ok {x m : Nat} (h1 : 1 ≤ m) (h2 : m ≤ 32) (h3 : x < 2 ^ m) : rightZ (x : Int) (m : Int) = true := by
  rw [rightZ_nat]
  simp [h1, h2, h3]
theorem rightZ_32 {x m : Nat} (h2 : m ≤ 32) (h3 : x < 2 ^ m) : rightZ (x : Int) 32 = true := by
  rw [show (32 : Int) = ((32 : Nat) : Int) from rfl]
  exact rightZ_ok (by omega) (by omega) (Nat.lt_of_lt_of_le h3 (Nat.pow_le_pow_right (by decide) h2))
theorem and_two {x c : Nat} (h : x.testBit c = false) : x &&& 2 ^ c = 0 := by
  apply Nat.eq_of_testBit_eq
  intro i
  rw [Nat.testBit_and, Nat.testBit_two_pow, Nat.zero_testBit]
  by_cases g : c = i
  · subst g; rw [h]; rfl
  · rw [decide_eq_false g, Bool.and_false]
theorem or_two {x c : Nat} (h : x.testBit c = false) : x ||| 2 ^ c = x + 2 ^ c := by
  obtain ⟨w, hw⟩ : ∃ w, w = x + 2 ^ c := ⟨_, rfl⟩
  have hp := two_pos c
  have l1 : x < 2 ^ w := Nat.lt_of_le_of_lt (by rw [hw]; omega) Nat.lt_two_pow_self
  have l2 : 2 ^ c < 2 ^ w := Nat.lt_of_le_of_lt (by rw [hw]; omega) Nat.lt_two_pow_self
  have e : (BitVec.ofNat w x) &&& (BitVec.ofNat w (2 ^ c)) = 0#w := by
    apply BitVec.eq_of_toNat_eq
    rw [BitVec.toNat_and, BitVec.toNat_ofNat, BitVec.toNat_ofNat, Nat.mod_eq_of_lt l1, Nat.mod_eq_of_lt l2, and_two h]
    rfl
  have e1 := BitVec.toNat_add_of_and_eq_zero e
  rw [BitVec.add_eq_or_of_and_eq_zero _ _ e, BitVec.toNat_or, BitVec.toNat_ofNat, BitVec.toNat_ofNat, Nat.mod_eq_of_lt l1, Nat.mod_eq_of_lt l2] at e1
  exact e1
theorem bit_or_two (x c i : Nat) : (x ||| 2 ^ c).testBit i = (x.testBit i || decide (c = i)) := by rw [Nat.testBit_or, Nat.testBit_two_pow]
theorem or_two_has {x c : Nat} (h : x.testBit c = true) : x ||| 2 ^ c = x := by
  apply Nat.eq_of_testBit_eq
  intro i
  rw [bit_or_two]
  by_cases g : c = i
  · subst g; rw [h]; simp
  · rw [decide_eq_false g, Bool.or_false]
theorem or_two_ne {x c : Nat} (h : x.testBit c = false) : x ||| 2 ^ c ≠ x := fun e => by
  have := bit_or_two x c c
  rw [e, h] at this
  simp at this
theorem or_two_lt {x c n : Nat} (h : x < 2 ^ n) (hc : c < n) : x ||| 2 ^ c < 2 ^ n := Nat.or_lt_two_pow h (Nat.pow_lt_pow_right (by decide) hc)
theorem notN_bit {n x : Nat} (h : x < 2 ^ n) (i : Nat) : (notN n x).testBit i = (decide (i < n) && !x.testBit i) := by
  unfold notN
  rw [Nat.sub_sub, Nat.add_comm 1 x]
  exact Nat.testBit_two_pow_sub_succ h i
theorem notN_lt {n x : Nat} : notN n x < 2 ^ n := by
  have := two_pos n
  unfold notN
  omega
theorem notN_notN {n x : Nat} (h : x < 2 ^ n) : notN n (notN n x) = x := by unfold notN; omega
theorem div_bit (x c : Nat) : (decide (x / 2 ^ c % 2 = 1)) = x.testBit c := Nat.testBit_eq_decide_div_mod_eq.symm
theorem bit_lt {n x i : Nat} (h : x < 2 ^ n) (hi : n ≤ i) : x.testBit i = false := Nat.testBit_lt_two_pow (Nat.lt_of_lt_of_le h (Nat.pow_le_pow_right (by decide) hi))
/-- The classes, one further. -/
theorem classesN_snoc (n x : Nat) : classesN (n + 1) x = classesN n x ++ (if x.testBit n then [n] else []) := by
  unfold classesN
  rw [List.range_succ, List.filter_append]
  congr 1
  by_cases h : x.testBit n <;> simp [h]
theorem classesN_mem {n x c : Nat} : c ∈ classesN n x ↔ c < n ∧ x.testBit c = true := by
  unfold classesN
  rw [List.mem_filter, List.mem_range]
theorem classesN_more {n x : Nat} (h : x < 2 ^ n) : ∀ k, classesN (n + k) x = classesN n x
  | 0 => rfl
  | k + 1 => by rw [← Nat.add_assoc, classesN_snoc, classesN_more h k, bit_lt h (by omega)]; simp
theorem classesN_32 {n x : Nat} (h : x < 2 ^ n) (hn : n ≤ 32) : classesN 32 x = classesN n x := by
  have := classesN_more h (32 - n)
  rwa [show n + (32 - n) = 32 by omega] at this
theorem classesN_length {n x : Nat} (h : x < 2 ^ n) : ∀ k, k ≤ n → (classesN k x).length + (classesN k (notN n x)).length = k
  | 0, _ => rfl
  | k + 1, hk => by
    have ih := classesN_length h k (by omega)
    have e : (notN n x).testBit k = !x.testBit k := by rw [notN_bit h, decide_eq_true (show k < n by omega), Bool.true_and]
    rw [classesN_snoc, classesN_snoc, List.length_append, List.length_append, e]
    cases x.testBit k <;> simp <;> omega
theorem classesN_le (n x : Nat) : (classesN n x).length ≤ n := by
  unfold classesN
  have := List.length_filter_le x.testBit (List.range n)
  rwa [List.length_range] at this
/-- What is made of the classes, one by one. -/
def orN (x : Nat) (l : List Nat) : Nat := l.foldl (fun x c => x ||| 2 ^ c) x
theorem orN_bit : ∀ (l : List Nat) (x i : Nat), (orN x l).testBit i = (x.testBit i || decide (i ∈ l))
  | [], x, i => by simp [orN]
  | c :: l, x, i => by
    rw [orN, List.foldl_cons, ← orN, orN_bit l, bit_or_two, Bool.or_assoc]
    congr 1
    by_cases h : c = i
    · simp [h]
    · simp [h, Ne.symm h]
theorem orN_classes {n x : Nat} (h : x < 2 ^ n) : orN 0 (classesN n x) = x := by
  apply Nat.eq_of_testBit_eq
  intro i
  rw [orN_bit, Nat.zero_testBit, Bool.false_or]
  rcases Nat.lt_or_ge i n with hi | hi
  · by_cases hx : x.testBit i = true
    · rw [hx, decide_eq_true (classesN_mem.2 ⟨hi, hx⟩)]
    · rw [decide_eq_false fun hm => hx (classesN_mem.1 hm).2]
      simpa using hx
  · rw [bit_lt h hi, decide_eq_false fun hm => absurd (classesN_mem.1 hm).1 (by omega)]
theorem classesN_nodup (n x : Nat) : (classesN n x).Nodup := List.Pairwise.filter _ List.nodup_range
theorem classesN_inj {n x y : Nat} (hx : x < 2 ^ n) (hy : y < 2 ^ n) (h : classesN n x = classesN n y) : x = y := by rw [← orN_classes hx, ← orN_classes hy, h]
theorem all_iff {n x : Nat} (h : x < 2 ^ n) : x = 2 ^ n - 1 ↔ (classesN n x).length = n := by
  have hl := classesN_length h n (Nat.le_refl _)
  constructor
  · rintro rfl
    have : notN n (2 ^ n - 1) = 0 := by unfold notN; omega
    rw [this] at hl
    have e : classesN n 0 = [] := by
      rw [List.eq_nil_iff_forall_not_mem]
      intro c hc
      have := (classesN_mem.1 hc).2
      simp at this
    rw [e] at hl
    simpa using hl
  · intro e
    have e2 : classesN n (notN n x) = [] := List.length_eq_zero_iff.1 (by omega)
    have := orN_classes (x := notN n x) notN_lt
    rw [e2] at this
    have h3 : notN n x = 0 := this.symm
    unfold notN at h3
    omega
end Go.Proofs.YtjacebnlikhjnaaDoor

namespace Go.Proofs.YtjacebnlikhjnaaDoor

/-- An item: its set, how often it stands. -/
abbrev ItemP := Int × Int
/-- Numbers that one item eats. -/
def eatsP (x : ItemP) (l : List Int) : Prop := (∀ c ∈ l, hasZ x.1 c = true) ∧ (x.2 = 1 ∨ (x.2 = 0 ∧ l.length = 1) ∨ (x.2 = 2 ∧ l.length % 2 = 0))
/-- Numbers that fit items. -/
def fitsP : List ItemP → List Int → Prop
  | [], l => l = []
  | x :: r, l => ∃ a b, l = a ++ b ∧ eatsP x a ∧ fitsP r b
theorem fitsP_append : ∀ (xs ys : List ItemP) (l : List Int), fitsP (xs ++ ys) l ↔ ∃ a b, l = a ++ b ∧ fitsP xs a ∧ fitsP ys b
  | [], ys, l => by
    constructor
    · intro h; exact ⟨[], l, rfl, rfl, h⟩
    · rintro ⟨a, b, rfl, h1, h2⟩
      have : a = [] := h1
      rw [this]; exact h2
  | x :: xs, ys, l => by
    show (∃ a b, l = a ++ b ∧ eatsP x a ∧ fitsP (xs ++ ys) b) ↔ _
    constructor
    · rintro ⟨a, b, rfl, h1, h2⟩
      obtain ⟨c, d, rfl, h3, h4⟩ := (fitsP_append xs ys b).1 h2
      exact ⟨a ++ c, d, by rw [List.append_assoc], ⟨a, c, rfl, h1, h3⟩, h4⟩
    · rintro ⟨a, b, rfl, ⟨c, d, rfl, h1, h2⟩, h3⟩
      exact ⟨c, d ++ b, by rw [List.append_assoc], h1, (fitsP_append xs ys _).2 ⟨d, b, rfl, h2, h3⟩⟩
theorem fitsP_one (x : ItemP) (l : List Int) : fitsP [x] l ↔ eatsP x l := by
  constructor
  · rintro ⟨a, b, rfl, h, hb⟩
    have : b = [] := hb
    rw [this, List.append_nil]; exact h
  · intro h; exact ⟨l, [], by simp, h, rfl⟩
theorem fitsP_snoc (xs : List ItemP) (x : ItemP) (l : List Int) : fitsP (xs ++ [x]) l ↔ ∃ a b, l = a ++ b ∧ fitsP xs a ∧ eatsP x b := by
  rw [fitsP_append]
  constructor
  · rintro ⟨a, b, h, h1, h2⟩; exact ⟨a, b, h, h1, (fitsP_one _ _).1 h2⟩
  · rintro ⟨a, b, h, h1, h2⟩; exact ⟨a, b, h, h1, (fitsP_one _ _).2 h2⟩
theorem eatsP_reverse (x : ItemP) (l : List Int) : eatsP x l.reverse ↔ eatsP x l := by
  unfold eatsP
  simp
theorem fitsP_reverse : ∀ (xs : List ItemP) (l : List Int), fitsP xs.reverse l.reverse ↔ fitsP xs l
  | [], l => by
    show l.reverse = [] ↔ l = []
    simp
  | x :: xs, l => by
    rw [List.reverse_cons, fitsP_snoc]
    show _ ↔ ∃ a b, l = a ++ b ∧ eatsP x a ∧ fitsP xs b
    constructor
    · rintro ⟨a, b, h, h1, h2⟩
      refine ⟨b.reverse, a.reverse, ?_, (eatsP_reverse _ _).2 h2, ?_⟩
      · have := congrArg List.reverse h
        simpa using this
      · rw [← fitsP_reverse xs]; simpa using h1
    · rintro ⟨a, b, rfl, h1, h2⟩
      exact ⟨b.reverse, a.reverse, by simp, (fitsP_reverse xs b).2 h2, (eatsP_reverse _ _).2 h1⟩
/-- The items up to one have fitted, and that one may go on. -/
def nextP (xs : List ItemP) (i : Nat) (l : List Int) : Prop := ∃ a b, l = a ++ b ∧ fitsP (xs.take i) a ∧ (b = [] ∨ ∃ x, xs[i]? = some x ∧ x.2 ≠ 0 ∧ eatsP x b)
/-- Of that one, that is Pairs, one more has fitted. -/
def halfP (xs : List ItemP) (i : Nat) (l : List Int) : Prop := ∃ a c x, l = a ++ [c] ∧ xs[i]? = some x ∧ x.2 = 2 ∧ hasZ x.1 c = true ∧ nextP xs i a
def howP (xs : List ItemP) : Prop := ∀ x ∈ xs, x.2 = 0 ∨ x.2 = 1 ∨ x.2 = 2
theorem eatsP_nil {x : ItemP} (h : x.2 = 1 ∨ x.2 = 2) : eatsP x [] := by
  refine ⟨by simp, ?_⟩
  rcases h with h | h
  · exact .inl h
  · exact .inr (.inr ⟨h, rfl⟩)
theorem nextP_all (xs : List ItemP) (l : List Int) : nextP xs xs.length l ↔ fitsP xs l := by
  unfold nextP
  rw [List.take_length]
  constructor
  · rintro ⟨a, b, rfl, h, (rfl | ⟨x, hx, _⟩)⟩
    · rw [List.append_nil]; exact h
    · rw [List.getElem?_eq_none (Nat.le_refl _)] at hx; cases hx
  · intro h; exact ⟨l, [], by simp, h, .inl rfl⟩
theorem nextP_of_fits {xs : List ItemP} {i : Nat} {l : List Int} (h : fitsP (xs.take i) l) : nextP xs i l := ⟨l, [], by simp, h, .inl rfl⟩
theorem take_more {α : Type} {xs : List α} {i : Nat} {x : α} (h : xs[i]? = some x) : xs.take (i + 1) = xs.take i ++ [x] := by
  rw [List.take_add_one, h]; rfl
/-- What has fitted up to an item's end, in words of the item's beginning. -/
theorem fits_next {xs : List ItemP} {i : Nat} {x : ItemP} (hx : xs[i]? = some x) (hw : x.2 = 0 ∨ x.2 = 1 ∨ x.2 = 2) (l : List Int) :
    fitsP (xs.take (i + 1)) l ↔ (x.2 ≠ 0 ∧ nextP xs i l) ∨ (x.2 = 0 ∧ ∃ a c, l = a ++ [c] ∧ hasZ x.1 c = true ∧ fitsP (xs.take i) a) := by
  rw [take_more hx, fitsP_snoc]
  constructor
  · rintro ⟨a, b, rfl, h1, h2⟩
    by_cases h0 : x.2 = 0
    · right
      refine ⟨h0, ?_⟩
      rcases h2.2 with h | h | h
      · omega
      · obtain ⟨c, rfl⟩ := List.length_eq_one_iff.1 h.2
        exact ⟨a, c, rfl, h2.1 c (by simp), h1⟩
      · omega
    · exact .inl ⟨h0, a, b, rfl, h1, .inr ⟨x, hx, h0, h2⟩⟩
  · rintro (⟨h0, a, b, rfl, h1, h2⟩ | ⟨h0, a, c, rfl, h1, h2⟩)
    · refine ⟨a, b, rfl, h1, ?_⟩
      rcases h2 with rfl | ⟨y, hy, _, h3⟩
      · exact eatsP_nil (by omega)
      · rw [hx] at hy
        injection hy with hy
        rw [hy]; exact h3
    · exact ⟨a, [c], rfl, h2, by
        refine ⟨by simpa using h1, .inr (.inl ⟨h0, rfl⟩)⟩⟩
/-- At the beginning. -/
theorem nextP_nil {xs : List ItemP} (hw : howP xs) : ∀ (i : Nat), i ≤ xs.length → (nextP xs i [] ↔ ∀ x ∈ xs.take i, x.2 ≠ 0) := by
  have hf : ∀ (l : List ItemP), howP l → (fitsP l [] ↔ ∀ x ∈ l, x.2 ≠ 0) := by
    intro l
    induction l with
    | nil => intro _; simp [fitsP]
    | cons x r ih =>
      intro h
      have hx := h x (by simp)
      have hr := ih fun y hy => h y (List.mem_cons_of_mem _ hy)
      constructor
      · rintro ⟨a, b, hab, h1, h2⟩
        obtain ⟨rfl, rfl⟩ := List.append_eq_nil_iff.1 hab.symm
        intro y hy
        rcases List.mem_cons.1 hy with rfl | hy
        · rcases h1.2 with g | g | g
          · omega
          · simp at g
          · omega
        · exact hr.1 h2 y hy
      · intro hy
        refine ⟨[], [], rfl, eatsP_nil ?_, hr.2 fun y h => hy y (List.mem_cons_of_mem _ h)⟩
        have := hy x (by simp)
        omega
  intro i hi
  rw [← hf (xs.take i) fun x hx => hw x (List.mem_of_mem_take hx)]
  constructor
  · rintro ⟨a, b, hab, h1, _⟩
    obtain ⟨rfl, rfl⟩ := List.append_eq_nil_iff.1 hab.symm
    exact h1
  · exact nextP_of_fits
/-- One number further: an item may go on, as it was passed over, or by that number. -/
theorem nextP_snoc {xs : List ItemP} {i : Nat} (l : List Int) (c : Int) :
    nextP xs i (l ++ [c]) ↔ fitsP (xs.take i) (l ++ [c]) ∨ (∃ x, xs[i]? = some x ∧ hasZ x.1 c = true ∧ ((x.2 = 1 ∧ nextP xs i l) ∨ (x.2 = 2 ∧ halfP xs i l))) := by
  constructor
  · rintro ⟨a, b, hab, h1, (rfl | ⟨x, hx, h0, h2⟩)⟩
    · rw [List.append_nil] at hab
      rw [hab]; exact .inl h1
    · rcases List.eq_nil_or_concat b with rfl | ⟨b', d, rfl⟩
      · rw [List.append_nil] at hab
        rw [hab]; exact .inl h1
      · rw [List.concat_eq_append, ← List.append_assoc] at hab
        obtain ⟨rfl, h⟩ := List.append_inj' hab (by simp)
        injection h with h _
        subst h
        rw [List.concat_eq_append] at h2
        refine .inr ⟨x, hx, h2.1 c (by simp), ?_⟩
        rcases h2.2 with g | g | g
        · exact .inl ⟨g, a, b', rfl, h1, .inr ⟨x, hx, h0, fun y hy => h2.1 y (List.mem_append_left _ hy), .inl g⟩⟩
        · omega
        · right
          refine ⟨g.1, ?_⟩
          have hb : b'.length % 2 = 1 := by
            have := g.2
            rw [List.length_append, List.length_singleton] at this
            omega
          rcases List.eq_nil_or_concat b' with rfl | ⟨b2, d, rfl⟩
          · simp at hb
          · rw [List.concat_eq_append] at h2 hb ⊢
            refine ⟨a ++ b2, d, x, by rw [List.append_assoc], hx, g.1, h2.1 d (by simp), a, b2, rfl, h1, .inr ⟨x, hx, h0, fun y hy => h2.1 y (by simp [hy]), .inr (.inr ⟨g.1, ?_⟩)⟩⟩
            rw [List.length_append, List.length_singleton] at hb
            omega
  · rintro (h | ⟨x, hx, hc, (⟨g, a, b, rfl, h1, h2⟩ | ⟨g, a, d, y, rfl, hy, _, hd, a1, b1, rfl, h1, h2⟩)⟩)
    · exact nextP_of_fits h
    · refine ⟨a, b ++ [c], by rw [List.append_assoc], h1, .inr ⟨x, hx, by omega, ?_, .inl g⟩⟩
      intro y hy
      rcases List.mem_append.1 hy with hy | hy
      · rcases h2 with rfl | ⟨z, hz, _, h3⟩
        · simp at hy
        · rw [hx] at hz
          injection hz with hz
          rw [hz]; exact h3.1 y hy
      · rw [List.mem_singleton.1 hy]; exact hc
    · rw [hx] at hy
      injection hy with hy
      subst hy
      refine ⟨a1, b1 ++ [d, c], by simp, h1, .inr ⟨x, hx, by omega, ?_, .inr (.inr ⟨g, ?_⟩)⟩⟩
      · intro y hy
        rcases List.mem_append.1 hy with hy | hy
        · rcases h2 with rfl | ⟨z, hz, _, h3⟩
          · simp at hy
          · rw [hx] at hz
            injection hz with hz
            rw [hz]; exact h3.1 y hy
        · have : y = d ∨ y = c := by simpa using hy
          rcases this with rfl | rfl
          · exact hd
          · exact hc
      · rcases h2 with rfl | ⟨z, hz, _, h3⟩
        · simp
        · rw [hx] at hz
          injection hz with hz
          subst hz
          rcases h3.2 with q | q | q
          · omega
          · omega
          · rw [List.length_append]
            have := q.2
            simp
            omega
theorem halfP_snoc {xs : List ItemP} {i : Nat} (l : List Int) (c : Int) : halfP xs i (l ++ [c]) ↔ ∃ x, xs[i]? = some x ∧ x.2 = 2 ∧ hasZ x.1 c = true ∧ nextP xs i l := by
  constructor
  · rintro ⟨a, d, x, h, hx, h2, hd, hn⟩
    obtain ⟨rfl, e⟩ := List.append_inj' h (by simp)
    injection e with e _
    subst e
    exact ⟨x, hx, h2, hd, hn⟩
  · rintro ⟨x, hx, h2, hd, hn⟩
    exact ⟨l, c, x, rfl, hx, h2, hd, hn⟩
theorem nextP_once {xs : List ItemP} {i : Nat} {x : ItemP} (hx : xs[i]? = some x) (h0 : x.2 = 0) (l : List Int) : nextP xs i l ↔ fitsP (xs.take i) l := by
  constructor
  · rintro ⟨a, b, rfl, h1, (rfl | ⟨y, hy, h, _⟩)⟩
    · rw [List.append_nil]; exact h1
    · rw [hx] at hy
      injection hy with hy
      subst hy
      exact absurd h0 h
  · exact nextP_of_fits
theorem halfP_nil {xs : List ItemP} {i : Nat} : ¬ halfP xs i [] := by
  rintro ⟨a, c, x, h, _⟩
  simp at h
end Go.Proofs.YtjacebnlikhjnaaDoor

namespace Go.Proofs.YtjacebnlikhjnaaDoor

/-- Items that need not stand are passed over. -/
def overN (xs : List ItemP) (N : Nat → Bool) : Nat → Bool
  | 0 => N 0
  | i + 1 => N (i + 1) || (match xs[i]? with | some x => overN xs N i && decide (x.2 ≠ 0) | none => false)
/-- One number further, before that. -/
def stepN (xs : List ItemP) (c : Int) (N H : Nat → Bool) (i : Nat) : Bool :=
  (match xs[i]? with | some x => hasZ x.1 c && ((decide (x.2 = 1) && N i) || (decide (x.2 = 2) && H i)) | none => false) ||
  (match i with | 0 => false | j + 1 => match xs[j]? with | some x => hasZ x.1 c && (decide (x.2 = 0) && N j) | none => false)
def stepH (xs : List ItemP) (c : Int) (N : Nat → Bool) (i : Nat) : Bool :=
  match xs[i]? with | some x => hasZ x.1 c && (decide (x.2 = 2) && N i) | none => false
theorem some_bool {α : Type} {o : Option α} {p : α → Bool} : (match o with | some x => p x | none => false) = true ↔ ∃ x, o = some x ∧ p x = true := by
  cases o <;> simp
theorem step_next {xs : List ItemP} (hw : howP xs) {l : List Int} {c : Int} {N H : Nat → Bool} (hN : ∀ i, i ≤ xs.length → (N i = true ↔ nextP xs i l)) (hH : ∀ i, i < xs.length → (H i = true ↔ halfP xs i l)) :
    ∀ i, i ≤ xs.length → (overN xs (stepN xs c N H) i = true ↔ nextP xs i (l ++ [c])) := by
  have own : ∀ i, i ≤ xs.length → ((match xs[i]? with | some x => hasZ x.1 c && ((decide (x.2 = 1) && N i) || (decide (x.2 = 2) && H i)) | none => false) = true ↔ ∃ x, xs[i]? = some x ∧ hasZ x.1 c = true ∧ ((x.2 = 1 ∧ nextP xs i l) ∨ (x.2 = 2 ∧ halfP xs i l))) := by
    intro i hi
    cases hx : xs[i]? with
    | none => simp
    | some x =>
      have hlt := (List.getElem?_eq_some_iff.1 hx).1
      have h1 := hN i hi
      have h2 := hH i hlt
      simp only [Option.some.injEq, exists_eq_left', Bool.and_eq_true, Bool.or_eq_true, decide_eq_true_eq, h1, h2]
  intro i
  induction i with
  | zero =>
    intro hi
    show stepN xs c N H 0 = true ↔ _
    unfold stepN
    rw [Bool.or_false, own 0 hi, nextP_snoc]
    constructor
    · intro h; exact .inr h
    · rintro (h | h)
      · have : l ++ [c] = [] := h
        simp at this
      · exact h
  | succ i ih =>
    intro hi
    have hlt : i < xs.length := by omega
    obtain ⟨x, hx⟩ : ∃ x, xs[i]? = some x := ⟨_, List.getElem?_eq_getElem hlt⟩
    have hwx := hw x (List.mem_of_getElem? hx)
    have ihi := ih (by omega)
    rw [nextP_snoc, fits_next hx hwx]
    have e1 : stepN xs c N H (i + 1) = ((match xs[i + 1]? with | some x => hasZ x.1 c && ((decide (x.2 = 1) && N (i + 1)) || (decide (x.2 = 2) && H (i + 1))) | none => false) || (hasZ x.1 c && (decide (x.2 = 0) && N i))) := by
      show ((match xs[i + 1]? with | some x => hasZ x.1 c && ((decide (x.2 = 1) && N (i + 1)) || (decide (x.2 = 2) && H (i + 1))) | none => false) || (match xs[i]? with | some x => hasZ x.1 c && (decide (x.2 = 0) && N i) | none => false)) = _
      rw [hx]
    have e2 : overN xs (stepN xs c N H) (i + 1) = (stepN xs c N H (i + 1) || (overN xs (stepN xs c N H) i && decide (x.2 ≠ 0))) := by
      show (stepN xs c N H (i + 1) || (match xs[i]? with | some x => overN xs (stepN xs c N H) i && decide (x.2 ≠ 0) | none => false)) = _
      rw [hx]
    rw [e2, e1, Bool.or_eq_true, Bool.or_eq_true, own (i + 1) hi]
    simp only [Bool.and_eq_true, decide_eq_true_eq, ihi]
    have hNi := hN i (by omega)
    constructor
    · rintro ((h | ⟨h1, h2, h3⟩) | ⟨h1, h2⟩)
      · exact .inr h
      · exact .inl (.inr ⟨h2, l, c, rfl, h1, (nextP_once hx h2 l).1 (hNi.1 h3)⟩)
      · exact .inl (.inl ⟨h2, h1⟩)
    · rintro ((⟨h1, h2⟩ | ⟨h1, a, d, hab, h2, h3⟩) | h)
      · exact .inr ⟨h2, h1⟩
      · obtain ⟨rfl, e⟩ := List.append_inj' hab (by simp)
        injection e with e _
        subst e
        exact .inl (.inr ⟨h2, h1, hNi.2 ((nextP_once hx h1 l).2 h3)⟩)
      · exact .inl (.inl h)
theorem step_half {xs : List ItemP} {l : List Int} {c : Int} {N : Nat → Bool} (hN : ∀ i, i ≤ xs.length → (N i = true ↔ nextP xs i l)) (i : Nat) : stepH xs c N i = true ↔ halfP xs i (l ++ [c]) := by
  rw [halfP_snoc]
  unfold stepH
  cases hx : xs[i]? with
  | none => simp
  | some x =>
    have hlt := (List.getElem?_eq_some_iff.1 hx).1
    have h1 := hN i (by omega)
    simp only [Option.some.injEq, exists_eq_left', Bool.and_eq_true, decide_eq_true_eq, h1]
    constructor
    · rintro ⟨a, b, c⟩; exact ⟨b, a, c⟩
    · rintro ⟨a, b, c⟩; exact ⟨b, a, c⟩
theorem begin_next {xs : List ItemP} (hw : howP xs) : ∀ i, i ≤ xs.length → (overN xs (fun i => decide (i = 0)) i = true ↔ nextP xs i []) := by
  intro i
  induction i with
  | zero => intro hi; rw [nextP_nil hw 0 hi]; simp [overN]
  | succ i ih =>
    intro hi
    have hlt : i < xs.length := by omega
    obtain ⟨x, hx⟩ : ∃ x, xs[i]? = some x := ⟨_, List.getElem?_eq_getElem hlt⟩
    have ihi := ih (by omega)
    rw [nextP_nil hw i (by omega)] at ihi
    rw [nextP_nil hw (i + 1) hi, take_more hx]
    show (decide (i + 1 = 0) || (match xs[i]? with | some x => overN xs (fun i => decide (i = 0)) i && decide (x.2 ≠ 0) | none => false)) = true ↔ _
    rw [hx]
    simp only [Bool.or_eq_true, Bool.and_eq_true, decide_eq_true_eq, ihi]
    constructor
    · rintro (h | ⟨h1, h2⟩)
      · omega
      · intro y hy
        rcases List.mem_append.1 hy with hy | hy
        · exact h1 y hy
        · rw [List.mem_singleton.1 hy]; exact h2
    · intro h
      exact .inr ⟨fun y hy => h y (List.mem_append_left _ hy), h x (by simp)⟩
/-- Where nothing has fitted so far, nothing that comes changes that. -/
theorem dead_one {xs : List ItemP} (hw : howP xs) {l : List Int} (c : Int) (hN : ∀ i, i ≤ xs.length → ¬ nextP xs i l) (hH : ∀ i, i < xs.length → ¬ halfP xs i l) : ∀ i, i ≤ xs.length → ¬ nextP xs i (l ++ [c]) := by
  have fin : ∀ i, i ≤ xs.length → ¬ fitsP (xs.take i) (l ++ [c]) → ¬ nextP xs i (l ++ [c]) := by
    intro i hi hf h
    rcases (nextP_snoc l c).1 h with h | ⟨x, hx, _, (⟨_, h⟩ | ⟨_, h⟩)⟩
    · exact hf h
    · exact hN i hi h
    · exact hH i (List.getElem?_eq_some_iff.1 hx).1 h
  intro i
  induction i with
  | zero =>
    intro hi
    exact fin 0 hi fun h => by
      have : l ++ [c] = [] := h
      simp at this
  | succ i ih =>
    intro hi
    refine fin (i + 1) hi fun h => ?_
    have hlt : i < xs.length := by omega
    obtain ⟨x, hx⟩ : ∃ x, xs[i]? = some x := ⟨_, List.getElem?_eq_getElem hlt⟩
    rcases (fits_next hx (hw x (List.mem_of_getElem? hx)) _).1 h with ⟨_, h⟩ | ⟨_, a, d, hab, _, h⟩
    · exact ih (by omega) h
    · obtain ⟨rfl, _⟩ := List.append_inj' hab (by simp)
      exact hN i (by omega) (nextP_of_fits h)
theorem dead_half {xs : List ItemP} {l : List Int} (c : Int) (hN : ∀ i, i ≤ xs.length → ¬ nextP xs i l) (i : Nat) : ¬ halfP xs i (l ++ [c]) := fun h => by
  obtain ⟨x, hx, _, _, h⟩ := (halfP_snoc l c).1 h
  have := (List.getElem?_eq_some_iff.1 hx).1
  exact hN i (by omega) h
theorem dead_more {xs : List ItemP} (hw : howP xs) : ∀ (r l : List Int), (∀ i, i ≤ xs.length → ¬ nextP xs i l) → (∀ i, i < xs.length → ¬ halfP xs i l) → ¬ fitsP xs (l ++ r)
  | [], l, hN, _, h => hN xs.length (Nat.le_refl _) ((nextP_all xs l).2 (by rwa [List.append_nil] at h))
  | c :: r, l, hN, hH, h => by
    have := dead_more hw r (l ++ [c]) (dead_one hw c hN hH) (fun i _ => dead_half c hN i)
    rw [List.append_assoc] at this
    exact this h
end Go.Proofs.YtjacebnlikhjnaaDoor

namespace Go.Proofs.YtjacebnlikhjnaaDoor

/-- From one item's beginning to another one's, where all between need not stand. -/
def pathH (xs : List ItemP) (j i : Nat) : Prop := j ≤ i ∧ ∀ m, j ≤ m → m < i → ∃ x, xs[m]? = some x ∧ x.2 ≠ 0
theorem pathH_refl (xs : List ItemP) (i : Nat) : pathH xs i i := ⟨Nat.le_refl _, fun m h1 h2 => by omega⟩
theorem pathH_succ {xs : List ItemP} {j i : Nat} {x : ItemP} (h : pathH xs j i) (hx : xs[i]? = some x) (h0 : x.2 ≠ 0) : pathH xs j (i + 1) := ⟨by have := h.1; omega, fun m h1 h2 => by
  rcases Nat.lt_or_ge m i with g | g
  · exact h.2 m h1 g
  · obtain rfl : m = i := by omega
    exact ⟨x, hx, h0⟩⟩
theorem pathH_pred {xs : List ItemP} {j i : Nat} (h : pathH xs j (i + 1)) : j = i + 1 ∨ (pathH xs j i ∧ ∃ x, xs[i]? = some x ∧ x.2 ≠ 0) := by
  rcases Nat.lt_or_ge j (i + 1) with g | g
  · exact .inr ⟨⟨by omega, fun m h1 h2 => h.2 m h1 (by omega)⟩, h.2 i (by omega) (by omega)⟩
  · have := h.1
    exact .inl (by omega)
theorem pathH_next {xs : List ItemP} {n i : Nat} {x : ItemP} (hx : xs[n]? = some x) (h0 : x.2 ≠ 0) (h : pathH xs (n + 1) i) : pathH xs n i := ⟨by have := h.1; omega, fun m h1 h2 => by
  rcases Nat.lt_or_ge n m with g | g
  · exact h.2 m (by omega) h2
  · obtain rfl : m = n := by omega
    exact ⟨x, hx, h0⟩⟩
theorem over_iff (xs : List ItemP) (N : Nat → Bool) : ∀ i, overN xs N i = true ↔ ∃ j, N j = true ∧ pathH xs j i
  | 0 => by
    show N 0 = true ↔ _
    constructor
    · intro h; exact ⟨0, h, pathH_refl _ _⟩
    · rintro ⟨j, h, hp⟩
      obtain rfl : j = 0 := by have := hp.1; omega
      exact h
  | i + 1 => by
    have ih := over_iff xs N i
    show (N (i + 1) || (match xs[i]? with | some x => overN xs N i && decide (x.2 ≠ 0) | none => false)) = true ↔ _
    constructor
    · intro h
      rw [Bool.or_eq_true] at h
      rcases h with h | h
      · exact ⟨i + 1, h, pathH_refl _ _⟩
      · cases hx : xs[i]? with
        | none => rw [hx] at h; cases h
        | some x =>
          rw [hx] at h
          have h := (Bool.and_eq_true_iff.1 h)
          obtain ⟨j, hj, hp⟩ := ih.1 h.1
          exact ⟨j, hj, pathH_succ hp hx (of_decide_eq_true h.2)⟩
    · rintro ⟨j, hj, hp⟩
      rcases pathH_pred hp with rfl | ⟨hp, x, hx, h0⟩
      · rw [hj, Bool.true_or]
      · rw [hx]
        show (N (i + 1) || (overN xs N i && decide (x.2 ≠ 0))) = true
        rw [ih.2 ⟨j, hj, hp⟩, decide_eq_true h0]
        simp
/-- Items closed one by one. -/
def closeN (xs : List ItemP) (s : Nat) : Nat → Nat
  | 0 => s
  | j + 1 => match xs[j]? with
    | some x => if (closeN xs s j).testBit (2 * j) = true ∧ x.2 ≠ 0 then closeN xs s j ||| 2 ^ (2 * j + 2) else closeN xs s j
    | none => closeN xs s j
theorem close_bit (xs : List ItemP) (s : Nat) : ∀ j m, (closeN xs s j).testBit m = if m % 2 = 0 ∧ m / 2 ≤ j then overN xs (fun i => s.testBit (2 * i)) (m / 2) else s.testBit m
  | 0, m => by
    show s.testBit m = _
    split
    · rename_i h
      obtain rfl : m = 0 := by omega
      rfl
    · rfl
  | j + 1, m => by
    have ih := close_bit xs s j
    have h2 := ih (2 * j)
    rw [if_pos (by omega), show 2 * j / 2 = j by omega] at h2
    have hm := ih m
    cases hx : xs[j]? with
    | none =>
      have e : closeN xs s (j + 1) = closeN xs s j := by rw [closeN, hx]
      rw [e, hm]
      by_cases g : m = 2 * (j + 1)
      · subst g
        rw [if_neg (by omega), if_pos (by omega), show 2 * (j + 1) / 2 = j + 1 by omega, overN, hx]
        simp
      · by_cases g2 : m % 2 = 0 ∧ m / 2 ≤ j
        · rw [if_pos g2, if_pos (by omega)]
        · rw [if_neg g2, if_neg (by omega)]
    | some x =>
      have e : (closeN xs s (j + 1)).testBit m = ((closeN xs s j).testBit m || (decide (m = 2 * (j + 1)) && (overN xs (fun i => s.testBit (2 * i)) j && decide (x.2 ≠ 0)))) := by
        rw [closeN, hx]
        show (if (closeN xs s j).testBit (2 * j) = true ∧ x.2 ≠ 0 then closeN xs s j ||| 2 ^ (2 * j + 2) else closeN xs s j).testBit m = _
        rw [h2]
        by_cases g : overN xs (fun i => s.testBit (2 * i)) j = true ∧ x.2 ≠ 0
        · rw [if_pos g, bit_or_two, g.1, decide_eq_true g.2]
          congr 1
          rw [Bool.and_true, Bool.and_true]
          exact decide_eq_decide.2 ⟨fun h => by omega, fun h => by omega⟩
        · rw [if_neg g]
          have : (overN xs (fun i => s.testBit (2 * i)) j && decide (x.2 ≠ 0)) = false := by
            rw [Bool.eq_false_iff, ne_eq, Bool.and_eq_true, decide_eq_true_eq]
            exact g
          rw [this, Bool.and_false, Bool.or_false]
      rw [e, hm]
      by_cases g : m = 2 * (j + 1)
      · subst g
        rw [if_neg (by omega), if_pos (by omega), show 2 * (j + 1) / 2 = j + 1 by omega, overN, hx, decide_eq_true rfl, Bool.true_and]
      · rw [decide_eq_false g, Bool.false_and, Bool.or_false]
        by_cases g2 : m % 2 = 0 ∧ m / 2 ≤ j
        · rw [if_pos g2, if_pos (by omega)]
        · rw [if_neg g2, if_neg (by omega)]
def closedH (xs : List ItemP) (s : Nat) : Nat := closeN xs s xs.length
theorem over_far {xs : List ItemP} {N : Nat → Bool} {i : Nat} (h : xs.length < i) : overN xs N i = N i := by
  obtain ⟨j, rfl⟩ : ∃ j, i = j + 1 := ⟨i - 1, by omega⟩
  rw [overN, List.getElem?_eq_none (by omega)]
  simp
theorem closed_even (xs : List ItemP) (s i : Nat) : (closedH xs s).testBit (2 * i) = overN xs (fun i => s.testBit (2 * i)) i := by
  unfold closedH
  rw [close_bit]
  rw [show 2 * i / 2 = i by omega]
  by_cases h : i ≤ xs.length
  · rw [if_pos (by omega)]
  · rw [if_neg (by omega), over_far (by omega)]
theorem closed_odd (xs : List ItemP) (s i : Nat) : (closedH xs s).testBit (2 * i + 1) = s.testBit (2 * i + 1) := by
  unfold closedH
  rw [close_bit, if_neg (by omega)]
/-- Two sets are the same, bit by bit. -/
theorem bits_ext {a b : Nat} (he : ∀ i, a.testBit (2 * i) = b.testBit (2 * i)) (ho : ∀ i, a.testBit (2 * i + 1) = b.testBit (2 * i + 1)) : a = b := by
  apply Nat.eq_of_testBit_eq
  intro i
  rcases Nat.mod_two_eq_zero_or_one i with h | h
  · have := he (i / 2)
    rwa [show 2 * (i / 2) = i by omega] at this
  · have := ho (i / 2)
    rwa [show 2 * (i / 2) + 1 = i by omega] at this
theorem bits_lt {a n : Nat} (h : ∀ i, n ≤ i → a.testBit i = false) : a < 2 ^ n := Nat.lt_pow_two_of_testBit a fun i hi => h i hi
/-- How far a class leads from an item's state. -/
def farH (how : Int) : Nat := if how = 0 then 2 else if how = 1 then 0 else 1
def wayH (x : ItemP) (c : Int) (n : Nat) : Option Nat := if hasZ x.1 c then some (if n % 2 = 1 then n - 1 else n + farH x.2) else none
def goesH (xs : List ItemP) (c : Int) (n : Nat) : Option Nat := match xs[n / 2]? with | some x => wayH x c n | none => none
def nextsH (xs : List ItemP) (start : Bool) (c : Int) (s : Nat) : List Nat := (if start then [] else [0]) ++ (classesN (2 * xs.length) s).filterMap (goesH xs c)
def rawH (xs : List ItemP) (start : Bool) (c : Int) (s : Nat) : Nat := orN 0 (nextsH xs start c s)
def stepS (xs : List ItemP) (start : Bool) (c : Int) (s : Nat) : Nat := closedH xs (rawH xs start c s)
def firstS (xs : List ItemP) : Nat := closedH xs 1
def mostS (xs : List ItemP) : Nat := 2 ^ (2 * xs.length + 1) - 1
def doneS (xs : List ItemP) (s : Nat) : Bool := s.testBit (2 * xs.length)
theorem goes_iff {xs : List ItemP} {c : Int} {n m : Nat} : goesH xs c n = some m ↔ ∃ x, xs[n / 2]? = some x ∧ hasZ x.1 c = true ∧ m = if n % 2 = 1 then n - 1 else n + farH x.2 := by
  unfold goesH
  cases hx : xs[n / 2]? with
  | none => simp
  | some x =>
    simp only [wayH, Option.some.injEq, exists_eq_left']
    by_cases h : hasZ x.1 c = true
    · rw [if_pos h]
      simp only [Option.some.injEq, h, true_and]
      exact eq_comm
    · rw [if_neg h]
      simp [h]
theorem mem_nexts {xs : List ItemP} {start : Bool} {c : Int} {s m : Nat} : m ∈ nextsH xs start c s ↔ (start = false ∧ m = 0) ∨ ∃ n, n < 2 * xs.length ∧ s.testBit n = true ∧ goesH xs c n = some m := by
  unfold nextsH
  rw [List.mem_append, List.mem_filterMap]
  constructor
  · rintro (h | ⟨n, hn, h⟩)
    · cases start with
      | true => simp at h
      | false => exact .inl ⟨rfl, by simpa using h⟩
    · obtain ⟨h1, h2⟩ := classesN_mem.1 hn
      exact .inr ⟨n, h1, h2, h⟩
  · rintro (⟨rfl, rfl⟩ | ⟨n, h1, h2, h⟩)
    · exact .inl (by simp)
    · exact .inr ⟨n, classesN_mem.2 ⟨h1, h2⟩, h⟩
theorem raw_bit {xs : List ItemP} {start : Bool} {c : Int} {s m : Nat} : (rawH xs start c s).testBit m = true ↔ m ∈ nextsH xs start c s := by
  unfold rawH
  rw [orN_bit, Nat.zero_testBit, Bool.false_or, decide_eq_true_eq]
/-- What the raw step has, by item. -/
theorem raw_even {xs : List ItemP} (hw : howP xs) {start : Bool} {c : Int} {s i : Nat} : (rawH xs start c s).testBit (2 * i) = true ↔
    (start = false ∧ i = 0) ∨ (∃ x, xs[i]? = some x ∧ hasZ x.1 c = true ∧ ((x.2 = 1 ∧ s.testBit (2 * i) = true) ∨ s.testBit (2 * i + 1) = true)) ∨ (∃ j x, i = j + 1 ∧ xs[j]? = some x ∧ hasZ x.1 c = true ∧ x.2 = 0 ∧ s.testBit (2 * j) = true) := by
  rw [raw_bit, mem_nexts]
  constructor
  · rintro (⟨h1, h2⟩ | ⟨n, h1, h2, h3⟩)
    · exact .inl ⟨h1, by omega⟩
    · right
      obtain ⟨x, hx, hc, hm⟩ := goes_iff.1 h3
      have hwx := hw x (List.mem_of_getElem? hx)
      by_cases ho : n % 2 = 1
      · rw [if_pos ho] at hm
        left
        have e : n / 2 = i := by omega
        rw [e] at hx
        refine ⟨x, hx, hc, .inr ?_⟩
        rwa [show 2 * i + 1 = n by omega]
      · rw [if_neg ho] at hm
        unfold farH at hm
        rcases hwx with h | h | h
        · rw [if_pos h] at hm
          right
          refine ⟨n / 2, x, by omega, hx, hc, h, ?_⟩
          rwa [show 2 * (n / 2) = n by omega]
        · rw [if_neg (by omega), if_pos h] at hm
          left
          have e : n / 2 = i := by omega
          rw [e] at hx
          refine ⟨x, hx, hc, .inl ⟨h, ?_⟩⟩
          rwa [show 2 * i = n by omega]
        · rw [if_neg (by omega), if_neg (by omega)] at hm
          omega
  · rintro (⟨h1, h2⟩ | ⟨x, hx, hc, h⟩ | ⟨j, x, rfl, hx, hc, h0, h⟩)
    · exact .inl ⟨h1, by omega⟩
    · have hl := (List.getElem?_eq_some_iff.1 hx).1
      right
      rcases h with ⟨h, hs⟩ | hs
      · refine ⟨2 * i, by omega, hs, goes_iff.2 ⟨x, by rwa [show 2 * i / 2 = i by omega], hc, ?_⟩⟩
        rw [if_neg (by omega)]
        unfold farH
        rw [if_neg (by omega), if_pos h]
        omega
      · refine ⟨2 * i + 1, by omega, hs, goes_iff.2 ⟨x, by rwa [show (2 * i + 1) / 2 = i by omega], hc, ?_⟩⟩
        rw [if_pos (by omega)]
        omega
    · have hl := (List.getElem?_eq_some_iff.1 hx).1
      refine .inr ⟨2 * j, by omega, h, goes_iff.2 ⟨x, by rwa [show 2 * j / 2 = j by omega], hc, ?_⟩⟩
      rw [if_neg (by omega)]
      unfold farH
      rw [if_pos h0]
      omega
theorem raw_odd {xs : List ItemP} (hw : howP xs) {start : Bool} {c : Int} {s i : Nat} : (rawH xs start c s).testBit (2 * i + 1) = true ↔
    ∃ x, xs[i]? = some x ∧ hasZ x.1 c = true ∧ x.2 = 2 ∧ s.testBit (2 * i) = true := by
  rw [raw_bit, mem_nexts]
  constructor
  · rintro (⟨h1, h2⟩ | ⟨n, h1, h2, h3⟩)
    · omega
    · obtain ⟨x, hx, hc, hm⟩ := goes_iff.1 h3
      have hwx := hw x (List.mem_of_getElem? hx)
      by_cases ho : n % 2 = 1
      · rw [if_pos ho] at hm
        omega
      · rw [if_neg ho] at hm
        unfold farH at hm
        rcases hwx with h | h | h
        · rw [if_pos h] at hm
          omega
        · rw [if_neg (by omega), if_pos h] at hm
          omega
        · rw [if_neg (by omega), if_neg (by omega)] at hm
          have e : n / 2 = i := by omega
          rw [e] at hx
          refine ⟨x, hx, hc, h, ?_⟩
          rwa [show 2 * i = n by omega]
  · rintro ⟨x, hx, hc, h, hs⟩
    have hl := (List.getElem?_eq_some_iff.1 hx).1
    refine .inr ⟨2 * i, by omega, hs, goes_iff.2 ⟨x, by rwa [show 2 * i / 2 = i by omega], hc, ?_⟩⟩
    rw [if_neg (by omega)]
    unfold farH
    rw [if_neg (by omega), if_neg (by omega)]
theorem raw_lt {xs : List ItemP} (hw : howP xs) {start : Bool} {c : Int} {s : Nat} : rawH xs start c s < 2 ^ (2 * xs.length + 1) := by
  apply bits_lt
  intro m hm
  rw [Bool.eq_false_iff, ne_eq]
  rcases Nat.mod_two_eq_zero_or_one m with h | h
  · rw [show m = 2 * (m / 2) by omega, raw_even hw]
    rintro (⟨_, h2⟩ | ⟨x, hx, _⟩ | ⟨j, x, h3, hx, _⟩)
    · omega
    · have := (List.getElem?_eq_some_iff.1 hx).1; omega
    · have := (List.getElem?_eq_some_iff.1 hx).1; omega
  · rw [show m = 2 * (m / 2) + 1 by omega, raw_odd hw]
    rintro ⟨x, hx, _⟩
    have := (List.getElem?_eq_some_iff.1 hx).1; omega
theorem closed_lt {xs : List ItemP} {s : Nat} (h : s < 2 ^ (2 * xs.length + 1)) : closedH xs s < 2 ^ (2 * xs.length + 1) := by
  apply bits_lt
  intro m hm
  have hb : ∀ i, 2 * xs.length + 1 ≤ i → s.testBit i = false := fun i hi => bit_lt h hi
  rcases Nat.mod_two_eq_zero_or_one m with g | g
  · rw [show m = 2 * (m / 2) by omega, closed_even, over_far (by omega)]
    exact hb _ (by omega)
  · rw [show m = 2 * (m / 2) + 1 by omega, closed_odd]
    exact hb _ (by omega)
theorem step_lt {xs : List ItemP} (hw : howP xs) {start : Bool} {c : Int} {s : Nat} : stepS xs start c s < 2 ^ (2 * xs.length + 1) := closed_lt (raw_lt hw)
theorem first_lt (xs : List ItemP) : firstS xs < 2 ^ (2 * xs.length + 1) := closed_lt (by have := two_pos (2 * xs.length); rw [Nat.pow_succ]; omega)
/-- The run's sets. -/
def runS (xs : List ItemP) (start : Bool) (l : List Int) : Nat := l.foldl (fun s c => stepS xs start c s) (firstS xs)
theorem runS_snoc (xs : List ItemP) (start : Bool) (l : List Int) (c : Int) : runS xs start (l ++ [c]) = stepS xs start c (runS xs start l) := by
  unfold runS
  rw [List.foldl_append]
  rfl
def runsS (xs : List ItemP) (start : Bool) (l : List Int) : List Nat := (List.range (l.length + 1)).map fun i => runS xs start (l.take i)
theorem run_lt {xs : List ItemP} (hw : howP xs) {start : Bool} (l : List Int) : runS xs start l < 2 ^ (2 * xs.length + 1) := by
  rcases List.eq_nil_or_concat l with rfl | ⟨r, c, rfl⟩
  · exact first_lt xs
  · rw [List.concat_eq_append, runS_snoc]
    exact step_lt hw
end Go.Proofs.YtjacebnlikhjnaaDoor

namespace Go.Proofs.YtjacebnlikhjnaaDoor

def ofA (x : Nat) (l : List Int) : Nat := l.foldl (fun x c => x ||| 2 ^ c.toNat) x
theorem ofA_bit : ∀ (l : List Int) (x i : Nat), (ofA x l).testBit i = (x.testBit i || decide (∃ c ∈ l, c.toNat = i))
  | [], x, i => by simp [ofA]
  | c :: l, x, i => by
    rw [ofA, List.foldl_cons, ← ofA, ofA_bit l, bit_or_two, Bool.or_assoc]
    congr 1
    by_cases h : c.toNat = i
    · simp [h]
    · simp [h]
theorem ofN_bit (l : List Int) (i : Nat) : (ofN l).testBit i = decide (∃ c ∈ l, c.toNat = i) := by
  have := ofA_bit l 0 i
  rwa [Nat.zero_testBit, Bool.false_or] at this
theorem ofA_lt : ∀ (l : List Int) (x : Nat), x < 2 ^ 32 → l.all inC = true → ofA x l < 2 ^ 32
  | [], x, h, _ => h
  | c :: l, x, h, ha => by
    rw [List.all_cons, Bool.and_eq_true] at ha
    have hc := of_decide_eq_true ha.1
    exact ofA_lt l _ (or_two_lt h (by omega)) ha.2
theorem ofN_lt {l : List Int} (h : l.all inC = true) : ofN l < 2 ^ 32 := ofA_lt l 0 (by decide) h
theorem ofZ_lt {l : List Int} {x : Nat} (h : ofZ l = some x) : x < 2 ^ 32 := by
  unfold ofZ at h
  split at h
  · rename_i g
    injection h with h
    rw [← h]; exact ofN_lt g
  · cases h
theorem ofA_snoc (x : Nat) (l : List Int) (c : Int) : ofA x (l ++ [c]) = ofA x l ||| 2 ^ c.toNat := by
  unfold ofA
  rw [List.foldl_append]
  rfl
theorem ofZ_none {l : List Int} {c : Int} (hc : c ∈ l) (h : inC c = false) : ofZ l = none := by
  unfold ofZ
  rw [if_neg fun ha => by have := List.all_eq_true.1 ha c hc; rw [h] at this; cases this]
theorem ofZ_some {l : List Int} (h : l.all inC = true) : ofZ l = some (ofN l) := by unfold ofZ; rw [if_pos h]
theorem ofZ_append (l m : List Int) : ofZ (m ++ l) = match ofZ l, ofZ m with | some a, some b => some (a ||| b) | _, _ => none := by
  unfold ofZ
  rw [List.all_append]
  cases h1 : m.all inC <;> cases h2 : l.all inC <;> simp
  apply Nat.eq_of_testBit_eq
  intro i
  rw [Nat.testBit_or, ofN_bit, ofN_bit, ofN_bit]
  by_cases g1 : ∃ c ∈ l, c.toNat = i
  · obtain ⟨c, hc, rfl⟩ := g1
    rw [decide_eq_true (show ∃ d ∈ m ++ l, d.toNat = c.toNat from ⟨c, List.mem_append_right _ hc, rfl⟩), decide_eq_true (show ∃ d ∈ l, d.toNat = c.toNat from ⟨c, hc, rfl⟩)]
    rfl
  · rw [decide_eq_false g1, Bool.false_or]
    congr 1
    rw [eq_iff_iff]
    constructor
    · rintro ⟨c, hc, e⟩
      rcases List.mem_append.1 hc with h | h
      · exact ⟨c, h, e⟩
      · exact absurd ⟨c, h, e⟩ g1
    · rintro ⟨c, hc, e⟩
      exact ⟨c, List.mem_append_left _ hc, e⟩
theorem ofZ_classes {x : Nat} (h : x < 2 ^ 32) : ofZ ((classesN 32 x).map fun c => ((c : Nat) : Int)) = some x := by
  have ha : ((classesN 32 x).map fun c => ((c : Nat) : Int)).all inC = true := by
    rw [List.all_eq_true]
    intro c hc
    obtain ⟨d, hd, rfl⟩ := List.mem_map.1 hc
    have := (classesN_mem.1 hd).1
    exact decide_eq_true (by omega)
  rw [ofZ_some ha]
  congr 1
  apply Nat.eq_of_testBit_eq
  intro i
  rw [ofN_bit]
  by_cases hi : x.testBit i = true
  · have h32 : i < 32 := by
      rcases Nat.lt_or_ge i 32 with g | g
      · exact g
      · rw [bit_lt h g] at hi; cases hi
    rw [hi, decide_eq_true ⟨((i : Nat) : Int), List.mem_map.2 ⟨i, classesN_mem.2 ⟨h32, hi⟩, rfl⟩, by simp⟩]
  · rw [decide_eq_false]
    · simpa using hi
    · rintro ⟨c, hc, rfl⟩
      obtain ⟨d, hd, rfl⟩ := List.mem_map.1 hc
      exact hi (by simpa using (classesN_mem.1 hd).2)
theorem hasZ_nat {x : Nat} (h : x < 2 ^ 32) (c : Int) : hasZ (x : Int) c = (decide (0 ≤ c ∧ c < 32) && x.testBit c.toNat) := by
  unfold hasZ
  rw [rightZ_32 (Nat.le_refl 32) h, Bool.true_and, Int.toNat_natCast]
/-- A number is in the set of a list just if it stands in it. -/
theorem has_of {l : List Int} {x : Nat} (h : ofZ l = some x) (c : Int) : hasZ (x : Int) c = decide (c ∈ l) := by
  have hx := ofZ_lt h
  unfold ofZ at h
  split at h
  · rename_i ha
    have e := Option.some.inj h
    rw [hasZ_nat hx, ← e, ofN_bit]
    have hin := List.all_eq_true.1 ha
    by_cases hc : c ∈ l
    · have := of_decide_eq_true (hin c hc)
      rw [decide_eq_true this, decide_eq_true (show ∃ d ∈ l, d.toNat = c.toNat from ⟨c, hc, rfl⟩), decide_eq_true hc]
      rfl
    · rw [decide_eq_false hc]
      by_cases h0 : 0 ≤ c ∧ c < 32
      · rw [decide_eq_false (p := ∃ d ∈ l, d.toNat = c.toNat), Bool.and_false]
        rintro ⟨d, hd, e⟩
        have := of_decide_eq_true (hin d hd)
        have : d = c := by omega
        exact hc (this ▸ hd)
      · rw [decide_eq_false h0, Bool.false_and]
  · cases h
/-- What is not in the classes that are not in a set. -/
theorem notZ_nat {x n : Nat} (h1 : 1 ≤ n) (h2 : n ≤ 32) (h : x < 2 ^ n) : notZ (x : Int) (n : Int) = ((notN n x : Nat) : Int) := by
  unfold notZ
  rw [rightZ_ok h1 h2 h]
  simp
theorem has_not {x n : Nat} (h2 : n ≤ 32) (h : x < 2 ^ n) {c : Int} (h0 : 0 ≤ c) (hc : c < n) : hasZ (x : Int) c = !hasZ ((notN n x : Nat) : Int) c := by
  have hp : 2 ^ n ≤ 2 ^ 32 := Nat.pow_le_pow_right (by decide) h2
  have l1 : notN n x < 2 ^ n := notN_lt
  rw [hasZ_nat (by omega), hasZ_nat (by omega), notN_bit h, decide_eq_true (show 0 ≤ c ∧ c < 32 by omega), decide_eq_true (show c.toNat < n by omega)]
  simp
end Go.Proofs.YtjacebnlikhjnaaDoor

namespace Go.Proofs.YtjacebnlikhjnaaDoor
open Go.RowKit Go.Shelf
attribute [local go_sem] Oper.semAt_some

abbrev setC (s n : Int) : Array Value := #[.int .i64 s, .int .i64 n]
theorem wrap_idK {x : Int} (h0 : -9223372036854775808 ≤ x) (h1 : x ≤ 9223372036854775807) : wrap64 x = x := by unfold wrap64; omega
theorem two_32 {n : Nat} (h : n ≤ 32) : 2 ^ n ≤ 4294967296 := by
  have := Nat.pow_le_pow_right (n := 2) (by decide) h
  omega
theorem shlK {n : Nat} (h : n ≤ 32) : wrap64 (2 ^ n) = ((2 ^ n : Nat) : Int) := by
  have h2 := two_32 h
  rw [show ((2 : Int) ^ n) = ((2 ^ n : Nat) : Int) by simp]
  obtain ⟨p, hp⟩ : ∃ p, 2 ^ n = p := ⟨_, rfl⟩
  rw [hp] at h2 ⊢
  exact wrap_idK (by omega) (by omega)
@[go_sem] theorem run_fld0K (s n : Int) (w : World) : (Instr.field 86 (.agg #[.int .i64 s, .int .i64 n]) 0).run Tryd.prog w = .ok (.int .i64 s) w := by kernel_rfl
theorem results_set {fn : Func} {p : Tmp} (h : fn.results = #[.cell p 86]) (tmps : Array Value) (w : World) (g : Nat) (cs : Array Value) (hz : cs.size = 2) (hp : tmps.getD p undef = .pointer (some ⟨g, 0, none⟩)) (hg : w.heap[g]? = some (.cells cs 86 (0, 0))) :
    (results fn tmps).run Tryd.prog w = .ok (.agg cs) w := by
  have hp' : tmps[p]?.getD undef = .pointer (some ⟨g, 0, none⟩) := by simpa using hp
  have hi : (Tryd.prog.info? 86).map (·.size) = some cs.size := by rw [hz]; kernel_rfl
  simp [results, h, hp', asAddr, run_loadVar_row w g 86 86 cs (0, 0) _ hg Tryd.underlying86 rfl hi]
set_option maxHeartbeats 1000000 in
theorem whole_any (n : Nat) (hn : n ≤ 32) (w : World) : Calls Tryd.prog 69 #[.int .i64 (n : Nat)] w fun e w' => e = .returned (.agg #[.int .i64 ((2 ^ n - 1 : Nat) : Int), .int .i64 (n : Nat)]) ∧ Below w.heap.size w w' := by
  have e1 := shlK hn
  have h2 := two_32 hn
  have h1 := two_pos n
  obtain ⟨p, hp⟩ : ∃ p, 2 ^ n = p := ⟨_, rfl⟩
  rw [hp] at e1 h1 h2 ⊢
  rw [show ((p - 1 : Nat) : Int) = ((p : Nat) : Int) - 1 by omega]
  clear hp
  go_enter Tryd.func69, Tryd.ntmps69
  go_wp2
  refine bodyPost_ret (v := .agg #[.int .i64 (((p : Nat) : Int) - 1), .int .i64 (n : Nat)]) ?_ rfl ⟨rfl, (Below.refl _ _).alloc (Nat.le_refl _) _⟩
  exact results_set rfl _ _ w.heap.size (setC (((p : Nat) : Int) - 1) (n : Nat)) rfl rfl (heap_alloc_new _ _)
set_option maxRecDepth 100000 in
set_option maxHeartbeats 2000000 in
theorem right_anyK (s n : Int) (w : World) : Calls Tryd.prog 56 #[.agg #[.int .i64 s, .int .i64 n]] w fun e w' => e = .returned (.bool (rightZ s n)) ∧ Below w.heap.size w w' := by
  have c0 : (w.alloc (.cells #[.int .i64 s, .int .i64 n] 86)).cell? ⟨w.heap.size, 0, none⟩ = some (.int .i64 s) := cell_of_row _ _ 0 _ _ _ (heap_alloc_new _ _)
  have c1 : (w.alloc (.cells #[.int .i64 s, .int .i64 n] 86)).cell? ⟨w.heap.size, 1, none⟩ = some (.int .i64 n) := cell_of_row _ _ 1 _ _ _ (heap_alloc_new _ _)
  have A0 : Below w.heap.size w (w.alloc (.cells #[.int .i64 s, .int .i64 n] 86)) := (Below.refl _ _).alloc (Nat.le_refl _) _
  have B0 := Lib.hid A0
  obtain ⟨P, hP⟩ : ∃ P, (fun (e : Ending) w' => e = .returned (.bool (rightZ s n)) ∧ Below w.heap.size w w') = P := ⟨_, rfl⟩
  have HP := Lib.hid hP
  have NO : ¬ (1 ≤ n ∧ n ≤ 32 ∧ 0 ≤ s ∧ s < 2 ^ n.toNat) → ∀ W, Below w.heap.size w W → Hid (P (.returned (.bool false)) W) := fun h W hb => by
    rw [← HP.out]
    exact Lib.hid ⟨by unfold rightZ; rw [decide_eq_false h], hb⟩
  have YES : (1 ≤ n ∧ n ≤ 32 ∧ 0 ≤ s ∧ s < 2 ^ n.toNat) → ∀ W, Below w.heap.size w W → Hid (P (.returned (.bool true)) W) := fun h W hb => by
    rw [← HP.out]
    exact Lib.hid ⟨by unfold rightZ; rw [decide_eq_true h], hb⟩
  rw [hP]
  clear hP A0
  by_cases g1 : 1 ≤ n
  · have d1 : decide ((1 : Int) ≤ n) = true := decide_eq_true g1
    by_cases g2 : n ≤ 32
    · have d2 : decide (n ≤ (32 : Int)) = true := decide_eq_true g2
      by_cases g3 : 0 ≤ s
      · have d3 : decide ((0 : Int) ≤ s) = true := decide_eq_true g3
        obtain ⟨m, rfl⟩ := Int.eq_ofNat_of_zero_le (show 0 ≤ n by omega)
        have hm : m ≤ 32 := by omega
        have W1 := fun W => Lib.hid (whole_any m hm W)
        have hp := two_pos m
        have e2 : ((2 : Int) ^ m) = ((2 ^ m : Nat) : Int) := by simp
        rw [Int.toNat_natCast, e2] at NO YES
        obtain ⟨p, hpp⟩ : ∃ p, 2 ^ m = p := ⟨_, rfl⟩
        rw [hpp] at NO YES W1 hp
        obtain ⟨q, hq⟩ : ∃ q, p - 1 = q := ⟨_, rfl⟩
        rw [hq] at W1
        have EV : ∃ b, b = decide (s ≤ ((q : Nat) : Int)) ∧ ∀ W, Below w.heap.size w W → Hid (P (.returned (.bool b)) W) := by
          by_cases g4 : s < ((p : Nat) : Int)
          · exact ⟨true, (decide_eq_true (by omega)).symm, YES ⟨g1, g2, g3, g4⟩⟩
          · exact ⟨false, (decide_eq_false (by omega)).symm, NO fun h => g4 h.2.2.2⟩
        obtain ⟨b, hb, YY⟩ := EV
        have Y2 := Lib.hid YY
        have hb2 := hb.symm
        obtain ⟨W0, hW0⟩ : ∃ W0, w.alloc (.cells #[.int .i64 s, .int .i64 ((m : Nat) : Int)] 86) = W0 := ⟨_, rfl⟩
        rw [hW0] at c0 c1 B0
        have HW := Lib.hid hW0
        have hlt : w.heap.size < W0.heap.size := World.block_lt_of_cell? W0 _ c0
        have keepS : ∀ {W W' : World}, Below W.heap.size W W' → (W.cell? ⟨w.heap.size, 0, none⟩ = some (.int .i64 s) ∧ W.cell? ⟨w.heap.size, 1, none⟩ = some (.int .i64 ((m : Nat) : Int)) ∧ Below W0.heap.size W0 W) → (W'.cell? ⟨w.heap.size, 0, none⟩ = some (.int .i64 s) ∧ W'.cell? ⟨w.heap.size, 1, none⟩ = some (.int .i64 ((m : Nat) : Int)) ∧ Below W0.heap.size W0 W') := fun hb h => ⟨cell_keep hb h.1, cell_keep hb h.2.1, h.2.2.trans (hb.mono h.2.2.size)⟩
        have HD : W0.drew.cell? ⟨w.heap.size, 0, none⟩ = some (.int .i64 s) ∧ W0.drew.cell? ⟨w.heap.size, 1, none⟩ = some (.int .i64 ((m : Nat) : Int)) ∧ Below W0.heap.size W0 W0.drew := ⟨c0, c1, (Below.refl _ _).drew⟩
        have K1 : Hid (∀ W, (W.cell? ⟨w.heap.size, 0, none⟩ = some (.int .i64 s) ∧ W.cell? ⟨w.heap.size, 1, none⟩ = some (.int .i64 ((m : Nat) : Int)) ∧ Below W0.heap.size W0 W) → Calls Tryd.prog 69 #[.int .i64 ((m : Nat) : Int)] W fun e W' => e = .returned (.agg #[.int .i64 ((q : Nat) : Int), .int .i64 ((m : Nat) : Int)]) ∧ (W'.cell? ⟨w.heap.size, 0, none⟩ = some (.int .i64 s) ∧ W'.cell? ⟨w.heap.size, 1, none⟩ = some (.int .i64 ((m : Nat) : Int)) ∧ Below W0.heap.size W0 W')) := Lib.hid fun W hS => ((W1 W).out).mono fun e W' h => ⟨h.1, keepS h.2 hS⟩
        have hfol : Tryd.prog.follows .mixedOrders = true := by kernel_rfl
        clear NO YES hpp e2 hb YY hq hp g1 g2 g3 hW0 keepS W1
        go_enter Tryd.func56, Tryd.ntmps56
        go_wp2_with fail
        rw [HW.out]
        go_region_held3 (fun W => W.cell? ⟨w.heap.size, 0, none⟩ = some (.int .i64 s) ∧ W.cell? ⟨w.heap.size, 1, none⟩ = some (.int .i64 ((m : Nat) : Int)) ∧ Below W0.heap.size W0 W) (first | assumption | exact HD | go_keep) (first | (go_at_call 69; refine (K1.out _ (by first | assumption | exact HD | exact hg)).mono ?_; rintro e w' ⟨rfl, hg⟩))
        all_goals
          go_wp2
          exact (Y2.out _ (B0.out.trans (hg.2.2.mono B0.out.size))).out
      · have NN := Lib.hid (NO (by omega))
        have d3 : decide ((0 : Int) ≤ s) = false := decide_eq_false g3
        clear NO YES
        go_enter Tryd.func56, Tryd.ntmps56
        go_wp2_with fail
        go_quiet (fail)
        go_wp2
        exact (NN.out _ (B0.out.trans ((below_drewN _ _).mono B0.out.size))).out
    · have NN := Lib.hid (NO (by omega))
      have d2 : decide (n ≤ (32 : Int)) = false := decide_eq_false g2
      clear NO YES
      go_enter Tryd.func56, Tryd.ntmps56
      go_wp2_with fail
      go_quiet (fail)
      go_wp2
      exact (NN.out _ (B0.out.trans ((below_drewN _ _).mono B0.out.size))).out
  · have NN := Lib.hid (NO (by omega))
    have d1 : decide ((1 : Int) ≤ n) = false := decide_eq_false g1
    clear NO YES
    go_enter Tryd.func56, Tryd.ntmps56
    go_wp2_with fail
    go_quiet (fail)
    go_wp2
    exact (NN.out _ (B0.out.trans ((below_drewN _ _).mono B0.out.size))).out
/-- What the class of a set is, in the walk's words. -/
theorem bit_walkK {x c : Nat} (hx : x < 2 ^ 32) : bits .and .i64 (((x : Nat) : Int) / 2 ^ c) 1 = ((if x.testBit c then 1 else 0 : Nat) : Int) := by
  have e2 : ((x : Nat) : Int) / 2 ^ c = ((x / 2 ^ c : Nat) : Int) := by simp
  have hl : x / 2 ^ c < 2 ^ 32 := Nat.lt_of_le_of_lt (Nat.div_le_self _ _) hx
  rw [e2]
  have := bits_mask .i64 32 (by decide) (fun n h0 h1 => by rw [IntKind.wrap_i64]; omega) 1 (by decide) ((x / 2 ^ c : Nat) : Int) (Int.natCast_nonneg _) (by exact_mod_cast hl)
  simp only [Int.pow_one] at this
  rw [show ((2 : Int) - 1) = 1 from rfl] at this
  rw [this]
  have hb := div_bit x c
  by_cases h : x.testBit c = true
  · rw [h] at hb ⊢
    have := of_decide_eq_true hb
    rw [if_pos rfl]
    omega
  · rw [Bool.not_eq_true] at h
    rw [h] at hb ⊢
    have := of_decide_eq_false hb
    rw [if_neg (by decide)]
    omega
set_option maxRecDepth 100000 in
set_option maxHeartbeats 2000000 in
theorem has_anyK (x n : Nat) (hx : x < 2 ^ 32) (hn : n ≤ 32) (c : Int) (w : World) : Calls Tryd.prog 84 #[.agg #[.int .i64 (x : Nat), .int .i64 (n : Nat)], .int .i64 c] w fun e w' => e = .returned (.bool (decide (0 ≤ c ∧ c < (n : Nat)) && x.testBit c.toNat)) ∧ Below w.heap.size w w' := by
  have c0 : (w.alloc (.cells #[.int .i64 ((x : Nat) : Int), .int .i64 ((n : Nat) : Int)] 86)).cell? ⟨w.heap.size, 0, none⟩ = some (.int .i64 ((x : Nat) : Int)) := cell_of_row _ _ 0 _ _ _ (heap_alloc_new _ _)
  have c1 : (w.alloc (.cells #[.int .i64 ((x : Nat) : Int), .int .i64 ((n : Nat) : Int)] 86)).cell? ⟨w.heap.size, 1, none⟩ = some (.int .i64 ((n : Nat) : Int)) := cell_of_row _ _ 1 _ _ _ (heap_alloc_new _ _)
  have A0 : Below w.heap.size w (w.alloc (.cells #[.int .i64 ((x : Nat) : Int), .int .i64 ((n : Nat) : Int)] 86)) := (Below.refl _ _).alloc (Nat.le_refl _) _
  obtain ⟨W0, hW0⟩ : ∃ W0, w.alloc (.cells #[.int .i64 ((x : Nat) : Int), .int .i64 ((n : Nat) : Int)] 86) = W0 := ⟨_, rfl⟩
  rw [hW0] at c0 c1 A0
  have HW := Lib.hid hW0
  have B0 := Lib.hid A0
  have hlt : w.heap.size < W0.heap.size := World.block_lt_of_cell? W0 _ c0
  by_cases g1 : 0 ≤ c
  · have d1 : decide ((0 : Int) ≤ c) = true := decide_eq_true g1
    obtain ⟨k, rfl⟩ := Int.eq_ofNat_of_zero_le g1
    by_cases g2 : k < n
    · have d2 : decide (k < n) = true := decide_eq_true g2
      have hb := bit_walkK (c := k) hx
      rw [decide_eq_true (show (0 : Int) ≤ ((k : Nat) : Int) ∧ ((k : Nat) : Int) < ((n : Nat) : Int) by omega), Bool.true_and, Int.toNat_natCast]
      have hk : k ≤ 32 := by omega
      obtain ⟨b, hbb⟩ : ∃ b, x.testBit k = b := ⟨_, rfl⟩
      rw [hbb] at hb ⊢
      have he : (((if b then 1 else 0 : Nat) : Int) == 1) = b := by cases b <;> rfl
      clear A0 hW0 hx hbb g1
      go_enter Tryd.func84, Tryd.ntmps84
      go_wp2_with fail
      all_goals
        go_ret
        exact ⟨by simp_all, HW.out ▸ B0.out⟩
    · rw [decide_eq_false (by omega), Bool.false_and]
      have d2 : decide (k < n) = false := decide_eq_false g2
      clear A0 hW0 hx g1
      go_enter Tryd.func84, Tryd.ntmps84
      go_wp2_with fail
      go_ret
      exact ⟨rfl, HW.out ▸ B0.out⟩
  · rw [decide_eq_false (by omega), Bool.false_and]
    have d1 : decide ((0 : Int) ≤ c) = false := decide_eq_false g1
    clear A0 hW0 hx
    go_enter Tryd.func84, Tryd.ntmps84
    go_wp2_with fail
    go_ret
    exact ⟨rfl, HW.out ▸ B0.out⟩
end Go.Proofs.YtjacebnlikhjnaaDoor
