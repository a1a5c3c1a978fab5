/- Sets of classes and their texts, plainly. Patterns: what fits them, plainly. Patterns: how far items have fitted, number by number, as it is worked out. Patterns: the places that items may end at, as the document's own answer works them out. Patterns: what the calls answer, plainly. Patterns: behind and ahead, as the program goes and as the document says, plainly. Rules, plainly: which are right, what they say of a place, boundaries. -/
import Derived.Test.YtnmhdcbpbaanoaaGreatDoorBunP4
import Derived.Test.YtnmhdcbpbaanoaaGreatDoorBunF3
import Derived.Lib.Join
namespace Go.Proofs.YtnmhdcbpbaanoaaGreatDoor

def rightZ (s n : Int) : Bool := decide (1 ≤ n ∧ n ≤ 32 ∧ 0 ≤ s ∧ s < 2 ^ n.toNat)
def hasZ (s c : Int) : Bool := rightZ s 32 && decide (0 ≤ c ∧ c < 32) && s.toNat.testBit c.toNat
def inC (c : Int) : Bool := decide (0 ≤ c ∧ c < 32)
def ofN (l : List Int) : Nat := l.foldl (fun x c => x ||| 2 ^ c.toNat) 0
def ofZ (l : List Int) : Option Nat := if l.all inC then some (ofN l) else none
def classesN (n x : Nat) : List Nat := (List.range n).filter x.testBit
def notN (n x : Nat) : Nat := 2 ^ n - 1 - x
def notZ (s n : Int) : Int := if rightZ s n then ((notN n.toNat s.toNat : Nat) : Int) else 0
def classesZ (s : Int) : List Nat := if rightZ s 32 then classesN 32 s.toNat else []
def nameAt (ns : List ByteArray) (c : Nat) : ByteArray := ns.getD c ⟨#[]⟩
def listB (ns : List ByteArray) (cs : List Nat) : List UInt8 := Lib.join (cs.map fun c => (nameAt ns c).data.toList) [32]
def textB (ns : List ByteArray) (x : Nat) : List UInt8 :=
  if x = 2 ^ ns.length - 1 then [46]
  else if (classesN ns.length x).length = 1 then listB ns (classesN ns.length x)
  else if ns.length < 2 * (classesN ns.length x).length then [91, 94] ++ listB ns (classesN ns.length (notN ns.length x)) ++ [93]
  else [91] ++ listB ns (classesN ns.length x) ++ [93]
def withinL (ns : List ByteArray) : Nat → List (List UInt8) → Option Nat
  | x, [] => some x
  | x, t :: l => match valueL ns ⟨t.toArray⟩ with
    | none => none
    | some c => if x.testBit c then none else withinL ns (x ||| 2 ^ c) l
def listedL (ns : List ByteArray) (t : List UInt8) : Option Nat := if t = [] then some 0 else withinL ns 0 (splitL 32 t)
/-- The text between a bracket, and what stands ahead of it, and the closing one. -/
def readL (ns : List ByteArray) (s : List UInt8) : Option Nat :=
  if s = [46] then some (2 ^ ns.length - 1)
  else if s.getLast? = some 93 ∧ [91, 94] <+: s.dropLast then (listedL ns (s.dropLast.drop 2)).map (notN ns.length)
  else if s.getLast? = some 93 ∧ [91] <+: s.dropLast then listedL ns (s.dropLast.drop 1)
  else (valueL ns ⟨s.toArray⟩).map (2 ^ ·)

theorem two_pos (n : Nat) : 1 ≤ 2 ^ n := Nat.one_le_two_pow
theorem rightZ_nat {x n : Nat} : rightZ (x : Int) (n : Int) = (decide (1 ≤ n) && decide (n ≤ 32) && decide (x < 2 ^ n)) := by
  have e : ((x : Int) < 2 ^ n) ↔ x < 2 ^ n := by
    rw [show ((2 : Int) ^ n) = ((2 ^ n : Nat) : Int) by simp]
    exact Int.ofNat_lt
  unfold rightZ
  rw [← Bool.decide_and, ← Bool.decide_and]
  congr 1
  simp only [Int.toNat_natCast, eq_iff_iff, e, and_assoc]
  omega
theorem rightZ_of {s n : Int} (h : rightZ s n = true) : ∃ x m : Nat, s = x ∧ n = m ∧ 1 ≤ m ∧ m ≤ 32 ∧ x < 2 ^ m := by
  unfold rightZ at h
  have h1 := of_decide_eq_true h
  obtain ⟨x, rfl⟩ := Int.eq_ofNat_of_zero_le h1.2.2.1
  obtain ⟨m, rfl⟩ := Int.eq_ofNat_of_zero_le (show 0 ≤ n by omega)
  have h2 := rightZ_nat (x := x) (n := m)
  unfold rightZ at h2
  rw [h] at h2
  simp only [Bool.true_eq, Bool.and_eq_true, decide_eq_true_eq] at h2
  exact ⟨x, m, rfl, rfl, h2.1.1, h2.1.2, h2.2⟩
theorem rightZ_ok {x m : Nat} (h1 : 1 ≤ m) (h2 : m ≤ 32) (h3 : x < 2 ^ m) : rightZ (x : Int) (m : Int) = true := by
  rw [rightZ_nat]
  simp [h1, h2, h3]
theorem rightZ_32 {x m : Nat} (h2 : m ≤ 32) (h3 : x < 2 ^ m) : rightZ (x : Int) 32 = true := by
  rw [show (32 : Int) = ((32 : Nat) : Int) from rfl]
  exact rightZ_ok (by omega) (by omega) (Nat.lt_of_lt_of_le h3 (Nat.pow_le_pow_right (by decide) h2))
theorem and_two {x c : Nat} (h : x.testBit c = false) : x &&& 2 ^ c = 0 := by
  apply Nat.eq_of_testBit_eq
  intro i
  rw [Nat.testBit_and, Nat.testBit_two_pow, Nat.zero_testBit]
  by_cases g : c = i
  · subst g; rw [h]; rfl
  · rw [decide_eq_false g, Bool.and_false]
theorem or_two {x c : Nat} (h : x.testBit c = false) : x ||| 2 ^ c = x + 2 ^ c := by
  obtain ⟨w, hw⟩ : ∃ w, w = x + 2 ^ c := ⟨_, rfl⟩
  have hp := two_pos c
  have l1 : x < 2 ^ w := Nat.lt_of_le_of_lt (by rw [hw]; omega) Nat.lt_two_pow_self
  have l2 : 2 ^ c < 2 ^ w := Nat.lt_of_le_of_lt (by rw [hw]; omega) Nat.lt_two_pow_self
  have e : (BitVec.ofNat w x) &&& (BitVec.ofNat w (2 ^ c)) = 0#w := by
    apply BitVec.eq_of_toNat_eq
    rw [BitVec.toNat_and, BitVec.toNat_ofNat, BitVec.toNat_ofNat, Nat.mod_eq_of_lt l1, Nat.mod_eq_of_lt l2, and_two h]
    rfl
  have e1 := BitVec.toNat_add_of_and_eq_zero e
  rw [BitVec.add_eq_or_of_and_eq_zero _ _ e, BitVec.toNat_or, BitVec.toNat_ofNat, BitVec.toNat_ofNat, Nat.mod_eq_of_lt l1, Nat.mod_eq_of_lt l2] at e1
  exact e1
theorem bit_or_two (x c i : Nat) : (x ||| 2 ^ c).testBit i = (x.testBit i || decide (c = i)) := by rw [Nat.testBit_or, Nat.testBit_two_pow]
theorem or_two_has {x c : Nat} (h : x.testBit c = true) : x ||| 2 ^ c = x := by
  apply Nat.eq_of_testBit_eq
  intro i
  rw [bit_or_two]
  by_cases g : c = i
  · subst g; rw [h]; simp
  · rw [decide_eq_false g, Bool.or_false]
theorem or_two_ne {x c : Nat} (h : x.testBit c = false) : x ||| 2 ^ c ≠ x := fun e => by
  have := bit_or_two x c c
  rw [e, h] at this
  simp at this
theorem or_two_lt {x c n : Nat} (h : x < 2 ^ n) (hc : c < n) : x ||| 2 ^ c < 2 ^ n := Nat.or_lt_two_pow h (Nat.pow_lt_pow_right (by decide) hc)
theorem notN_bit {n x : Nat} (h : x < 2 ^ n) (i : Nat) : (notN n x).testBit i = (decide (i < n) && !x.testBit i) := by
  unfold notN
  rw [Nat.sub_sub, Nat.add_comm 1 x]
  exact Nat.testBit_two_pow_sub_succ h i
theorem notN_lt {n x : Nat} : notN n x < 2 ^ n := by
  have := two_pos n
  unfold notN
  omega
theorem notN_notN {n x : Nat} (h : x < 2 ^ n) : notN n (notN n x) = x := by unfold notN; omega
theorem div_bit (x c : Nat) : (decide (x / 2 ^ c % 2 = 1)) = x.testBit c := Nat.testBit_eq_decide_div_mod_eq.symm
theorem bit_lt {n x i : Nat} (h : x < 2 ^ n) (hi : n ≤ i) : x.testBit i = false := Nat.testBit_lt_two_pow (Nat.lt_of_lt_of_le h (Nat.pow_le_pow_right (by decide) hi))
/-- The classes, one further. -/
theorem classesN_snoc (n x : Nat) : classesN (n + 1) x = classesN n x ++ (if x.testBit n then [n] else []) := by
  unfold classesN
  rw [List.range_succ, List.filter_append]
  congr 1
  by_cases h : x.testBit n <;> simp [h]
theorem classesN_mem {n x c : Nat} : c ∈ classesN n x ↔ c < n ∧ x.testBit c = true := by
  unfold classesN
  rw [List.mem_filter, List.mem_range]
theorem classesN_more {n x : Nat} (h : x < 2 ^ n) : ∀ k, classesN (n + k) x = classesN n x
  | 0 => rfl
  | k + 1 => by rw [← Nat.add_assoc, classesN_snoc, classesN_more h k, bit_lt h (by omega)]; simp
theorem classesN_32 {n x : Nat} (h : x < 2 ^ n) (hn : n ≤ 32) : classesN 32 x = classesN n x := by
  have := classesN_more h (32 - n)
  rwa [show n + (32 - n) = 32 by omega] at this
theorem classesN_length {n x : Nat} (h : x < 2 ^ n) : ∀ k, k ≤ n → (classesN k x).length + (classesN k (notN n x)).length = k
  | 0, _ => rfl
  | k + 1, hk => by
    have ih := classesN_length h k (by omega)
    have e : (notN n x).testBit k = !x.testBit k := by rw [notN_bit h, decide_eq_true (show k < n by omega), Bool.true_and]
    rw [classesN_snoc, classesN_snoc, List.length_append, List.length_append, e]
    cases x.testBit k <;> simp <;> omega
theorem classesN_le (n x : Nat) : (classesN n x).length ≤ n := by
  unfold classesN
  have := List.length_filter_le x.testBit (List.range n)
  rwa [List.length_range] at this
/-- What is made of the classes, one by one. -/
def orN (x : Nat) (l : List Nat) : Nat := l.foldl (fun x c => x ||| 2 ^ c) x
theorem orN_bit : ∀ (l : List Nat) (x i : Nat), (orN x l).testBit i = (x.testBit i || decide (i ∈ l))
  | [], x, i => by simp [orN]
  | c :: l, x, i => by
    rw [orN, List.foldl_cons, ← orN, orN_bit l, bit_or_two, Bool.or_assoc]
    congr 1
    by_cases h : c = i
    · simp [h]
    · simp [h, Ne.symm h]
theorem orN_classes {n x : Nat} (h : x < 2 ^ n) : orN 0 (classesN n x) = x := by
  apply Nat.eq_of_testBit_eq
  intro i
  rw [orN_bit, Nat.zero_testBit, Bool.false_or]
  rcases Nat.lt_or_ge i n with hi | hi
  · by_cases hx : x.testBit i = true
    · rw [hx, decide_eq_true (classesN_mem.2 ⟨hi, hx⟩)]
    · rw [decide_eq_false fun hm => hx (classesN_mem.1 hm).2]
      simpa using hx
  · rw [bit_lt h hi, decide_eq_false fun hm => absurd (classesN_mem.1 hm).1 (by omega)]
theorem classesN_nodup (n x : Nat) : (classesN n x).Nodup := List.Pairwise.filter _ List.nodup_range
theorem classesN_inj {n x y : Nat} (hx : x < 2 ^ n) (hy : y < 2 ^ n) (h : classesN n x = classesN n y) : x = y := by rw [← orN_classes hx, ← orN_classes hy, h]
theorem all_iff {n x : Nat} (h : x < 2 ^ n) : x = 2 ^ n - 1 ↔ (classesN n x).length = n := by
  have hl := classesN_length h n (Nat.le_refl _)
  constructor
  · rintro rfl
    have : notN n (2 ^ n - 1) = 0 := by unfold notN; omega
    rw [this] at hl
    have e : classesN n 0 = [] := by
      rw [List.eq_nil_iff_forall_not_mem]
      intro c hc
      have := (classesN_mem.1 hc).2
      simp at this
    rw [e] at hl
    simpa using hl
  · intro e
    have e2 : classesN n (notN n x) = [] := List.length_eq_zero_iff.1 (by omega)
    have := orN_classes (x := notN n x) notN_lt
    rw [e2] at this
    have h3 : notN n x = 0 := this.symm
    unfold notN at h3
    omega
end Go.Proofs.YtnmhdcbpbaanoaaGreatDoor

namespace Go.Proofs.YtnmhdcbpbaanoaaGreatDoor

/-- An item: its set, how often it stands. -/
abbrev ItemP := Int × Int
/-- Numbers that one item eats. -/
def eatsP (x : ItemP) (l : List Int) : Prop := (∀ c ∈ l, hasZ x.1 c = true) ∧ (x.2 = 1 ∨ (x.2 = 0 ∧ l.length = 1) ∨ (x.2 = 2 ∧ l.length % 2 = 0))
/-- Numbers that fit items. -/
def fitsP : List ItemP → List Int → Prop
  | [], l => l = []
  | x :: r, l => ∃ a b, l = a ++ b ∧ eatsP x a ∧ fitsP r b
theorem fitsP_append : ∀ (xs ys : List ItemP) (l : List Int), fitsP (xs ++ ys) l ↔ ∃ a b, l = a ++ b ∧ fitsP xs a ∧ fitsP ys b
  | [], ys, l => by
    constructor
    · intro h; exact ⟨[], l, rfl, rfl, h⟩
    · rintro ⟨a, b, rfl, h1, h2⟩
      have : a = [] := h1
      rw [this]; exact h2
  | x :: xs, ys, l => by
    show (∃ a b, l = a ++ b ∧ eatsP x a ∧ fitsP (xs ++ ys) b) ↔ _
    constructor
    · rintro ⟨a, b, rfl, h1, h2⟩
      obtain ⟨c, d, rfl, h3, h4⟩ := (fitsP_append xs ys b).1 h2
      exact ⟨a ++ c, d, by rw [List.append_assoc], ⟨a, c, rfl, h1, h3⟩, h4⟩
    · rintro ⟨a, b, rfl, ⟨c, d, rfl, h1, h2⟩, h3⟩
      exact ⟨c, d ++ b, by rw [List.append_assoc], h1, (fitsP_append xs ys _).2 ⟨d, b, rfl, h2, h3⟩⟩
theorem fitsP_one (x : ItemP) (l : List Int) : fitsP [x] l ↔ eatsP x l := by
  constructor
  · rintro ⟨a, b, rfl, h, hb⟩
    have : b = [] := hb
    rw [this, List.append_nil]; exact h
  · intro h; exact ⟨l, [], by simp, h, rfl⟩
theorem fitsP_snoc (xs : List ItemP) (x : ItemP) (l : List Int) : fitsP (xs ++ [x]) l ↔ ∃ a b, l = a ++ b ∧ fitsP xs a ∧ eatsP x b := by
  rw [fitsP_append]
  constructor
  · rintro ⟨a, b, h, h1, h2⟩; exact ⟨a, b, h, h1, (fitsP_one _ _).1 h2⟩
  · rintro ⟨a, b, h, h1, h2⟩; exact ⟨a, b, h, h1, (fitsP_one _ _).2 h2⟩
theorem eatsP_reverse (x : ItemP) (l : List Int) : eatsP x l.reverse ↔ eatsP x l := by
  unfold eatsP
  simp
theorem fitsP_reverse : ∀ (xs : List ItemP) (l : List Int), fitsP xs.reverse l.reverse ↔ fitsP xs l
  | [], l => by
    show l.reverse = [] ↔ l = []
    simp
  | x :: xs, l => by
    rw [List.reverse_cons, fitsP_snoc]
    show _ ↔ ∃ a b, l = a ++ b ∧ eatsP x a ∧ fitsP xs b
    constructor
    · rintro ⟨a, b, h, h1, h2⟩
      refine ⟨b.reverse, a.reverse, ?_, (eatsP_reverse _ _).2 h2, ?_⟩
      · have := congrArg List.reverse h
        simpa using this
      · rw [← fitsP_reverse xs]; simpa using h1
    · rintro ⟨a, b, rfl, h1, h2⟩
      exact ⟨b.reverse, a.reverse, by simp, (fitsP_reverse xs b).2 h2, (eatsP_reverse _ _).2 h1⟩
/-- The items up to one have fitted, and that one may go on. -/
def nextP (xs : List ItemP) (i : Nat) (l : List Int) : Prop := ∃ a b, l = a ++ b ∧ fitsP (xs.take i) a ∧ (b = [] ∨ ∃ x, xs[i]? = some x ∧ x.2 ≠ 0 ∧ eatsP x b)
/-- Of that one, that is Pairs, one more has fitted. -/
def halfP (xs : List ItemP) (i : Nat) (l : List Int) : Prop := ∃ a c x, l = a ++ [c] ∧ xs[i]? = some x ∧ x.2 = 2 ∧ hasZ x.1 c = true ∧ nextP xs i a
def howP (xs : List ItemP) : Prop := ∀ x ∈ xs, x.2 = 0 ∨ x.2 = 1 ∨ x.2 = 2
theorem eatsP_nil {x : ItemP} (h : x.2 = 1 ∨ x.2 = 2) : eatsP x [] := by
  refine ⟨by simp, ?_⟩
  rcases h with h | h
  · exact .inl h
  · exact .inr (.inr ⟨h, rfl⟩)
theorem nextP_all (xs : List ItemP) (l : List Int) : nextP xs xs.length l ↔ fitsP xs l := by
  unfold nextP
  rw [List.take_length]
  constructor
  · rintro ⟨a, b, rfl, h, (rfl | ⟨x, hx, _⟩)⟩
    · rw [List.append_nil]; exact h
    · rw [List.getElem?_eq_none (Nat.le_refl _)] at hx; cases hx
  · intro h; exact ⟨l, [], by simp, h, .inl rfl⟩
theorem nextP_of_fits {xs : List ItemP} {i : Nat} {l : List Int} (h : fitsP (xs.take i) l) : nextP xs i l := ⟨l, [], by simp, h, .inl rfl⟩
theorem take_more {α : Type} {xs : List α} {i : Nat} {x : α} (h : xs[i]? = some x) : xs.take (i + 1) = xs.take i ++ [x] := by
  rw [List.take_add_one, h]; rfl
/-- What has fitted up to an item's end, in words of the item's beginning. -/
theorem fits_next {xs : List ItemP} {i : Nat} {x : ItemP} (hx : xs[i]? = some x) (hw : x.2 = 0 ∨ x.2 = 1 ∨ x.2 = 2) (l : List Int) :
    fitsP (xs.take (i + 1)) l ↔ (x.2 ≠ 0 ∧ nextP xs i l) ∨ (x.2 = 0 ∧ ∃ a c, l = a ++ [c] ∧ hasZ x.1 c = true ∧ fitsP (xs.take i) a) := by
  rw [take_more hx, fitsP_snoc]
  constructor
  · rintro ⟨a, b, rfl, h1, h2⟩
    by_cases h0 : x.2 = 0
    · right
      refine ⟨h0, ?_⟩
      rcases h2.2 with h | h | h
      · omega
      · obtain ⟨c, rfl⟩ := List.length_eq_one_iff.1 h.2
        exact ⟨a, c, rfl, h2.1 c (by simp), h1⟩
      · omega
    · exact .inl ⟨h0, a, b, rfl, h1, .inr ⟨x, hx, h0, h2⟩⟩
  · rintro (⟨h0, a, b, rfl, h1, h2⟩ | ⟨h0, a, c, rfl, h1, h2⟩)
    · refine ⟨a, b, rfl, h1, ?_⟩
      rcases h2 with rfl | ⟨y, hy, _, h3⟩
      · exact eatsP_nil (by omega)
      · rw [hx] at hy
        injection hy with hy
        rw [hy]; exact h3
    · exact ⟨a, [c], rfl, h2, by
        refine ⟨by simpa using h1, .inr (.inl ⟨h0, rfl⟩)⟩⟩
/-- At the beginning. -/
theorem nextP_nil {xs : List ItemP} (hw : howP xs) : ∀ (i : Nat), i ≤ xs.length → (nextP xs i [] ↔ ∀ x ∈ xs.take i, x.2 ≠ 0) := by
  have hf : ∀ (l : List ItemP), howP l → (fitsP l [] ↔ ∀ x ∈ l, x.2 ≠ 0) := by
    intro l
    induction l with
    | nil => intro _; simp [fitsP]
    | cons x r ih =>
      intro h
      have hx := h x (by simp)
      have hr := ih fun y hy => h y (List.mem_cons_of_mem _ hy)
      constructor
      · rintro ⟨a, b, hab, h1, h2⟩
        obtain ⟨rfl, rfl⟩ := List.append_eq_nil_iff.1 hab.symm
        intro y hy
        rcases List.mem_cons.1 hy with rfl | hy
        · rcases h1.2 with g | g | g
          · omega
          · simp at g
          · omega
        · exact hr.1 h2 y hy
      · intro hy
        refine ⟨[], [], rfl, eatsP_nil ?_, hr.2 fun y h => hy y (List.mem_cons_of_mem _ h)⟩
        have := hy x (by simp)
        omega
  intro i hi
  rw [← hf (xs.take i) fun x hx => hw x (List.mem_of_mem_take hx)]
  constructor
  · rintro ⟨a, b, hab, h1, _⟩
    obtain ⟨rfl, rfl⟩ := List.append_eq_nil_iff.1 hab.symm
    exact h1
  · exact nextP_of_fits
/-- One number further: an item may go on, as it was passed over, or by that number. -/
theorem nextP_snoc {xs : List ItemP} {i : Nat} (l : List Int) (c : Int) :
    nextP xs i (l ++ [c]) ↔ fitsP (xs.take i) (l ++ [c]) ∨ (∃ x, xs[i]? = some x ∧ hasZ x.1 c = true ∧ ((x.2 = 1 ∧ nextP xs i l) ∨ (x.2 = 2 ∧ halfP xs i l))) := by
  constructor
  · rintro ⟨a, b, hab, h1, (rfl | ⟨x, hx, h0, h2⟩)⟩
    · rw [List.append_nil] at hab
      rw [hab]; exact .inl h1
    · rcases List.eq_nil_or_concat b with rfl | ⟨b', d, rfl⟩
      · rw [List.append_nil] at hab
        rw [hab]; exact .inl h1
      · rw [List.concat_eq_append, ← List.append_assoc] at hab
        obtain ⟨rfl, h⟩ := List.append_inj' hab (by simp)
        injection h with h _
        subst h
        rw [List.concat_eq_append] at h2
        refine .inr ⟨x, hx, h2.1 c (by simp), ?_⟩
        rcases h2.2 with g | g | g
        · exact .inl ⟨g, a, b', rfl, h1, .inr ⟨x, hx, h0, fun y hy => h2.1 y (List.mem_append_left _ hy), .inl g⟩⟩
        · omega
        · right
          refine ⟨g.1, ?_⟩
          have hb : b'.length % 2 = 1 := by
            have := g.2
            rw [List.length_append, List.length_singleton] at this
            omega
          rcases List.eq_nil_or_concat b' with rfl | ⟨b2, d, rfl⟩
          · simp at hb
          · rw [List.concat_eq_append] at h2 hb ⊢
            refine ⟨a ++ b2, d, x, by rw [List.append_assoc], hx, g.1, h2.1 d (by simp), a, b2, rfl, h1, .inr ⟨x, hx, h0, fun y hy => h2.1 y (by simp [hy]), .inr (.inr ⟨g.1, ?_⟩)⟩⟩
            rw [List.length_append, List.length_singleton] at hb
            omega
  · rintro (h | ⟨x, hx, hc, (⟨g, a, b, rfl, h1, h2⟩ | ⟨g, a, d, y, rfl, hy, _, hd, a1, b1, rfl, h1, h2⟩)⟩)
    · exact nextP_of_fits h
    · refine ⟨a, b ++ [c], by rw [List.append_assoc], h1, .inr ⟨x, hx, by omega, ?_, .inl g⟩⟩
      intro y hy
      rcases List.mem_append.1 hy with hy | hy
      · rcases h2 with rfl | ⟨z, hz, _, h3⟩
        · simp at hy
        · rw [hx] at hz
          injection hz with hz
          rw [hz]; exact h3.1 y hy
      · rw [List.mem_singleton.1 hy]; exact hc
    · rw [hx] at hy
      injection hy with hy
      subst hy
      refine ⟨a1, b1 ++ [d, c], by simp, h1, .inr ⟨x, hx, by omega, ?_, .inr (.inr ⟨g, ?_⟩)⟩⟩
      · intro y hy
        rcases List.mem_append.1 hy with hy | hy
        · rcases h2 with rfl | ⟨z, hz, _, h3⟩
          · simp at hy
          · rw [hx] at hz
            injection hz with hz
            rw [hz]; exact h3.1 y hy
        · have : y = d ∨ y = c := by simpa using hy
          rcases this with rfl | rfl
          · exact hd
          · exact hc
      · rcases h2 with rfl | ⟨z, hz, _, h3⟩
        · simp
        · rw [hx] at hz
          injection hz with hz
          subst hz
          rcases h3.2 with q | q | q
          · omega
          · omega
          · rw [List.length_append]
            have := q.2
            simp
            omega
theorem halfP_snoc {xs : List ItemP} {i : Nat} (l : List Int) (c : Int) : halfP xs i (l ++ [c]) ↔ ∃ x, xs[i]? = some x ∧ x.2 = 2 ∧ hasZ x.1 c = true ∧ nextP xs i l := by
  constructor
  · rintro ⟨a, d, x, h, hx, h2, hd, hn⟩
    obtain ⟨rfl, e⟩ := List.append_inj' h (by simp)
    injection e with e _
    subst e
    exact ⟨x, hx, h2, hd, hn⟩
  · rintro ⟨x, hx, h2, hd, hn⟩
    exact ⟨l, c, x, rfl, hx, h2, hd, hn⟩
theorem nextP_once {xs : List ItemP} {i : Nat} {x : ItemP} (hx : xs[i]? = some x) (h0 : x.2 = 0) (l : List Int) : nextP xs i l ↔ fitsP (xs.take i) l := by
  constructor
  · rintro ⟨a, b, rfl, h1, (rfl | ⟨y, hy, h, _⟩)⟩
    · rw [List.append_nil]; exact h1
    · rw [hx] at hy
      injection hy with hy
      subst hy
      exact absurd h0 h
  · exact nextP_of_fits
theorem halfP_nil {xs : List ItemP} {i : Nat} : ¬ halfP xs i [] := by
  rintro ⟨a, c, x, h, _⟩
  simp at h
end Go.Proofs.YtnmhdcbpbaanoaaGreatDoor

namespace Go.Proofs.YtnmhdcbpbaanoaaGreatDoor

/-- Items that need not stand are passed over. -/
def overN (xs : List ItemP) (N : Nat → Bool) : Nat → Bool
  | 0 => N 0
  | i + 1 => N (i + 1) || (match xs[i]? with | some x => overN xs N i && decide (x.2 ≠ 0) | none => false)
/-- One number further, before that. -/
def stepN (xs : List ItemP) (c : Int) (N H : Nat → Bool) (i : Nat) : Bool :=
  (match xs[i]? with | some x => hasZ x.1 c && ((decide (x.2 = 1) && N i) || (decide (x.2 = 2) && H i)) | none => false) ||
  (match i with | 0 => false | j + 1 => match xs[j]? with | some x => hasZ x.1 c && (decide (x.2 = 0) && N j) | none => false)
def stepH (xs : List ItemP) (c : Int) (N : Nat → Bool) (i : Nat) : Bool :=
  match xs[i]? with | some x => hasZ x.1 c && (decide (x.2 = 2) && N i) | none => false
theorem some_bool {α : Type} {o : Option α} {p : α → Bool} : (match o with | some x => p x | none => false) = true ↔ ∃ x, o = some x ∧ p x = true := by
  cases o <;> simp
theorem step_next {xs : List ItemP} (hw : howP xs) {l : List Int} {c : Int} {N H : Nat → Bool} (hN : ∀ i, i ≤ xs.length → (N i = true ↔ nextP xs i l)) (hH : ∀ i, i < xs.length → (H i = true ↔ halfP xs i l)) :
    ∀ i, i ≤ xs.length → (overN xs (stepN xs c N H) i = true ↔ nextP xs i (l ++ [c])) := by
  have own : ∀ i, i ≤ xs.length → ((match xs[i]? with | some x => hasZ x.1 c && ((decide (x.2 = 1) && N i) || (decide (x.2 = 2) && H i)) | none => false) = true ↔ ∃ x, xs[i]? = some x ∧ hasZ x.1 c = true ∧ ((x.2 = 1 ∧ nextP xs i l) ∨ (x.2 = 2 ∧ halfP xs i l))) := by
    intro i hi
    cases hx : xs[i]? with
    | none => simp
    | some x =>
      have hlt := (List.getElem?_eq_some_iff.1 hx).1
      have h1 := hN i hi
      have h2 := hH i hlt
      simp only [Option.some.injEq, exists_eq_left', Bool.and_eq_true, Bool.or_eq_true, decide_eq_true_eq, h1, h2]
  intro i
  induction i with
  | zero =>
    intro hi
    show stepN xs c N H 0 = true ↔ _
    unfold stepN
    rw [Bool.or_false, own 0 hi, nextP_snoc]
    constructor
    · intro h; exact .inr h
    · rintro (h | h)
      · have : l ++ [c] = [] := h
        simp at this
      · exact h
  | succ i ih =>
    intro hi
    have hlt : i < xs.length := by omega
    obtain ⟨x, hx⟩ : ∃ x, xs[i]? = some x := ⟨_, List.getElem?_eq_getElem hlt⟩
    have hwx := hw x (List.mem_of_getElem? hx)
    have ihi := ih (by omega)
    rw [nextP_snoc, fits_next hx hwx]
    have e1 : stepN xs c N H (i + 1) = ((match xs[i + 1]? with | some x => hasZ x.1 c && ((decide (x.2 = 1) && N (i + 1)) || (decide (x.2 = 2) && H (i + 1))) | none => false) || (hasZ x.1 c && (decide (x.2 = 0) && N i))) := by
      show ((match xs[i + 1]? with | some x => hasZ x.1 c && ((decide (x.2 = 1) && N (i + 1)) || (decide (x.2 = 2) && H (i + 1))) | none => false) || (match xs[i]? with | some x => hasZ x.1 c && (decide (x.2 = 0) && N i) | none => false)) = _
      rw [hx]
    have e2 : overN xs (stepN xs c N H) (i + 1) = (stepN xs c N H (i + 1) || (overN xs (stepN xs c N H) i && decide (x.2 ≠ 0))) := by
      show (stepN xs c N H (i + 1) || (match xs[i]? with | some x => overN xs (stepN xs c N H) i && decide (x.2 ≠ 0) | none => false)) = _
      rw [hx]
    rw [e2, e1, Bool.or_eq_true, Bool.or_eq_true, own (i + 1) hi]
    simp only [Bool.and_eq_true, decide_eq_true_eq, ihi]
    have hNi := hN i (by omega)
    constructor
    · rintro ((h | ⟨h1, h2, h3⟩) | ⟨h1, h2⟩)
      · exact .inr h
      · exact .inl (.inr ⟨h2, l, c, rfl, h1, (nextP_once hx h2 l).1 (hNi.1 h3)⟩)
      · exact .inl (.inl ⟨h2, h1⟩)
    · rintro ((⟨h1, h2⟩ | ⟨h1, a, d, hab, h2, h3⟩) | h)
      · exact .inr ⟨h2, h1⟩
      · obtain ⟨rfl, e⟩ := List.append_inj' hab (by simp)
        injection e with e _
        subst e
        exact .inl (.inr ⟨h2, h1, hNi.2 ((nextP_once hx h1 l).2 h3)⟩)
      · exact .inl (.inl h)
theorem step_half {xs : List ItemP} {l : List Int} {c : Int} {N : Nat → Bool} (hN : ∀ i, i ≤ xs.length → (N i = true ↔ nextP xs i l)) (i : Nat) : stepH xs c N i = true ↔ halfP xs i (l ++ [c]) := by
  rw [halfP_snoc]
  unfold stepH
  cases hx : xs[i]? with
  | none => simp
  | some x =>
    have hlt := (List.getElem?_eq_some_iff.1 hx).1
    have h1 := hN i (by omega)
    simp only [Option.some.injEq, exists_eq_left', Bool.and_eq_true, decide_eq_true_eq, h1]
    constructor
    · rintro ⟨a, b, c⟩; exact ⟨b, a, c⟩
    · rintro ⟨a, b, c⟩; exact ⟨b, a, c⟩
theorem begin_next {xs : List ItemP} (hw : howP xs) : ∀ i, i ≤ xs.length → (overN xs (fun i => decide (i = 0)) i = true ↔ nextP xs i []) := by
  intro i
  induction i with
  | zero => intro hi; rw [nextP_nil hw 0 hi]; simp [overN]
  | succ i ih =>
    intro hi
    have hlt : i < xs.length := by omega
    obtain ⟨x, hx⟩ : ∃ x, xs[i]? = some x := ⟨_, List.getElem?_eq_getElem hlt⟩
    have ihi := ih (by omega)
    rw [nextP_nil hw i (by omega)] at ihi
    rw [nextP_nil hw (i + 1) hi, take_more hx]
    show (decide (i + 1 = 0) || (match xs[i]? with | some x => overN xs (fun i => decide (i = 0)) i && decide (x.2 ≠ 0) | none => false)) = true ↔ _
    rw [hx]
    simp only [Bool.or_eq_true, Bool.and_eq_true, decide_eq_true_eq, ihi]
    constructor
    · rintro (h | ⟨h1, h2⟩)
      · omega
      · intro y hy
        rcases List.mem_append.1 hy with hy | hy
        · exact h1 y hy
        · rw [List.mem_singleton.1 hy]; exact h2
    · intro h
      exact .inr ⟨fun y hy => h y (List.mem_append_left _ hy), h x (by simp)⟩
/-- Where nothing has fitted so far, nothing that comes changes that. -/
theorem dead_one {xs : List ItemP} (hw : howP xs) {l : List Int} (c : Int) (hN : ∀ i, i ≤ xs.length → ¬ nextP xs i l) (hH : ∀ i, i < xs.length → ¬ halfP xs i l) : ∀ i, i ≤ xs.length → ¬ nextP xs i (l ++ [c]) := by
  have fin : ∀ i, i ≤ xs.length → ¬ fitsP (xs.take i) (l ++ [c]) → ¬ nextP xs i (l ++ [c]) := by
    intro i hi hf h
    rcases (nextP_snoc l c).1 h with h | ⟨x, hx, _, (⟨_, h⟩ | ⟨_, h⟩)⟩
    · exact hf h
    · exact hN i hi h
    · exact hH i (List.getElem?_eq_some_iff.1 hx).1 h
  intro i
  induction i with
  | zero =>
    intro hi
    exact fin 0 hi fun h => by
      have : l ++ [c] = [] := h
      simp at this
  | succ i ih =>
    intro hi
    refine fin (i + 1) hi fun h => ?_
    have hlt : i < xs.length := by omega
    obtain ⟨x, hx⟩ : ∃ x, xs[i]? = some x := ⟨_, List.getElem?_eq_getElem hlt⟩
    rcases (fits_next hx (hw x (List.mem_of_getElem? hx)) _).1 h with ⟨_, h⟩ | ⟨_, a, d, hab, _, h⟩
    · exact ih (by omega) h
    · obtain ⟨rfl, _⟩ := List.append_inj' hab (by simp)
      exact hN i (by omega) (nextP_of_fits h)
theorem dead_half {xs : List ItemP} {l : List Int} (c : Int) (hN : ∀ i, i ≤ xs.length → ¬ nextP xs i l) (i : Nat) : ¬ halfP xs i (l ++ [c]) := fun h => by
  obtain ⟨x, hx, _, _, h⟩ := (halfP_snoc l c).1 h
  have := (List.getElem?_eq_some_iff.1 hx).1
  exact hN i (by omega) h
theorem dead_more {xs : List ItemP} (hw : howP xs) : ∀ (r l : List Int), (∀ i, i ≤ xs.length → ¬ nextP xs i l) → (∀ i, i < xs.length → ¬ halfP xs i l) → ¬ fitsP xs (l ++ r)
  | [], l, hN, _, h => hN xs.length (Nat.le_refl _) ((nextP_all xs l).2 (by rwa [List.append_nil] at h))
  | c :: r, l, hN, hH, h => by
    have := dead_more hw r (l ++ [c]) (dead_one hw c hN hH) (fun i _ => dead_half c hN i)
    rw [List.append_assoc] at this
    exact this h
end Go.Proofs.YtnmhdcbpbaanoaaGreatDoor

namespace Go.Proofs.YtnmhdcbpbaanoaaGreatDoor

/-- What stands from one place up to another. -/
def segP (l : List Int) (i j : Nat) : List Int := (l.drop i).take (j - i)
theorem segP_self (l : List Int) (i : Nat) : segP l i i = [] := by unfold segP; rw [Nat.sub_self, List.take_zero]
theorem segP_snoc {l : List Int} {i j : Nat} {c : Int} (hi : i ≤ j) (hc : l[j]? = some c) : segP l i (j + 1) = segP l i j ++ [c] := by
  unfold segP
  rw [show j + 1 - i = (j - i) + 1 from by omega, List.take_add_one, List.getElem?_drop, show i + (j - i) = j from by omega, hc]
  rfl
theorem segP_len {l : List Int} {i j : Nat} (hi : i ≤ j) (hj : j ≤ l.length) : (segP l i j).length = j - i := by
  unfold segP
  rw [List.length_take, List.length_drop]
  omega
theorem segP_parts {l : List Int} {i k j : Nat} (h1 : i ≤ k) (h2 : k ≤ j) : segP l i j = segP l i k ++ segP l k j := by
  unfold segP
  rw [show j - i = (k - i) + (j - k) from by omega, List.take_add, List.drop_drop, show i + (k - i) = k from by omega]
theorem segP_cut {l : List Int} {i j : Nat} {a b : List Int} (hi : i ≤ j) (hj : j ≤ l.length) (h : segP l i j = a ++ b) : i + a.length ≤ j ∧ a = segP l i (i + a.length) ∧ b = segP l (i + a.length) j := by
  have hl := segP_len hi hj
  rw [h, List.length_append] at hl
  have hk : i + a.length ≤ j := by omega
  refine ⟨hk, ?_⟩
  have h2 := segP_parts (l := l) (show i ≤ i + a.length by omega) hk
  rw [h] at h2
  have h3 := segP_len (l := l) (show i ≤ i + a.length by omega) (by omega)
  exact List.append_inj h2 (by rw [h3]; omega)
/-- One item's ends: out, and half. -/
def endsR (x : ItemP) (l : List Int) (from_ : Nat → Bool) : Nat → Bool × Bool
  | 0 => (from_ 0 && decide (x.2 ≠ 0), false)
  | i + 1 =>
    ((match l[i]? with | some c => hasZ x.1 c && ((decide (x.2 = 0) && from_ i) || (decide (x.2 = 1) && (endsR x l from_ i).1) || (decide (x.2 = 2) && (endsR x l from_ i).2)) | none => false) || (from_ (i + 1) && decide (x.2 ≠ 0)),
      match l[i]? with | some c => hasZ x.1 c && (decide (x.2 = 2) && (endsR x l from_ i).1) | none => false)
theorem eats_snoc {x : ItemP} (s : List Int) (c : Int) :
    eatsP x (s ++ [c]) ↔ hasZ x.1 c = true ∧ ((x.2 = 0 ∧ s = []) ∨ (x.2 = 1 ∧ eatsP x s) ∨ (x.2 = 2 ∧ (∀ d ∈ s, hasZ x.1 d = true) ∧ s.length % 2 = 1)) := by
  unfold eatsP
  rw [List.length_append, List.length_singleton]
  constructor
  · rintro ⟨h1, h2⟩
    refine ⟨h1 c (by simp), ?_⟩
    have h3 : ∀ d ∈ s, hasZ x.1 d = true := fun d hd => h1 d (by simp [hd])
    rcases h2 with h | h | h
    · exact .inr (.inl ⟨h, h3, .inl h⟩)
    · exact .inl ⟨h.1, List.eq_nil_of_length_eq_zero (by omega)⟩
    · exact .inr (.inr ⟨h.1, h3, by omega⟩)
  · rintro ⟨h1, (⟨h, rfl⟩ | ⟨h, h2, _⟩ | ⟨h, h2, h3⟩)⟩
    · exact ⟨by simpa using h1, .inr (.inl ⟨h, rfl⟩)⟩
    · refine ⟨fun d hd => ?_, .inl h⟩
      rcases List.mem_append.1 hd with hd | hd
      · exact h2 d hd
      · rw [List.mem_singleton.1 hd]; exact h1
    · refine ⟨fun d hd => ?_, .inr (.inr ⟨h, by omega⟩)⟩
      rcases List.mem_append.1 hd with hd | hd
      · exact h2 d hd
      · rw [List.mem_singleton.1 hd]; exact h1
theorem eats_nil_iff {x : ItemP} (hw : x.2 = 0 ∨ x.2 = 1 ∨ x.2 = 2) : eatsP x [] ↔ x.2 ≠ 0 := by
  constructor
  · rintro ⟨_, (h | h | h)⟩
    · omega
    · simp at h
    · omega
  · intro h; exact eatsP_nil (by omega)
theorem ends_iff {x : ItemP} (hw : x.2 = 0 ∨ x.2 = 1 ∨ x.2 = 2) (l : List Int) (F : Nat → Bool) : ∀ j, j ≤ l.length →
    (((endsR x l F j).1 = true ↔ ∃ i, i ≤ j ∧ F i = true ∧ eatsP x (segP l i j)) ∧
     ((endsR x l F j).2 = true ↔ x.2 = 2 ∧ ∃ i, i ≤ j ∧ F i = true ∧ (∀ d ∈ segP l i j, hasZ x.1 d = true) ∧ (segP l i j).length % 2 = 1)) := by
  intro j
  induction j with
  | zero =>
    intro _
    constructor
    · show (F 0 && decide (x.2 ≠ 0)) = true ↔ _
      rw [Bool.and_eq_true, decide_eq_true_eq]
      constructor
      · rintro ⟨h1, h2⟩; exact ⟨0, Nat.le_refl _, h1, by rw [segP_self, eats_nil_iff hw]; exact h2⟩
      · rintro ⟨i, hi, h1, h2⟩
        obtain rfl : i = 0 := by omega
        rw [segP_self, eats_nil_iff hw] at h2
        exact ⟨h1, h2⟩
    · show false = true ↔ _
      constructor
      · intro h; cases h
      · rintro ⟨_, i, hi, _, _, h⟩
        obtain rfl : i = 0 := by omega
        rw [segP_self] at h
        simp at h
  | succ j ih =>
    intro hj
    obtain ⟨ih1, ih2⟩ := ih (by omega)
    obtain ⟨c, hc⟩ : ∃ c, l[j]? = some c := ⟨_, List.getElem?_eq_getElem (by omega)⟩
    constructor
    · show ((match l[j]? with | some c => hasZ x.1 c && ((decide (x.2 = 0) && F j) || (decide (x.2 = 1) && (endsR x l F j).1) || (decide (x.2 = 2) && (endsR x l F j).2)) | none => false) || (F (j + 1) && decide (x.2 ≠ 0))) = true ↔ _
      rw [hc]
      simp only [Bool.or_eq_true, Bool.and_eq_true, decide_eq_true_eq, ih1, ih2]
      constructor
      · rintro (⟨h0, ((⟨h1, h2⟩ | ⟨h1, i, hi, h2, h3⟩) | ⟨h1, _, i, hi, h2, h3, h4⟩)⟩ | ⟨h1, h2⟩)
        · exact ⟨j, by omega, h2, by rw [segP_snoc (Nat.le_refl _) hc, eats_snoc, segP_self]; exact ⟨h0, .inl ⟨h1, rfl⟩⟩⟩
        · exact ⟨i, by omega, h2, by rw [segP_snoc hi hc, eats_snoc]; exact ⟨h0, .inr (.inl ⟨h1, h3⟩)⟩⟩
        · exact ⟨i, by omega, h2, by rw [segP_snoc hi hc, eats_snoc]; exact ⟨h0, .inr (.inr ⟨h1, h3, h4⟩)⟩⟩
        · exact ⟨j + 1, Nat.le_refl _, h1, by rw [segP_self, eats_nil_iff hw]; exact h2⟩
      · rintro ⟨i, hi, h1, h2⟩
        rcases Nat.lt_or_ge j i with h | h
        · obtain rfl : i = j + 1 := by omega
          rw [segP_self, eats_nil_iff hw] at h2
          exact .inr ⟨h1, h2⟩
        · rw [segP_snoc h hc, eats_snoc] at h2
          refine .inl ⟨h2.1, ?_⟩
          rcases h2.2 with ⟨g1, g2⟩ | ⟨g1, g2⟩ | ⟨g1, g2, g3⟩
          · have hl := segP_len (l := l) h (by omega)
            rw [g2, List.length_nil] at hl
            obtain rfl : i = j := by omega
            exact .inl (.inl ⟨g1, h1⟩)
          · exact .inl (.inr ⟨g1, i, h, h1, g2⟩)
          · exact .inr ⟨g1, g1, i, h, h1, g2, g3⟩
    · show (match l[j]? with | some c => hasZ x.1 c && (decide (x.2 = 2) && (endsR x l F j).1) | none => false) = true ↔ _
      rw [hc]
      simp only [Bool.and_eq_true, decide_eq_true_eq, ih1]
      constructor
      · rintro ⟨h0, h1, i, hi, h2, h3⟩
        refine ⟨h1, i, by omega, h2, ?_, ?_⟩
        · rw [segP_snoc hi hc]
          intro d hd
          rcases List.mem_append.1 hd with hd | hd
          · exact h3.1 d hd
          · rw [List.mem_singleton.1 hd]; exact h0
        · rw [segP_snoc hi hc, List.length_append, List.length_singleton]
          rcases h3.2 with g | g | g
          · omega
          · omega
          · omega
      · rintro ⟨h1, i, hi, h2, h3, h4⟩
        rcases Nat.lt_or_ge j i with h | h
        · obtain rfl : i = j + 1 := by omega
          rw [segP_self] at h4
          simp at h4
        · rw [segP_snoc h hc] at h3 h4
          rw [List.length_append, List.length_singleton] at h4
          exact ⟨h3 c (by simp), h1, i, h, h2, fun d hd => h3 d (by simp [hd]), .inr (.inr ⟨h1, by omega⟩)⟩
/-- The places that items end at, from some places on. -/
def reachR (l : List Int) : List ItemP → (Nat → Bool) → Nat → Bool
  | [], F => F
  | x :: r, F => reachR l r fun j => (endsR x l F j).1
theorem reach_iff (l : List Int) : ∀ (xs : List ItemP), howP xs → ∀ (F : Nat → Bool) (j : Nat), j ≤ l.length → (reachR l xs F j = true ↔ ∃ i, i ≤ j ∧ F i = true ∧ fitsP xs (segP l i j))
  | [], _, F, j, hj => by
    show F j = true ↔ _
    constructor
    · intro h; exact ⟨j, Nat.le_refl _, h, segP_self l j⟩
    · rintro ⟨i, hi, h1, h2⟩
      have h3 : segP l i j = [] := h2
      have hl := segP_len hi hj
      rw [h3, List.length_nil] at hl
      obtain rfl : i = j := by omega
      exact h1
  | x :: r, hw, F, j, hj => by
    have hx := hw x (by simp)
    show reachR l r (fun j => (endsR x l F j).1) j = true ↔ _
    rw [reach_iff l r (fun y hy => hw y (List.mem_cons_of_mem _ hy)) _ j hj]
    constructor
    · rintro ⟨k, hk, h1, h2⟩
      obtain ⟨i, hi, h3, h4⟩ := ((ends_iff hx l F k (by omega)).1).1 h1
      exact ⟨i, by omega, h3, segP l i k, segP l k j, segP_parts hi hk, h4, h2⟩
    · rintro ⟨i, hi, h1, a, b, hab, h2, h3⟩
      obtain ⟨hk, ha, hb⟩ := segP_cut hi hj hab
      refine ⟨i + a.length, hk, ((ends_iff hx l F _ (by omega)).1).2 ⟨i, by omega, h1, ?_⟩, ?_⟩
      · rw [← ha]; exact h2
      · rw [← hb]; exact h3
end Go.Proofs.YtnmhdcbpbaanoaaGreatDoor

namespace Go.Proofs.YtnmhdcbpbaanoaaGreatDoor

/-- How far items have fitted behind some numbers. -/
def stateP (xs : List ItemP) (l : List Int) : (Nat → Bool) × (Nat → Bool) :=
  l.foldl (fun s c => (overN xs (stepN xs c s.1 s.2), stepH xs c s.1)) (overN xs (fun i => decide (i = 0)), fun _ => false)
theorem stateP_snoc (xs : List ItemP) (l : List Int) (c : Int) : stateP xs (l ++ [c]) = (overN xs (stepN xs c (stateP xs l).1 (stateP xs l).2), stepH xs c (stateP xs l).1) := by
  unfold stateP
  rw [List.foldl_append]
  rfl
theorem stateP_rev {xs : List ItemP} (hw : howP xs) : ∀ r : List Int, (∀ i, i ≤ xs.length → ((stateP xs r.reverse).1 i = true ↔ nextP xs i r.reverse)) ∧ (∀ i, i < xs.length → ((stateP xs r.reverse).2 i = true ↔ halfP xs i r.reverse))
  | [] => ⟨begin_next hw, fun i _ => by
      constructor
      · intro h; cases h
      · intro h; exact absurd h halfP_nil⟩
  | c :: r => by
    obtain ⟨h1, h2⟩ := stateP_rev hw r
    rw [List.reverse_cons, stateP_snoc]
    exact ⟨step_next hw h1 h2, fun i _ => step_half h1 i⟩
theorem stateP_iff {xs : List ItemP} (hw : howP xs) (l : List Int) : (∀ i, i ≤ xs.length → ((stateP xs l).1 i = true ↔ nextP xs i l)) ∧ (∀ i, i < xs.length → ((stateP xs l).2 i = true ↔ halfP xs i l)) := by
  have := stateP_rev hw l.reverse
  rwa [List.reverse_reverse] at this
/-- Do all of these numbers fit the items? -/
def fitsB (xs : List ItemP) (l : List Int) : Bool := (stateP xs l).1 xs.length
theorem fitsB_iff {xs : List ItemP} (hw : howP xs) (l : List Int) : fitsB xs l = true ↔ fitsP xs l := by
  unfold fitsB
  rw [(stateP_iff hw l).1 _ (Nat.le_refl _), nextP_all]
theorem howP_reverse {xs : List ItemP} (hw : howP xs) : howP xs.reverse := fun x hx => hw x (List.mem_reverse.1 hx)
theorem fitsB_reverse {xs : List ItemP} (hw : howP xs) (l : List Int) : fitsB xs.reverse l.reverse = fitsB xs l := by
  rw [Bool.eq_iff_iff, fitsB_iff (howP_reverse hw), fitsB_iff hw, fitsP_reverse]
theorem fitsB_reach {xs : List ItemP} (hw : howP xs) {l : List Int} {i j : Nat} (hi : i ≤ j) (hj : j ≤ l.length) : reachR l xs (fun k => decide (k = i)) j = fitsB xs (segP l i j) := by
  rw [Bool.eq_iff_iff, fitsB_iff hw, reach_iff l xs hw _ j hj]
  constructor
  · rintro ⟨k, _, h1, h2⟩
    obtain rfl : k = i := by simpa using h1
    exact h2
  · intro h; exact ⟨i, hi, by simp, h⟩
theorem reach_far {xs : List ItemP} (hw : howP xs) {l : List Int} {i j : Nat} (hi : j < i) (hj : j ≤ l.length) : reachR l xs (fun k => decide (k = i)) j = false := by
  rw [Bool.eq_false_iff]
  intro h
  obtain ⟨k, hk, h1, _⟩ := (reach_iff l xs hw _ j hj).1 h
  have : k = i := by simpa using h1
  omega
/-- Do some of the first of these numbers? -/
def someB (xs : List ItemP) (l : List Int) : Bool := (List.range (l.length + 1)).any fun k => fitsB xs (l.take k)
/-- A pattern that is right of n classes. -/
def rightB (xs : List ItemP) (n : Int) : Bool := decide (1 ≤ n ∧ n ≤ 32) && decide (xs.length ≤ 10) && xs.all fun x => rightZ x.1 n && decide (x.2 = 0 ∨ x.2 = 1 ∨ x.2 = 2)
theorem rightB_how {xs : List ItemP} {n : Int} (h : rightB xs n = true) : howP xs := fun x hx => by
  unfold rightB at h
  rw [Bool.and_eq_true] at h
  have := List.all_eq_true.1 h.2 x hx
  rw [Bool.and_eq_true] at this
  exact of_decide_eq_true this.2
def fitsA (xs : List ItemP) (l : List Int) : Bool := rightB xs 32 && fitsB xs l
def behindA (start : Bool) (xs : List ItemP) (l : List Int) (at_ : Int) : Bool :=
  rightB xs 32 && decide (0 ≤ at_ ∧ at_ ≤ l.length) && (if start then fitsB xs (segP l 0 at_.toNat) else (List.range (at_.toNat + 1)).any fun i => fitsB xs (segP l i at_.toNat))
def aheadA (start : Bool) (xs : List ItemP) (l : List Int) (at_ : Int) : Bool :=
  rightB xs 32 && decide (0 ≤ at_ ∧ at_ ≤ l.length) && (!start || decide (at_ = 0)) && someB xs (l.drop at_.toNat)
/-- With more in its sets. -/
theorem fitsP_wider : ∀ {xs ys : List ItemP} {l : List Int}, xs.length = ys.length → (∀ (i : Nat) (x y : ItemP), xs[i]? = some x → ys[i]? = some y → x.2 = y.2 ∧ ∀ c, hasZ x.1 c = true → hasZ y.1 c = true) → fitsP xs l → fitsP ys l
  | [], [], l, _, _, h => h
  | x :: xs, y :: ys, l, hl, hw, ⟨a, b, e, h1, h2⟩ => by
    have h0 := hw 0 x y rfl rfl
    refine ⟨a, b, e, ⟨fun c hc => h0.2 c (h1.1 c hc), by rw [← h0.1]; exact h1.2⟩, fitsP_wider (by simpa using hl) (fun i u v hu hv => hw (i + 1) u v (by simpa using hu) (by simpa using hv)) h2⟩
end Go.Proofs.YtnmhdcbpbaanoaaGreatDoor

namespace Go.Proofs.YtnmhdcbpbaanoaaGreatDoor

theorem someB_iff (xs : List ItemP) (l : List Int) : someB xs l = true ↔ ∃ k, k ≤ l.length ∧ fitsB xs (l.take k) = true := by
  unfold someB
  rw [List.any_eq_true]
  constructor
  · rintro ⟨k, hk, h⟩
    have := List.mem_range.1 hk
    exact ⟨k, by omega, h⟩
  · rintro ⟨k, hk, h⟩
    exact ⟨k, List.mem_range.2 (by omega), h⟩
theorem seg_take {l : List Int} (i a : Nat) : (l.take a).drop i = segP l i a := by unfold segP; rw [List.drop_take]
theorem back_all {xs : List ItemP} (hw : howP xs) (l : List Int) (a : Nat) : fitsB xs.reverse (l.take a).reverse = fitsB xs (segP l 0 a) := by
  rw [fitsB_reverse hw, ← seg_take, List.drop_zero]
theorem back_some {xs : List ItemP} (hw : howP xs) {l : List Int} {a : Nat} (ha : a ≤ l.length) : someB xs.reverse (l.take a).reverse = (List.range (a + 1)).any fun i => fitsB xs (segP l i a) := by
  have hl : (l.take a).length = a := by rw [List.length_take]; omega
  rw [Bool.eq_iff_iff, someB_iff, List.any_eq_true, List.length_reverse, hl]
  constructor
  · rintro ⟨k, hk, h⟩
    rw [List.take_reverse, fitsB_reverse hw, hl, seg_take] at h
    exact ⟨a - k, List.mem_range.2 (by omega), h⟩
  · rintro ⟨i, hi, h⟩
    have := List.mem_range.1 hi
    refine ⟨a - i, by omega, ?_⟩
    rw [List.take_reverse, fitsB_reverse hw, hl, seg_take, show a - (a - i) = i from by omega]
    exact h
theorem ahead_some {xs : List ItemP} {l : List Int} {a : Nat} (ha : a ≤ l.length) : someB xs (l.drop a) = true ↔ ∃ i, a ≤ i ∧ i ≤ l.length ∧ fitsB xs (segP l a i) = true := by
  rw [someB_iff, List.length_drop]
  constructor
  · rintro ⟨k, hk, h⟩
    refine ⟨a + k, by omega, by omega, ?_⟩
    unfold segP
    rw [Nat.add_sub_cancel_left]
    exact h
  · rintro ⟨i, h1, h2, h⟩
    exact ⟨i - a, by omega, h⟩
/-- Once a beginning fits, or nothing has fitted so far, the matcher may stop. -/
theorem stop_dead {xs : List ItemP} (hw : howP xs) {l : List Int} (hN : ∀ i, i ≤ xs.length → (stateP xs l).1 i = false) (hH : ∀ i, i < xs.length → (stateP xs l).2 i = false) (r : List Int) : fitsB xs (l ++ r) = false := by
  obtain ⟨h1, h2⟩ := stateP_iff hw l
  rw [Bool.eq_false_iff, ne_eq, fitsB_iff hw]
  refine dead_more hw r l (fun i hi h => ?_) (fun i hi h => ?_)
  · have := (h1 i hi).2 h
    rw [hN i hi] at this
    cases this
  · have := (h2 i hi).2 h
    rw [hH i hi] at this
    cases this
end Go.Proofs.YtnmhdcbpbaanoaaGreatDoor

namespace Go.Proofs.YtnmhdcbpbaanoaaGreatDoor

/-- A pattern: Start, items; a rule: its sides, Break. -/
abbrev PatP := Bool × List ItemP
abbrev RuleP := PatP × PatP × Bool
def rightU (n : Int) (x : RuleP) : Bool := rightB x.1.2 n && rightB x.2.1.2 n && !x.2.1.1
def rightsU (l : List RuleP) (n : Int) : Bool := decide (1 ≤ n) && decide (n ≤ 32) && decide (l.length ≤ 40) && l.all (rightU n)
/-- Do a rule's sides fit at a place? -/
def sideU (L : List Int) (a : Int) (x : RuleP) : Bool := aheadA x.2.1.1 x.2.1.2 L a && behindA x.1.1 x.1.2 L a
/-- What the first rule says whose sides fit, and its number, from k on. -/
def firstU (L : List Int) (a : Int) : List RuleP → Nat → Bool × Int
  | [], _ => (true, -1)
  | x :: r, k => if sideU L a x = true then (x.2.2, ((k : Nat) : Int)) else firstU L a r (k + 1)
def placeU (L : List Int) (a : Int) : Bool := decide (1 ≤ a) && decide (a < ((L.length : Nat) : Int))
def decideU (l : List RuleP) (L : List Int) (a : Int) : Bool × Int := if rightsU l 32 && placeU L a then firstU L a l 0 else (false, -1)
def appliesU (x : RuleP) (L : List Int) (a : Int) : Bool := rightU 32 x && placeU L a && sideU L a x
/-- The boundaries ahead of place j: 0 first, then those of which the rules say so. -/
def cutsN (l : List RuleP) (L : List Int) (j : Nat) : List Int := 0 :: (((List.range j).filter fun a => decide (1 ≤ a) && (firstU L ((a : Nat) : Int) l 0).1).map fun a => ((a : Nat) : Int))
def cutsU (l : List RuleP) (L : List Int) : List Int := if L = [] then [0] else cutsN l L L.length ++ [((L.length : Nat) : Int)]
def cutsV (l : List RuleP) (L : List Int) : List Int := if rightsU l 32 = true then cutsU l L else []
def cutsE (l : List RuleP) : Int := if rightsU l 32 = true then 0 else 90
theorem cutsN_one (l : List RuleP) (L : List Int) : cutsN l L 1 = [0] := by
  unfold cutsN
  simp
theorem cutsN_snoc (l : List RuleP) (L : List Int) {j : Nat} (h : 1 ≤ j) : cutsN l L (j + 1) = cutsN l L j ++ (if (firstU L ((j : Nat) : Int) l 0).1 = true then [((j : Nat) : Int)] else []) := by
  unfold cutsN
  rw [List.range_succ, List.filter_append, List.map_append, List.cons_append]
  congr 2
  simp only [List.filter_cons, List.filter_nil, decide_eq_true h, Bool.true_and]
  split <;> simp
theorem cutsN_len (l : List RuleP) (L : List Int) (j : Nat) : (cutsN l L j).length ≤ j + 1 := by
  unfold cutsN
  rw [List.length_cons, List.length_map]
  have := List.length_filter_le (fun a => decide (1 ≤ a) && (firstU L ((a : Nat) : Int) l 0).1) (List.range j)
  rw [List.length_range] at this
  omega
theorem first_skip (L : List Int) (a : Int) : ∀ (l : List RuleP) (r : List RuleP) (k : Nat), (∀ x ∈ l, sideU L a x = false) → firstU L a (l ++ r) k = firstU L a r (k + l.length)
  | [], r, k, _ => rfl
  | x :: l, r, k, h => by
    rw [List.cons_append, firstU, if_neg (by rw [h x (by simp)]; decide), first_skip L a l r (k + 1) (fun y hy => h y (List.mem_cons_of_mem _ hy)), List.length_cons]
    congr 1
    omega
theorem first_none {L : List Int} {a : Int} {l : List RuleP} (h : ∀ x ∈ l, sideU L a x = false) : firstU L a l 0 = (true, -1) := by
  have := first_skip L a l [] 0 h
  rwa [List.append_nil] at this
theorem first_at {L : List Int} {a : Int} {l : List RuleP} {j : Nat} {x : RuleP} (hx : l[j]? = some x) (hp : ∀ y ∈ l.take j, sideU L a y = false) (hs : sideU L a x = true) : firstU L a l 0 = (x.2.2, ((j : Nat) : Int)) := by
  have hlt := (List.getElem?_eq_some_iff.1 hx).1
  have h1 : l = l.take j ++ x :: l.drop (j + 1) := by
    rw [← (List.getElem?_eq_some_iff.1 hx).2, ← List.drop_eq_getElem_cons hlt, List.take_append_drop]
  rw [h1, first_skip L a _ _ 0 hp, firstU, if_pos hs, List.length_take, Nat.min_eq_left (by omega), Nat.zero_add]
theorem rights_of {l : List RuleP} {n : Int} (h1 : 1 ≤ n) (h2 : n ≤ 32) (h3 : l.length ≤ 40) (h4 : ∀ x ∈ l, rightU n x = true) : rightsU l n = true := by
  unfold rightsU
  rw [decide_eq_true h1, decide_eq_true h2, decide_eq_true h3, List.all_eq_true.2 h4]; rfl
theorem rights_parts {l : List RuleP} {n : Int} (h : rightsU l n = true) : 1 ≤ n ∧ n ≤ 32 ∧ l.length ≤ 40 ∧ ∀ x ∈ l, rightU n x = true := by
  unfold rightsU at h
  simp only [Bool.and_eq_true, decide_eq_true_eq, List.all_eq_true] at h
  exact ⟨h.1.1.1, h.1.1.2, h.1.2, h.2⟩
theorem rights_bad {l : List RuleP} {n : Int} {j : Nat} {x : RuleP} (hx : l[j]? = some x) (h : rightU n x = false) : rightsU l n = false := by
  cases e : rightsU l n with
  | false => rfl
  | true =>
    have := (rights_parts e).2.2.2 x (List.mem_of_getElem? hx)
    rw [h] at this; cases this
theorem rights_not {l : List RuleP} {n : Int} (h : n < 1 ∨ 32 < n ∨ 40 < l.length) : rightsU l n = false := by
  cases e : rightsU l n with
  | false => rfl
  | true =>
    obtain ⟨h1, h2, h3, _⟩ := rights_parts e
    omega
end Go.Proofs.YtnmhdcbpbaanoaaGreatDoor
