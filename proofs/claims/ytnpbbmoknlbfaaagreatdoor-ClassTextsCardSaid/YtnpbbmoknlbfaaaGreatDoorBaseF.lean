/- Whole numbers as floats, there and back; what the program's types are. -/
import Derived.Test.YtnpbbmoknlbfaaaGreatDoorBase
import Derived.Test.YtnpbbmoknlbfaaaGreatDoorProg
import Derived.Laws.Cover2
import Derived.Laws.FloatArith
import Derived.IntWalk
namespace Go.Proofs.YtnpbbmoknlbfaaaGreatDoor
open Ieee
/-- d is the whole number n, written with a place that is not above 0. -/
def IsInt (d : Datum) (n : Int) : Prop := ∃ s m i, d = .number s m i ∧ i ≤ 0 ∧ signed s m 0 = n * 2 ^ (-i).toNat
/-- d is a number at least 2^53 away from 0, of the sign s. -/
def IsFar (d : Datum) (s : Bool) : Prop := ∃ m i, d = .number s m i ∧ 1 ≤ i ∧ 2 ^ 52 ≤ m

theorem signed_shift (s : Bool) (m k : Nat) : signed s m k = signed s m 0 * 2 ^ k := by
  unfold signed
  cases s <;> simp [Nat.shiftLeft_eq, Int.neg_mul]

theorem order_int {d e : Datum} {a b : Int} (hd : IsInt d a) (he : IsInt e b) : d.order e = some (compare a b) := by
  obtain ⟨s, m, i, rfl, hi, hm⟩ := hd
  obtain ⟨t, n, j, rfl, hj, hn⟩ := he
  simp only [Datum.order]
  rw [signed_shift s, signed_shift t, hm, hn, Int.mul_assoc, Int.mul_assoc, ← Int.pow_add, ← Int.pow_add]
  have e1 : (-i).toNat + (i - min i j).toNat = (- min i j).toNat := by omega
  have e2 : (-j).toNat + (j - min i j).toNat = (- min i j).toNat := by omega
  rw [e1, e2]
  have hp : (0 : Int) < 2 ^ (- min i j).toNat := Int.pow_pos (by omega)
  congr 1
  simp only [compare, compareOfLessAndEq]
  have h1 : (a * 2 ^ (- min i j).toNat < b * 2 ^ (- min i j).toNat) ↔ a < b := Int.mul_lt_mul_right hp
  have h2 : (a * 2 ^ (- min i j).toNat = b * 2 ^ (- min i j).toNat) ↔ a = b := ⟨fun h => Int.eq_of_mul_eq_mul_right (by omega) h, fun h => by rw [h]⟩
  simp only [h1, h2]

theorem pow52_le (k : Nat) : 1 ≤ 2 ^ k := Nat.one_le_two_pow

theorem order_far {d e : Datum} {a : Int} {s : Bool} (hd : IsInt d a) (he : IsFar e s) (h1 : -(2 ^ 53) < a) (h2 : a < 2 ^ 53) : d.order e = some (if s then .gt else .lt) := by
  obtain ⟨t, m, i, rfl, hi, hm⟩ := hd
  obtain ⟨n, j, rfl, hj, hn⟩ := he
  simp only [Datum.order]
  have hb : min i j = i := by omega
  rw [hb, signed_shift t, signed_shift s, hm]
  have e0 : (i - i).toNat = 0 := by omega
  rw [e0, Int.pow_zero, Int.mul_one]
  obtain ⟨k, hk⟩ : ∃ k : Nat, (j - i).toNat = (-i).toNat + 1 + k := ⟨(j - i).toNat - (-i).toNat - 1, by omega⟩
  rw [hk]
  generalize (-i).toNat = q
  have hq : (0 : Int) < 2 ^ q := Int.pow_pos (by omega)
  have hkk : (1 : Int) ≤ 2 ^ k := by have := pow52_le k; exact_mod_cast this
  have hbig : (2 : Int) ^ 53 * 2 ^ q ≤ (n : Int) * 2 ^ (q + 1 + k) := by
    have e : (2 : Int) ^ (q + 1 + k) = 2 * 2 ^ k * 2 ^ q := by rw [Int.pow_add, Int.pow_add]; simp [Int.mul_comm, Int.mul_left_comm, Int.mul_assoc]
    rw [e, ← Int.mul_assoc]
    refine Int.mul_le_mul_of_nonneg_right ?_ (by omega)
    have hn' : (2 : Int) ^ 52 ≤ n := by exact_mod_cast hn
    calc (2 : Int) ^ 53 = 2 ^ 52 * (2 * 1) := by decide
      _ ≤ (n : Int) * (2 * 2 ^ k) := Int.mul_le_mul hn' (by omega) (by omega) (by omega)
  have ha1 : a * 2 ^ q < 2 ^ 53 * 2 ^ q := Int.mul_lt_mul_of_pos_right h2 hq
  have ha2 : -(2 ^ 53 * 2 ^ q) < a * 2 ^ q := by rw [← Int.neg_mul]; exact Int.mul_lt_mul_of_pos_right h1 hq
  congr 1
  cases s
  · simp only [signed, Bool.false_eq_true, if_false, Nat.shiftLeft_zero, compare, compareOfLessAndEq]
    rw [if_pos (by omega)]
  · simp only [signed, if_true, Nat.shiftLeft_zero, compare, compareOfLessAndEq, Int.neg_mul]
    rw [if_neg (by omega), if_neg (by omega)]

theorem cut_none (neg : Bool) (n : Nat) : Toward.even.cut neg n 0 = n := by
  simp [Toward.cut, Nat.mod_one]

/-- What a word stands for whose rung is e binades up. -/
theorem read_normal (e f : Nat) (s : Bool) (he1 : 1 ≤ e) (he2 : e < 2047) (hf : f < 2 ^ 52) :
    double.read (double.word s (e * 2 ^ 52 + f)) = .number s (2 ^ 52 + f) ((e : Int) - 1075) := by
  have hr : e * 2 ^ 52 + f < 2 ^ 63 := by omega
  have hmod : (double.word s (e * 2 ^ 52 + f)) % double.signWeight = e * 2 ^ 52 + f := by
    cases s <;> simp [Format.word, Format.signWeight, double] <;> omega
  have hdiv : (double.word s (e * 2 ^ 52 + f)) / double.signWeight % 2 = s.toNat := by
    cases s <;> simp [Format.word, Format.signWeight, double] <;> omega
  unfold Format.read
  simp only [hmod, hdiv]
  have hb : double.binade = 2 ^ 52 := rfl
  have hi : double.infRung = 2047 * 2 ^ 52 := rfl
  have hl : double.leastPlace = -1074 := by decide
  rw [hb, hi, hl, if_neg (by omega), if_pos (by omega)]
  have h1 : (e * 2 ^ 52 + f) % 2 ^ 52 = f := by omega
  have h2 : (e * 2 ^ 52 + f) / 2 ^ 52 = e := by omega
  rw [h1, h2]
  have h3 : (-1074 : Int) + ((e - 1 : Nat) : Int) = (e : Int) - 1075 := by omega
  rw [h3]
  cases s <;> rfl

theorem rung_eq (B L v f : Nat) (hv : v = B + f) (hf : f < B) (hL : L + 1024 ≤ 2047) : min ((L + 1022) * B + v) (2047 * B) = (L + 1023) * B + f := by
  have e1 : (L + 1023) * B = (L + 1022) * B + B := by rw [show L + 1023 = (L + 1022) + 1 from rfl, Nat.add_mul (L + 1022), Nat.one_mul]
  have e2 : (L + 1024) * B ≤ 2047 * B := Nat.mul_le_mul_right _ hL
  have e3 : (L + 1024) * B = (L + 1023) * B + B := by rw [show L + 1024 = (L + 1023) + 1 from rfl, Nat.add_mul (L + 1023), Nat.one_mul]
  generalize (L + 1022) * B = X at *
  generalize (L + 1023) * B = Y at *
  generalize (L + 1024) * B = Z at *
  generalize 2047 * B = W at *
  omega

theorem log2_bounds (n : Nat) (h : 0 < n) : 2 ^ n.log2 ≤ n ∧ n < 2 ^ (n.log2 + 1) :=
  ⟨Nat.log2_self_le (by omega), Nat.lt_log2_self⟩

/-- The float nearest to a whole number below 2^53 is that number. -/
theorem nearest_int (s : Bool) (n : Nat) (h : n < 2 ^ 53) : IsInt (double.read (double.nearest s n 0)) (if s then -(n : Int) else n) := by
  by_cases h0 : n = 0
  · subst h0
    cases s
    · have h0 : ∀ z : Int, signed false 0 0 = 0 * z := fun z => by rw [Int.zero_mul]; rfl
      exact ⟨false, 0, -1074, by decide, by omega, h0 _⟩
    · have h0 : ∀ z : Int, signed true 0 0 = -((0 : Nat) : Int) * z := fun z => by rw [show (-((0 : Nat) : Int)) = 0 from rfl, Int.zero_mul]; rfl
      exact ⟨true, 0, -1074, by decide, by omega, h0 _⟩
  · obtain ⟨hl1, hl2⟩ := log2_bounds n (by omega)
    have hL : n.log2 ≤ 52 := by
      have := (Nat.log2_lt (by omega : n ≠ 0)).2 h
      omega
    have hlast : max ((0 : Int) + n.log2 - double.fractionBits) double.leastPlace = (n.log2 : Int) - 52 := by
      have : double.leastPlace = -1074 := by decide
      have h2 : (double.fractionBits : Int) = 52 := rfl
      rw [this, h2]; omega
    unfold Format.nearest
    rw [if_neg h0, hlast]
    generalize n.log2 = L at *
    have hk : ((L : Int) - 52 - 0).toNat = 0 := by omega
    have hs : (0 - ((L : Int) - 52)).toNat = 52 - L := by omega
    have hm : ((L : Int) - 52 - double.leastPlace).toNat = L + 1022 := by
      have : double.leastPlace = -1074 := by decide
      rw [this]; omega
    dsimp only
    rw [hk, hs, cut_none, hm, Nat.shiftLeft_eq]
    have hb : double.binade = 2 ^ 52 := rfl
    have hi : double.infRung = 2047 * 2 ^ 52 := rfl
    rw [hb, hi]
    have hlo : 2 ^ 52 ≤ n * 2 ^ (52 - L) := by
      calc 2 ^ 52 = 2 ^ L * 2 ^ (52 - L) := by rw [← Nat.pow_add]; congr 1; omega
        _ ≤ n * 2 ^ (52 - L) := Nat.mul_le_mul_right _ hl1
    have hhi : n * 2 ^ (52 - L) < 2 ^ 53 := by
      calc n * 2 ^ (52 - L) < 2 ^ (L + 1) * 2 ^ (52 - L) := Nat.mul_lt_mul_of_pos_right hl2 (Nat.two_pow_pos _)
        _ = 2 ^ 53 := by rw [← Nat.pow_add]; congr 1; omega
    obtain ⟨f, hf⟩ : ∃ f, n * 2 ^ (52 - L) = 2 ^ 52 + f := ⟨n * 2 ^ (52 - L) - 2 ^ 52, by omega⟩
    have hf52 : f < 2 ^ 52 := by omega
    rw [rung_eq (2 ^ 52) L _ f hf hf52 (by omega), read_normal _ _ _ (by omega) (by omega) hf52, ← hf]
    clear hf hf52 hlo hhi
    refine ⟨s, _, _, rfl, by omega, ?_⟩
    have hp : (-(((L + 1023 : Nat) : Int) - 1075)).toNat = 52 - L := by omega
    rw [hp]
    unfold signed
    cases s <;> simp [Int.neg_mul]

/-- The float nearest to a greater one of 64 bits is far from 0. -/
theorem nearest_far (s : Bool) (n : Nat) (h : 2 ^ 53 ≤ n) (h2 : n < 2 ^ 64) : IsFar (double.read (double.nearest s n 0)) s := by
  obtain ⟨hl1, hl2⟩ := log2_bounds n (by omega)
  have hL : 53 ≤ n.log2 := by
    have := (Nat.le_log2 (by omega : n ≠ 0)).2 h
    omega
  have hL2 : n.log2 ≤ 63 := by
    have := (Nat.log2_lt (by omega : n ≠ 0)).2 h2
    omega
  have hlast : max ((0 : Int) + n.log2 - double.fractionBits) double.leastPlace = (n.log2 : Int) - 52 := by
    have : double.leastPlace = -1074 := by decide
    have h2 : (double.fractionBits : Int) = 52 := rfl
    rw [this, h2]; omega
  unfold Format.nearest
  rw [if_neg (by omega), hlast]
  generalize hLL : n.log2 = L at *
  have hk : ((L : Int) - 52 - 0).toNat = L - 52 := by omega
  have hs : (0 - ((L : Int) - 52)).toNat = 0 := by omega
  have hm : ((L : Int) - 52 - double.leastPlace).toNat = L + 1022 := by
    have : double.leastPlace = -1074 := by decide
    rw [this]; omega
  dsimp only
  rw [hk, hs, hm, Nat.shiftLeft_zero]
  have hb : double.binade = 2 ^ 52 := rfl
  have hi : double.infRung = 2047 * 2 ^ 52 := rfl
  rw [hb, hi]
  have hlow : 2 ^ 52 ≤ n / 2 ^ (L - 52) := by
    rw [Nat.le_div_iff_mul_le (Nat.two_pow_pos _), ← Nat.pow_add]
    calc 2 ^ (52 + (L - 52)) = 2 ^ L := by congr 1; omega
      _ ≤ n := hl1
  have hlow2 : n / 2 ^ (L - 52) < 2 ^ 53 := by
    rw [Nat.div_lt_iff_lt_mul (Nat.two_pow_pos _), ← Nat.pow_add]
    calc n < 2 ^ (L + 1) := hl2
      _ = 2 ^ (53 + (L - 52)) := by congr 1; omega
  have hcut : ∃ c, Toward.even.cut s n (L - 52) = n / 2 ^ (L - 52) + c ∧ c ≤ 1 := by
    unfold Toward.cut
    have hmin : min (L - 52) (n.log2 + 2) = L - 52 := by omega
    simp only [hmin, Nat.shiftLeft_eq, Nat.one_mul]
    exact ⟨_, rfl, Bool.toNat_le _⟩
  obtain ⟨c, hc, hc1⟩ := hcut
  rw [hc]
  generalize n / 2 ^ (L - 52) = q at *
  by_cases hq : q + c = 2 ^ 53
  · have hq2 : q + c = 2 ^ 52 + 2 ^ 52 := by omega
    have hrung : min ((L + 1022) * 2 ^ 52 + (q + c)) (2047 * 2 ^ 52) = (L + 1024) * 2 ^ 52 + 0 := by
      rw [hq2]
      generalize 2 ^ 52 = B
      have e1 : (L + 1024) * B = (L + 1022) * B + (B + B) := by rw [show L + 1024 = (L + 1022) + 2 from rfl, Nat.add_mul (L + 1022), Nat.two_mul]
      have e2 : (L + 1024) * B ≤ 2047 * B := Nat.mul_le_mul_right _ (by omega)
      generalize (L + 1022) * B = X at *
      generalize (L + 1024) * B = Z at *
      generalize 2047 * B = W at *
      omega
    rw [hrung, read_normal _ _ _ (by omega) (by omega) (Nat.two_pow_pos _)]
    exact ⟨_, _, rfl, by omega, Nat.le_add_right _ _⟩
  · obtain ⟨f, hf⟩ : ∃ f, q + c = 2 ^ 52 + f := ⟨q + c - 2 ^ 52, by omega⟩
    have hf52 : f < 2 ^ 52 := by omega
    rw [rung_eq (2 ^ 52) L _ f hf hf52 (by omega), read_normal _ _ _ (by omega) (by omega) hf52]
    exact ⟨_, _, rfl, by omega, Nat.le_add_right _ _⟩

theorem order_far' {d e : Datum} {a : Int} {s : Bool} (hd : IsFar d s) (he : IsInt e a) (h1 : -(2 ^ 53) < a) (h2 : a < 2 ^ 53) : d.order e = some (if s then .lt else .gt) := by
  have h := order_far he hd h1 h2
  obtain ⟨t, m, i, rfl, hi, hm⟩ := he
  obtain ⟨n, j, rfl, hj, hn⟩ := hd
  simp only [Datum.order] at h ⊢
  rw [show min j i = min i j from by omega]
  generalize signed t m (i - min i j).toNat = x at *
  generalize signed s n (j - min i j).toNat = y at *
  simp only [compare, compareOfLessAndEq, Option.some.injEq] at h ⊢
  cases s
  · simp only [Bool.false_eq_true, if_false] at h ⊢
    split at h
    · rw [if_neg (by omega), if_neg (by omega)]
    · split at h <;> cases h
  · simp only [if_true] at h ⊢
    split at h
    · cases h
    · split at h
      · cases h
      · rw [if_pos (by omega)]

/-- A word that is the whole number c, held against the float nearest to an int of 64 bits. -/
theorem order_nearest {bits : Nat} {c n : Int} (hb : IsInt (double.read bits) c) (h1 : -(2 ^ 53) < c) (h2 : c < 2 ^ 53) (hn1 : -(2 ^ 63) ≤ n) (hn2 : n < 2 ^ 63) :
    FloatKind.f64.format.order bits (floatOfInt .f64 n) = some (compare c n) := by
  have hf : FloatKind.f64.format = double := rfl
  have hfl : floatOfInt .f64 n = double.nearest (decide (n < 0)) n.natAbs 0 := rfl
  rw [hf, hfl]
  unfold Format.order
  by_cases hsm : n.natAbs < 2 ^ 53
  · have h := nearest_int (decide (n < 0)) n.natAbs hsm
    have hv : (if decide (n < 0) = true then -((n.natAbs : Nat) : Int) else n.natAbs) = n := by
      by_cases hneg : n < 0 <;> simp [hneg] <;> omega
    rw [hv] at h
    exact order_int hb h
  · have h := nearest_far (decide (n < 0)) n.natAbs (by omega) (by omega)
    rw [order_far hb h h1 h2]
    congr 1
    by_cases hneg : n < 0
    · simp only [hneg, decide_true, if_true, compare, compareOfLessAndEq]
      rw [if_neg (by omega), if_neg (by omega)]
    · simp only [hneg, decide_false, Bool.false_eq_true, if_false, compare, compareOfLessAndEq]
      rw [if_pos (by omega)]
theorem nearest_order {bits : Nat} {c n : Int} (hb : IsInt (double.read bits) c) (h1 : -(2 ^ 53) < c) (h2 : c < 2 ^ 53) (hn1 : -(2 ^ 63) ≤ n) (hn2 : n < 2 ^ 63) :
    FloatKind.f64.format.order (floatOfInt .f64 n) bits = some (compare n c) := by
  have hf : FloatKind.f64.format = double := rfl
  have hfl : floatOfInt .f64 n = double.nearest (decide (n < 0)) n.natAbs 0 := rfl
  rw [hf, hfl]
  unfold Format.order
  by_cases hsm : n.natAbs < 2 ^ 53
  · have h := nearest_int (decide (n < 0)) n.natAbs hsm
    have hv : (if decide (n < 0) = true then -((n.natAbs : Nat) : Int) else n.natAbs) = n := by
      by_cases hneg : n < 0 <;> simp [hneg] <;> omega
    rw [hv] at h
    exact order_int h hb
  · have h := nearest_far (decide (n < 0)) n.natAbs (by omega) (by omega)
    rw [order_far' h hb h1 h2]
    congr 1
    by_cases hneg : n < 0
    · simp only [hneg, decide_true, if_true, compare, compareOfLessAndEq]
      rw [if_pos (by omega)]
    · simp only [hneg, decide_false, Bool.false_eq_true, if_false, compare, compareOfLessAndEq]
      rw [if_neg (by omega), if_neg (by omega)]

open Go.RowKit
theorem toInt_of_isInt {d : Datum} {n : Nat} (h : IsInt d n) : d.toInt .zero = some (n : Int) := by
  obtain ⟨s, m, i, rfl, hi, hm⟩ := h
  have e0 : i.toNat = 0 := by omega
  have hz : n * 2 ^ (-i).toNat = m ∨ (m = 0 ∧ n = 0) := by
    cases s
    · left
      have h1 : signed false m 0 = (m : Int) := by simp [signed]
      rw [h1] at hm
      have : ((n * 2 ^ (-i).toNat : Nat) : Int) = (m : Int) := by rw [hm]; simp
      exact_mod_cast this
    · right
      have h1 : signed true m 0 = -(m : Int) := by simp [signed]
      rw [h1] at hm
      have hp : (0 : Int) < 2 ^ (-i).toNat := Int.pow_pos (by omega)
      have h2 : (0 : Int) ≤ (n : Int) * 2 ^ (-i).toNat := Int.mul_nonneg (by omega) (by omega)
      have hm0 : m = 0 := by omega
      refine ⟨hm0, ?_⟩
      have h3 : (n : Int) * 2 ^ (-i).toNat = 0 := by omega
      rcases Int.mul_eq_zero.1 h3 with h | h <;> omega
  have hcut : Toward.zero.cut s m (-i).toNat = n := by
    unfold Toward.cut
    simp only [Bool.toNat_false, Nat.add_zero]
    rcases hz with h | ⟨h1, h2⟩
    · rcases Nat.eq_zero_or_pos n with h0 | h0
      · subst h0
        rw [Nat.zero_mul] at h
        rw [← h, Nat.zero_div]
      · have hpow : 2 ^ (-i).toNat ≤ m := by rw [← h]; exact Nat.le_mul_of_pos_left _ h0
        have hm0 : m ≠ 0 := by have := Nat.one_le_two_pow (n := (-i).toNat); omega
        have hlog : (-i).toNat ≤ m.log2 := (Nat.le_log2 hm0).2 hpow
        rw [Nat.min_eq_left (by omega), Nat.one_shiftLeft, ← h]
        exact Nat.mul_div_cancel _ (Nat.two_pow_pos _)
    · rw [h1, h2, Nat.zero_div]
  show (match Datum.integral .zero (.number s m i) with | .number s m _ => some (signed s m 0) | _ => none) = _
  simp only [Datum.integral, e0, Nat.shiftLeft_zero, hcut]
  rcases hz with h | ⟨h1, h2⟩
  · cases s
    · simp [signed]
    · have h1 : signed true m 0 = -(m : Int) := by simp [signed]
      rw [h1] at hm
      have hp : (0 : Int) < 2 ^ (-i).toNat := Int.pow_pos (by omega)
      have h2 : (0 : Int) ≤ (n : Int) * 2 ^ (-i).toNat := Int.mul_nonneg (by omega) (by omega)
      have h3 : (n : Int) * 2 ^ (-i).toNat = 0 := by omega
      rcases Int.mul_eq_zero.1 h3 with h | h
      · have : n = 0 := by omega
        subst this
        simp [signed]
      · omega
  · rw [h2]
    cases s <;> simp [signed]

/-- The word of a whole number. -/
def flN (n : Nat) : Nat := floatOfInt .f64 (n : Nat)
theorem float_back {n : Nat} (h : n < 2 ^ 53) : floatToIntVal .f64 (flN n) .i64 = some (n : Int) := by
  have hfl : flN n = double.nearest false n 0 := by
    have h1 : flN n = double.nearest (decide ((n : Int) < 0)) (n : Int).natAbs 0 := rfl
    rw [h1, decide_eq_false (by omega), Int.natAbs_natCast]
  have hd : (FloatKind.f64.decode (flN n)).toInt .zero = some (n : Int) := by
    rw [hfl]
    have := nearest_int false n h
    simp only [Bool.false_eq_true, if_false] at this
    exact toInt_of_isInt this
  unfold floatToIntVal
  rw [hd]
  have e1 : IntKind.i64.min = -(2 ^ 63) := by decide
  have e2 : IntKind.i64.max = 2 ^ 63 - 1 := by decide
  simp only [e1, e2]
  rw [if_pos (by omega)]

theorem infoInt : (Tryz.prog.info? 3).map (fun i => (i.zero, i.size, i.bytes)) = some (some (.int .i64 0), 1, 8) := by kernel_rfl
theorem infoByte : (Tryz.prog.info? 5).map (fun i => (i.zero, i.size, i.bytes)) = some (some (.int .u8 0), 1, 1) := by kernel_rfl
theorem infoString : (Tryz.prog.info? 9).map (fun i => (i.zero, i.size, i.bytes)) = some (some (.string ⟨#[]⟩), 1, 16) := by kernel_rfl
end Go.Proofs.YtnpbbmoknlbfaaaGreatDoor
