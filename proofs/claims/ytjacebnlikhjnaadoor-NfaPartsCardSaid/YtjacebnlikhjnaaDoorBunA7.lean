/- Right, Has, Not; how many classes. each: the function that goes through a set's classes; what Collect makes of it; Classes. Whole numbers as floats, there and back; what the program's types are. Collect over the classes of a set; Classes. Items in memory; rows of items that the call owns. Sets of states: setOf, has, each. How many digits a number has; each: the states of a set, gone through. -/
import Derived.Test.YtjacebnlikhjnaaDoorBunA6
import Derived.Test.YtjacebnlikhjnaaDoorBunA1
import Derived.Test.YtjacebnlikhjnaaDoorProg
import Derived.Laws.Cover2
import Derived.Laws.FloatArith
import Derived.IntWalk
import Derived.Maps.AppendAt
import Derived.Deep.MidRow
import Derived.Test.YtjacebnlikhjnaaDoorBunA5
import Derived.Test.YtjacebnlikhjnaaDoorShelf
namespace Go.Proofs.YtjacebnlikhjnaaDoor
open Go.RowKit Go.Shelf
attribute [local go_sem] Oper.semAt_some

set_option maxHeartbeats 1000000 in
theorem Right_anyK (s n : Int) (w : World) : Calls Tryd.prog 42 #[.int .i64 s, .int .i64 n] w fun e w' => e = .returned (.bool (rightZ s n)) ∧ Below w.heap.size w w' := by
  have H := Lib.hid (fun W => right_anyK s n W)
  go_enter Tryd.func42, Tryd.ntmps42
  go_wp2_with fail
  refine (H.out _).mono ?_
  rintro e w2 ⟨rfl, b2⟩
  go_wp2
  go_ret
  exact ⟨rfl, b2⟩
set_option maxHeartbeats 1000000 in
theorem Has_anyK (s c : Int) (w : World) : Calls Tryd.prog 82 #[.int .i64 s, .int .i64 c] w fun e w' => e = .returned (.bool (hasZ s c)) ∧ Below w.heap.size w w' := by
  have H := Lib.hid (fun W => right_anyK s 32 W)
  cases hr : rightZ s 32 with
  | true =>
    obtain ⟨x, m, rfl, hm, _, _, hx⟩ := rightZ_of hr
    have h32 : m = 32 := by omega
    subst h32
    have K : Hid (∀ W, Calls Tryd.prog 84 #[.agg #[.int .i64 (x : Nat), .int .i64 32], .int .i64 c] W fun e w' => e = .returned (.bool (decide (0 ≤ c ∧ c < 32) && x.testBit c.toNat)) ∧ Below W.heap.size W w') := Lib.hid (fun W => has_anyK x 32 hx (by omega) c W)
    rw [hasZ_nat hx]
    rw [hr] at H
    obtain ⟨b, hb⟩ : ∃ b, (decide (0 ≤ c ∧ c < 32) && x.testBit c.toNat) = b := ⟨_, rfl⟩
    rw [hb] at K ⊢
    clear hr hx hb hm
    have A0 : Below w.heap.size w (w.alloc (.cells #[.int .i64 ((x : Nat) : Int), .int .i64 32] 86)) := (Below.refl _ _).alloc (Nat.le_refl _) _
    have r0 : (w.alloc (.cells #[.int .i64 ((x : Nat) : Int), .int .i64 32] 86)).heap[w.heap.size]? = some (.cells #[.int .i64 ((x : Nat) : Int), .int .i64 32] 86 (0, 0)) := heap_alloc_new _ _
    have HA := Lib.hid A0
    have R0 := Lib.hid r0
    clear A0 r0
    go_enter Tryd.func82, Tryd.ntmps82
    go_wp2_with fail
    refine (H.out _).mono ?_
    rintro e w2 ⟨rfl, b2⟩
    have r2 := row_below R0.out b2
    have B2 := Lib.hid (HA.out.trans (b2.mono HA.out.size))
    obtain ⟨k0, k1⟩ := row_cells r2
    clear b2 r2
    go_wp2_with fail
    refine (K.out _).mono ?_
    rintro e w3 ⟨rfl, b3⟩
    go_wp2
    go_ret
    exact ⟨rfl, B2.out.trans (b3.mono B2.out.size)⟩
  | false =>
    rw [hr] at H
    have e0 : hasZ s c = false := by unfold hasZ; rw [hr]; rfl
    rw [e0]
    have A0 : Below w.heap.size w (w.alloc (.cells #[.int .i64 s, .int .i64 32] 86)) := (Below.refl _ _).alloc (Nat.le_refl _) _
    have HA := Lib.hid A0
    clear A0 e0 hr
    go_enter Tryd.func82, Tryd.ntmps82
    go_wp2_with fail
    refine (H.out _).mono ?_
    rintro e w2 ⟨rfl, b2⟩
    go_wp2
    go_ret
    exact ⟨rfl, HA.out.trans (b2.mono HA.out.size)⟩
theorem andU {a b : Nat} (ha : a < 2 ^ 63) (hb : b < 2 ^ 63) : bits .and .u64 ((a : Nat) : Int) ((b : Nat) : Int) = ((a &&& b : Nat) : Int) :=
  (bits_nat .u64 63 (by decide) (fun n h0 h1 => by rw [IntKind.wrap_u64]; omega) a b ha hb).1
theorem wrapU {n : Nat} (h : n < 2 ^ 63) : IntKind.u64.wrap ((n : Nat) : Int) = ((n : Nat) : Int) := by rw [IntKind.wrap_u64]; omega
theorem and127 {n : Nat} (h : n < 2 ^ 32) : bits .and .i64 ((n : Nat) : Int) 127 = ((n % 128 : Nat) : Int) := by
  have := bits_mask .i64 32 (by decide) (fun n h0 h1 => by rw [IntKind.wrap_i64]; omega) 7 (by decide) ((n : Nat) : Int) (Int.natCast_nonneg _) (by exact_mod_cast h)
  rw [show ((2 : Int) ^ 7 - 1) = 127 from rfl] at this
  rw [this]
  simp
theorem wrapI {n : Nat} (h : n < 2 ^ 32) : IntKind.i64.wrap ((n : Nat) : Int) = ((n : Nat) : Int) := by rw [IntKind.wrap_i64]; omega
theorem wrapW {n : Nat} (h : n < 2 ^ 32) : wrap64 ((n : Nat) : Int) = ((n : Nat) : Int) := by unfold wrap64; omega
theorem lt63 {n : Nat} (h : n < 2 ^ 32) : n < 2 ^ 63 := Nat.lt_trans h (by decide)
theorem half_lt {n m : Nat} (h : n < 2 ^ 32) : n / m < 2 ^ 63 := lt63 (Nat.lt_of_le_of_lt (Nat.div_le_self _ _) h)
theorem castA {a b c : Nat} (h : a + b = c) : ((a : Nat) : Int) + ((b : Nat) : Int) = ((c : Nat) : Int) := by omega
theorem cast16 {a c : Nat} (h : a / 16 + a = c) : ((a : Nat) : Int) / 16 + ((a : Nat) : Int) = ((c : Nat) : Int) := by omega
theorem cast256 {a c : Nat} (h : c = a + a / 256) : ((a : Nat) : Int) + ((a : Nat) : Int) / 256 = ((c : Nat) : Int) := by omega
theorem cast65536 {a c : Nat} (h : c = a + a / 65536) : ((a : Nat) : Int) + ((a : Nat) : Int) / 65536 = ((c : Nat) : Int) := by omega
theorem castTop {a : Nat} (h : a / 2 ^ 32 = 0) : ((a : Nat) : Int) + ((a : Nat) : Int) / 4294967296 = ((a : Nat) : Int) := by omega
theorem litA : ((mA : Nat) : Int) = 6148914691236517205 := by decide
theorem litB : ((mB : Nat) : Int) = 3689348814741910323 := by decide
theorem litC2 : ((mC : Nat) : Int) = 1085102592571150095 := by decide
theorem andA {x : Nat} (h : x < 2 ^ 63) : bits .and .u64 ((x : Nat) : Int) 6148914691236517205 = ((x &&& mA : Nat) : Int) := by rw [← litA]; exact andU h (by decide)
theorem andB {x : Nat} (h : x < 2 ^ 63) : bits .and .u64 ((x : Nat) : Int) 3689348814741910323 = ((x &&& mB : Nat) : Int) := by rw [← litB]; exact andU h (by decide)
theorem andC {x : Nat} (h : x < 2 ^ 63) : bits .and .u64 ((x : Nat) : Int) 1085102592571150095 = ((x &&& mC : Nat) : Int) := by rw [← litC2]; exact andU h (by decide)
end Go.Proofs.YtjacebnlikhjnaaDoor

namespace Go.Proofs.YtjacebnlikhjnaaDoor
open Go.RowKit Go.Shelf
attribute [local go_sem] Oper.semAt_some

abbrev encC (c : Nat) : Array Value := #[.int .i64 (c : Nat)]
theorem classesN_prefix {x : Nat} : ∀ {j n : Nat}, j ≤ n → classesN j x <+: classesN n x := by
  intro j n h
  obtain ⟨k, rfl⟩ := Nat.exists_eq_add_of_le h
  clear h
  induction k with
  | zero => exact List.prefix_rfl
  | succ k ih => rw [← Nat.add_assoc, classesN_snoc]; exact ih.trans (List.prefix_append _ _)
theorem classesN_one {x j n : Nat} (hj : j < n) (h : x.testBit j = true) : classesN j x ++ [j] <+: classesN n x := by
  have := classesN_prefix (x := x) (show j + 1 ≤ n by omega)
  rwa [classesN_snoc, if_pos h] at this
end Go.Proofs.YtjacebnlikhjnaaDoor

namespace Go.Proofs.YtjacebnlikhjnaaDoor
open Ieee
/-- d is the whole number n, written with a place that is not above 0. -/
def IsInt (d : Datum) (n : Int) : Prop := ∃ s m i, d = .number s m i ∧ i ≤ 0 ∧ signed s m 0 = n * 2 ^ (-i).toNat
/-- d is a number at least 2^53 away from 0, of the sign s. -/
def IsFar (d : Datum) (s : Bool) : Prop := ∃ m i, d = .number s m i ∧ 1 ≤ i ∧ 2 ^ 52 ≤ m

theorem signed_shift (s : Bool) (m k : Nat) : signed s m k = signed s m 0 * 2 ^ k := by
  unfold signed
  cases s <;> simp [Nat.shiftLeft_eq, Int.neg_mul]

theorem order_int {d e : Datum} {a b : Int} (hd : IsInt d a) (he : IsInt e b) : d.order e = some (compare a b) := by
  obtain ⟨s, m, i, rfl, hi, hm⟩ := hd
  obtain ⟨t, n, j, rfl, hj, hn⟩ := he
  simp only [Datum.order]
  rw [signed_shift s, signed_shift t, hm, hn, Int.mul_assoc, Int.mul_assoc, ← Int.pow_add, ← Int.pow_add]
  have e1 : (-i).toNat + (i - min i j).toNat = (- min i j).toNat := by omega
  have e2 : (-j).toNat + (j - min i j).toNat = (- min i j).toNat := by omega
  rw [e1, e2]
  have hp : (0 : Int) < 2 ^ (- min i j).toNat := Int.pow_pos (by omega)
  congr 1
  simp only [compare, compareOfLessAndEq]
  have h1 : (a * 2 ^ (- min i j).toNat < b * 2 ^ (- min i j).toNat) ↔ a < b := Int.mul_lt_mul_right hp
  have h2 : (a * 2 ^ (- min i j).toNat = b * 2 ^ (- min i j).toNat) ↔ a = b := ⟨fun h => Int.eq_of_mul_eq_mul_right (by omega) h, fun h => by rw [h]⟩
  simp only [h1, h2]

theorem pow52_le (k : Nat) : 1 ≤ 2 ^ k := Nat.one_le_two_pow

theorem order_far {d e : Datum} {a : Int} {s : Bool} (hd : IsInt d a) (he : IsFar e s) (h1 : -(2 ^ 53) < a) (h2 : a < 2 ^ 53) : d.order e = some (if s then .gt else .lt) := by
  obtain ⟨t, m, i, rfl, hi, hm⟩ := hd
  obtain ⟨n, j, rfl, hj, hn⟩ := he
  simp only [Datum.order]
  have hb : min i j = i := by omega
  rw [hb, signed_shift t, signed_shift s, hm]
  have e0 : (i - i).toNat = 0 := by omega
  rw [e0, Int.pow_zero, Int.mul_one]
  obtain ⟨k, hk⟩ : ∃ k : Nat, (j - i).toNat = (-i).toNat + 1 + k := ⟨(j - i).toNat - (-i).toNat - 1, by omega⟩
  rw [hk]
  generalize (-i).toNat = q
  have hq : (0 : Int) < 2 ^ q := Int.pow_pos (by omega)
  have hkk : (1 : Int) ≤ 2 ^ k := by have := pow52_le k; exact_mod_cast this
  have hbig : (2 : Int) ^ 53 * 2 ^ q ≤ (n : Int) * 2 ^ (q + 1 + k) := by
    have e : (2 : Int) ^ (q + 1 + k) = 2 * 2 ^ k * 2 ^ q := by rw [Int.pow_add, Int.pow_add]; simp [Int.mul_comm, Int.mul_left_comm, Int.mul_assoc]
    rw [e, ← Int.mul_assoc]
    refine Int.mul_le_mul_of_nonneg_right ?_ (by omega)
    have hn' : (2 : Int) ^ 52 ≤ n := by exact_mod_cast hn
    calc (2 : Int) ^ 53 = 2 ^ 52 * (2 * 1) := by decide
      _ ≤ (n : Int) * (2 * 2 ^ k) := Int.mul_le_mul hn' (by omega) (by omega) (by omega)
  have ha1 : a * 2 ^ q < 2 ^ 53 * 2 ^ q := Int.mul_lt_mul_of_pos_right h2 hq
  have ha2 : -(2 ^ 53 * 2 ^ q) < a * 2 ^ q := by rw [← Int.neg_mul]; exact Int.mul_lt_mul_of_pos_right h1 hq
  congr 1
  cases s
  · simp only [signed, Bool.false_eq_true, if_false, Nat.shiftLeft_zero, compare, compareOfLessAndEq]
    rw [if_pos (by omega)]
  · simp only [signed, if_true, Nat.shiftLeft_zero, compare, compareOfLessAndEq, Int.neg_mul]
    rw [if_neg (by omega), if_neg (by omega)]

theorem cut_none (neg : Bool) (n : Nat) : Toward.even.cut neg n 0 = n := by
  simp [Toward.cut, Nat.mod_one]

/-- What a word stands for whose rung is e binades up. -/
theorem read_normal (e f : Nat) (s : Bool) (he1 : 1 ≤ e) (he2 : e < 2047) (hf : f < 2 ^ 52) :
    double.read (double.word s (e * 2 ^ 52 + f)) = .number s (2 ^ 52 + f) ((e : Int) - 1075) := by
  have hr : e * 2 ^ 52 + f < 2 ^ 63 := by omega
  have hmod : (double.word s (e * 2 ^ 52 + f)) % double.signWeight = e * 2 ^ 52 + f := by
    cases s <;> simp [Format.word, Format.signWeight, double] <;> omega
  have hdiv : (double.word s (e * 2 ^ 52 + f)) / double.signWeight % 2 = s.toNat := by
    cases s <;> simp [Format.word, Format.signWeight, double] <;> omega
  unfold Format.read
  simp only [hmod, hdiv]
  have hb : double.binade = 2 ^ 52 := rfl
  have hi : double.infRung = 2047 * 2 ^ 52 := rfl
  have hl : double.leastPlace = -1074 := by decide
  rw [hb, hi, hl, if_neg (by omega), if_pos (by omega)]
  have h1 : (e * 2 ^ 52 + f) % 2 ^ 52 = f := by omega
  have h2 : (e * 2 ^ 52 + f) / 2 ^ 52 = e := by omega
  rw [h1, h2]
  have h3 : (-1074 : Int) + ((e - 1 : Nat) : Int) = (e : Int) - 1075 := by omega
  rw [h3]
  cases s <;> rfl

theorem rung_eq (B L v f : Nat) (hv : v = B + f) (hf : f < B) (hL : L + 1024 ≤ 2047) : min ((L + 1022) * B + v) (2047 * B) = (L + 1023) * B + f := by
  have e1 : (L + 1023) * B = (L + 1022) * B + B := by rw [show L + 1023 = (L + 1022) + 1 from rfl, Nat.add_mul (L + 1022), Nat.one_mul]
  have e2 : (L + 1024) * B ≤ 2047 * B := Nat.mul_le_mul_right _ hL
  have e3 : (L + 1024) * B = (L + 1023) * B + B := by rw [show L + 1024 = (L + 1023) + 1 from rfl, Nat.add_mul (L + 1023), Nat.one_mul]
  generalize (L + 1022) * B = X at *
  generalize (L + 1023) * B = Y at *
  generalize (L + 1024) * B = Z at *
  generalize 2047 * B = W at *
  omega

theorem log2_bounds (n : Nat) (h : 0 < n) : 2 ^ n.log2 ≤ n ∧ n < 2 ^ (n.log2 + 1) :=
  ⟨Nat.log2_self_le (by omega), Nat.lt_log2_self⟩

/-- The float nearest to a whole number below 2^53 is that number. -/
theorem nearest_int (s : Bool) (n : Nat) (h : n < 2 ^ 53) : IsInt (double.read (double.nearest s n 0)) (if s then -(n : Int) else n) := by
  by_cases h0 : n = 0
  · subst h0
    cases s
    · have h0 : ∀ z : Int, signed false 0 0 = 0 * z := fun z => by rw [Int.zero_mul]; rfl
      exact ⟨false, 0, -1074, by decide, by omega, h0 _⟩
    · have h0 : ∀ z : Int, signed true 0 0 = -((0 : Nat) : Int) * z := fun z => by rw [show (-((0 : Nat) : Int)) = 0 from rfl, Int.zero_mul]; rfl
      exact ⟨true, 0, -1074, by decide, by omega, h0 _⟩
  · obtain ⟨hl1, hl2⟩ := log2_bounds n (by omega)
    have hL : n.log2 ≤ 52 := by
      have := (Nat.log2_lt (by omega : n ≠ 0)).2 h
      omega
    have hlast : max ((0 : Int) + n.log2 - double.fractionBits) double.leastPlace = (n.log2 : Int) - 52 := by
      have : double.leastPlace = -1074 := by decide
      have h2 : (double.fractionBits : Int) = 52 := rfl
      rw [this, h2]; omega
    unfold Format.nearest
    rw [if_neg h0, hlast]
    generalize n.log2 = L at *
    have hk : ((L : Int) - 52 - 0).toNat = 0 := by omega
    have hs : (0 - ((L : Int) - 52)).toNat = 52 - L := by omega
    have hm : ((L : Int) - 52 - double.leastPlace).toNat = L + 1022 := by
      have : double.leastPlace = -1074 := by decide
      rw [this]; omega
    dsimp only
    rw [hk, hs, cut_none, hm, Nat.shiftLeft_eq]
    have hb : double.binade = 2 ^ 52 := rfl
    have hi : double.infRung = 2047 * 2 ^ 52 := rfl
    rw [hb, hi]
    have hlo : 2 ^ 52 ≤ n * 2 ^ (52 - L) := by
      calc 2 ^ 52 = 2 ^ L * 2 ^ (52 - L) := by rw [← Nat.pow_add]; congr 1; omega
        _ ≤ n * 2 ^ (52 - L) := Nat.mul_le_mul_right _ hl1
    have hhi : n * 2 ^ (52 - L) < 2 ^ 53 := by
      calc n * 2 ^ (52 - L) < 2 ^ (L + 1) * 2 ^ (52 - L) := Nat.mul_lt_mul_of_pos_right hl2 (Nat.two_pow_pos _)
        _ = 2 ^ 53 := by rw [← Nat.pow_add]; congr 1; omega
    obtain ⟨f, hf⟩ : ∃ f, n * 2 ^ (52 - L) = 2 ^ 52 + f := ⟨n * 2 ^ (52 - L) - 2 ^ 52, by omega⟩
    have hf52 : f < 2 ^ 52 := by omega
    rw [rung_eq (2 ^ 52) L _ f hf hf52 (by omega), read_normal _ _ _ (by omega) (by omega) hf52, ← hf]
    clear hf hf52 hlo hhi
    refine ⟨s, _, _, rfl, by omega, ?_⟩
    have hp : (-(((L + 1023 : Nat) : Int) - 1075)).toNat = 52 - L := by omega
    rw [hp]
    unfold signed
    cases s <;> simp [Int.neg_mul]

/-- The float nearest to a greater one of 64 bits is far from 0. -/
theorem nearest_far (s : Bool) (n : Nat) (h : 2 ^ 53 ≤ n) (h2 : n < 2 ^ 64) : IsFar (double.read (double.nearest s n 0)) s := by
  obtain ⟨hl1, hl2⟩ := log2_bounds n (by omega)
  have hL : 53 ≤ n.log2 := by
    have := (Nat.le_log2 (by omega : n ≠ 0)).2 h
    omega
  have hL2 : n.log2 ≤ 63 := by
    have := (Nat.log2_lt (by omega : n ≠ 0)).2 h2
    omega
  have hlast : max ((0 : Int) + n.log2 - double.fractionBits) double.leastPlace = (n.log2 : Int) - 52 := by
    have : double.leastPlace = -1074 := by decide
    have h2 : (double.fractionBits : Int) = 52 := rfl
    rw [this, h2]; omega
  unfold Format.nearest
  rw [if_neg (by omega), hlast]
  generalize hLL : n.log2 = L at *
  have hk : ((L : Int) - 52 - 0).toNat = L - 52 := by omega
  have hs : (0 - ((L : Int) - 52)).toNat = 0 := by omega
  have hm : ((L : Int) - 52 - double.leastPlace).toNat = L + 1022 := by
    have : double.leastPlace = -1074 := by decide
    rw [this]; omega
  dsimp only
  rw [hk, hs, hm, Nat.shiftLeft_zero]
  have hb : double.binade = 2 ^ 52 := rfl
  have hi : double.infRung = 2047 * 2 ^ 52 := rfl
  rw [hb, hi]
  have hlow : 2 ^ 52 ≤ n / 2 ^ (L - 52) := by
    rw [Nat.le_div_iff_mul_le (Nat.two_pow_pos _), ← Nat.pow_add]
    calc 2 ^ (52 + (L - 52)) = 2 ^ L := by congr 1; omega
      _ ≤ n := hl1
  have hlow2 : n / 2 ^ (L - 52) < 2 ^ 53 := by
    rw [Nat.div_lt_iff_lt_mul (Nat.two_pow_pos _), ← Nat.pow_add]
    calc n < 2 ^ (L + 1) := hl2
      _ = 2 ^ (53 + (L - 52)) := by congr 1; omega
  have hcut : ∃ c, Toward.even.cut s n (L - 52) = n / 2 ^ (L - 52) + c ∧ c ≤ 1 := by
    unfold Toward.cut
    have hmin : min (L - 52) (n.log2 + 2) = L - 52 := by omega
    simp only [hmin, Nat.shiftLeft_eq, Nat.one_mul]
    exact ⟨_, rfl, Bool.toNat_le _⟩
  obtain ⟨c, hc, hc1⟩ := hcut
  rw [hc]
  generalize n / 2 ^ (L - 52) = q at *
  by_cases hq : q + c = 2 ^ 53
  · have hq2 : q + c = 2 ^ 52 + 2 ^ 52 := by omega
    have hrung : min ((L + 1022) * 2 ^ 52 + (q + c)) (2047 * 2 ^ 52) = (L + 1024) * 2 ^ 52 + 0 := by
      rw [hq2]
      generalize 2 ^ 52 = B
      have e1 : (L + 1024) * B = (L + 1022) * B + (B + B) := by rw [show L + 1024 = (L + 1022) + 2 from rfl, Nat.add_mul (L + 1022), Nat.two_mul]
      have e2 : (L + 1024) * B ≤ 2047 * B := Nat.mul_le_mul_right _ (by omega)
      generalize (L + 1022) * B = X at *
      generalize (L + 1024) * B = Z at *
      generalize 2047 * B = W at *
      omega
    rw [hrung, read_normal _ _ _ (by omega) (by omega) (Nat.two_pow_pos _)]
    exact ⟨_, _, rfl, by omega, Nat.le_add_right _ _⟩
  · obtain ⟨f, hf⟩ : ∃ f, q + c = 2 ^ 52 + f := ⟨q + c - 2 ^ 52, by omega⟩
    have hf52 : f < 2 ^ 52 := by omega
    rw [rung_eq (2 ^ 52) L _ f hf hf52 (by omega), read_normal _ _ _ (by omega) (by omega) hf52]
    exact ⟨_, _, rfl, by omega, Nat.le_add_right _ _⟩

theorem order_far' {d e : Datum} {a : Int} {s : Bool} (hd : IsFar d s) (he : IsInt e a) (h1 : -(2 ^ 53) < a) (h2 : a < 2 ^ 53) : d.order e = some (if s then .lt else .gt) := by
  have h := order_far he hd h1 h2
  obtain ⟨t, m, i, rfl, hi, hm⟩ := he
  obtain ⟨n, j, rfl, hj, hn⟩ := hd
  simp only [Datum.order] at h ⊢
  rw [show min j i = min i j from by omega]
  generalize signed t m (i - min i j).toNat = x at *
  generalize signed s n (j - min i j).toNat = y at *
  simp only [compare, compareOfLessAndEq, Option.some.injEq] at h ⊢
  cases s
  · simp only [Bool.false_eq_true, if_false] at h ⊢
    split at h
    · rw [if_neg (by omega), if_neg (by omega)]
    · split at h <;> cases h
  · simp only [if_true] at h ⊢
    split at h
    · cases h
    · split at h
      · cases h
      · rw [if_pos (by omega)]

/-- A word that is the whole number c, held against the float nearest to an int of 64 bits. -/
theorem order_nearest {bits : Nat} {c n : Int} (hb : IsInt (double.read bits) c) (h1 : -(2 ^ 53) < c) (h2 : c < 2 ^ 53) (hn1 : -(2 ^ 63) ≤ n) (hn2 : n < 2 ^ 63) :
    FloatKind.f64.format.order bits (floatOfInt .f64 n) = some (compare c n) := by
  have hf : FloatKind.f64.format = double := rfl
  have hfl : floatOfInt .f64 n = double.nearest (decide (n < 0)) n.natAbs 0 := rfl
  rw [hf, hfl]
  unfold Format.order
  by_cases hsm : n.natAbs < 2 ^ 53
  · have h := nearest_int (decide (n < 0)) n.natAbs hsm
    have hv : (if decide (n < 0) = true then -((n.natAbs : Nat) : Int) else n.natAbs) = n := by
      by_cases hneg : n < 0 <;> simp [hneg] <;> omega
    rw [hv] at h
    exact order_int hb h
  · have h := nearest_far (decide (n < 0)) n.natAbs (by omega) (by omega)
    rw [order_far hb h h1 h2]
    congr 1
    by_cases hneg : n < 0
    · simp only [hneg, decide_true, if_true, compare, compareOfLessAndEq]
      rw [if_neg (by omega), if_neg (by omega)]
    · simp only [hneg, decide_false, Bool.false_eq_true, if_false, compare, compareOfLessAndEq]
      rw [if_pos (by omega)]
theorem nearest_order {bits : Nat} {c n : Int} (hb : IsInt (double.read bits) c) (h1 : -(2 ^ 53) < c) (h2 : c < 2 ^ 53) (hn1 : -(2 ^ 63) ≤ n) (hn2 : n < 2 ^ 63) :
    FloatKind.f64.format.order (floatOfInt .f64 n) bits = some (compare n c) := by
  have hf : FloatKind.f64.format = double := rfl
  have hfl : floatOfInt .f64 n = double.nearest (decide (n < 0)) n.natAbs 0 := rfl
  rw [hf, hfl]
  unfold Format.order
  by_cases hsm : n.natAbs < 2 ^ 53
  · have h := nearest_int (decide (n < 0)) n.natAbs hsm
    have hv : (if decide (n < 0) = true then -((n.natAbs : Nat) : Int) else n.natAbs) = n := by
      by_cases hneg : n < 0 <;> simp [hneg] <;> omega
    rw [hv] at h
    exact order_int h hb
  · have h := nearest_far (decide (n < 0)) n.natAbs (by omega) (by omega)
    rw [order_far' h hb h1 h2]
    congr 1
    by_cases hneg : n < 0
    · simp only [hneg, decide_true, if_true, compare, compareOfLessAndEq]
      rw [if_pos (by omega)]
    · simp only [hneg, decide_false, Bool.false_eq_true, if_false, compare, compareOfLessAndEq]
      rw [if_neg (by omega), if_neg (by omega)]

open Go.RowKit
theorem toInt_of_isInt {d : Datum} {n : Nat} (h : IsInt d n) : d.toInt .zero = some (n : Int) := by
  obtain ⟨s, m, i, rfl, hi, hm⟩ := h
  have e0 : i.toNat = 0 := by omega
  have hz : n * 2 ^ (-i).toNat = m ∨ (m = 0 ∧ n = 0) := by
    cases s
    · left
      have h1 : signed false m 0 = (m : Int) := by simp [signed]
      rw [h1] at hm
      have : ((n * 2 ^ (-i).toNat : Nat) : Int) = (m : Int) := by rw [hm]; simp
      exact_mod_cast this
    · right
      have h1 : signed true m 0 = -(m : Int) := by simp [signed]
      rw [h1] at hm
      have hp : (0 : Int) < 2 ^ (-i).toNat := Int.pow_pos (by omega)
      have h2 : (0 : Int) ≤ (n : Int) * 2 ^ (-i).toNat := Int.mul_nonneg (by omega) (by omega)
      have hm0 : m = 0 := by omega
      refine ⟨hm0, ?_⟩
      have h3 : (n : Int) * 2 ^ (-i).toNat = 0 := by omega
      rcases Int.mul_eq_zero.1 h3 with h | h <;> omega
  have hcut : Toward.zero.cut s m (-i).toNat = n := by
    unfold Toward.cut
    simp only [Bool.toNat_false, Nat.add_zero]
    rcases hz with h | ⟨h1, h2⟩
    · rcases Nat.eq_zero_or_pos n with h0 | h0
      · subst h0
        rw [Nat.zero_mul] at h
        rw [← h, Nat.zero_div]
      · have hpow : 2 ^ (-i).toNat ≤ m := by rw [← h]; exact Nat.le_mul_of_pos_left _ h0
        have hm0 : m ≠ 0 := by have := Nat.one_le_two_pow (n := (-i).toNat); omega
        have hlog : (-i).toNat ≤ m.log2 := (Nat.le_log2 hm0).2 hpow
        rw [Nat.min_eq_left (by omega), Nat.one_shiftLeft, ← h]
        exact Nat.mul_div_cancel _ (Nat.two_pow_pos _)
    · rw [h1, h2, Nat.zero_div]
  show (match Datum.integral .zero (.number s m i) with | .number s m _ => some (signed s m 0) | _ => none) = _
  simp only [Datum.integral, e0, Nat.shiftLeft_zero, hcut]
  rcases hz with h | ⟨h1, h2⟩
  · cases s
    · simp [signed]
    · have h1 : signed true m 0 = -(m : Int) := by simp [signed]
      rw [h1] at hm
      have hp : (0 : Int) < 2 ^ (-i).toNat := Int.pow_pos (by omega)
      have h2 : (0 : Int) ≤ (n : Int) * 2 ^ (-i).toNat := Int.mul_nonneg (by omega) (by omega)
      have h3 : (n : Int) * 2 ^ (-i).toNat = 0 := by omega
      rcases Int.mul_eq_zero.1 h3 with h | h
      · have : n = 0 := by omega
        subst this
        simp [signed]
      · omega
  · rw [h2]
    cases s <;> simp [signed]

/-- The word of a whole number. -/
def flN (n : Nat) : Nat := floatOfInt .f64 (n : Nat)
theorem float_back {n : Nat} (h : n < 2 ^ 53) : floatToIntVal .f64 (flN n) .i64 = some (n : Int) := by
  have hfl : flN n = double.nearest false n 0 := by
    have h1 : flN n = double.nearest (decide ((n : Int) < 0)) (n : Int).natAbs 0 := rfl
    rw [h1, decide_eq_false (by omega), Int.natAbs_natCast]
  have hd : (FloatKind.f64.decode (flN n)).toInt .zero = some (n : Int) := by
    rw [hfl]
    have := nearest_int false n h
    simp only [Bool.false_eq_true, if_false] at this
    exact toInt_of_isInt this
  unfold floatToIntVal
  rw [hd]
  have e1 : IntKind.i64.min = -(2 ^ 63) := by decide
  have e2 : IntKind.i64.max = 2 ^ 63 - 1 := by decide
  simp only [e1, e2]
  rw [if_pos (by omega)]

theorem infoInt : (Tryd.prog.info? 3).map (fun i => (i.zero, i.size, i.bytes)) = some (some (.int .i64 0), 1, 8) := by kernel_rfl
theorem infoByte : (Tryd.prog.info? 5).map (fun i => (i.zero, i.size, i.bytes)) = some (some (.int .u8 0), 1, 1) := by kernel_rfl
theorem infoString : (Tryd.prog.info? 9).map (fun i => (i.zero, i.size, i.bytes)) = some (some (.string ⟨#[]⟩), 1, 16) := by kernel_rfl
end Go.Proofs.YtjacebnlikhjnaaDoor

namespace Go.Proofs.YtjacebnlikhjnaaDoor
open Go.RowKit Go.Shelf Go.Maps
attribute [local go_sem] Oper.semAt_some
attribute [local go_sem ↓] app_hide

theorem code_ownK {W : World} {base k : Nat} {v : Value} {xs : List Value} (q : Nat) (ho : W.ownsRow base 3 1 v k xs) (hk : k ≤ 2000000) (hbase : base ≤ W.heap.size) :
    ∃ g cap w6, (appSem #[34, 34] 34 #[v, .slice (some ⟨W.heap.size, 0, none⟩) 1 1]).run Tryd.prog (W.alloc (.cells #[.int .i64 (q : Nat)] 3)) = .ok (.slice (some ⟨g, 0, none⟩) (k + 1) cap) w6 ∧
      w6.ownsRow base 3 1 (.slice (some ⟨g, 0, none⟩) (k + 1) cap) (k + 1) (xs ++ [intC q]) ∧ (W.alloc (.cells #[.int .i64 (q : Nat)] 3)).grownBy w6 v.ownBlock := by
  obtain ⟨i0, hi, hz0, hz1, hz2⟩ := info_parts infoInt
  have hb : Below W.heap.size W (W.alloc (.cells #[.int .i64 (q : Nat)] 3)) := (Below.refl _ _).alloc (Nat.le_refl _) _
  obtain ⟨v', w6, hr, h2, h3, h4⟩ := run_append_own (P := Tryd.prog) _ base 34 34 3 i0 (.int .i64 0) 1 8 Tryd.underlying34 hi hz0 hz1 hz2 rfl (by decide) v k xs (own_below ho hb) ⟨W.heap.size, 0, none⟩ 1 1 [intC q] rfl
    (cell_one_new _ _ _) (by simp [Value.oneCell']) (by unfold maxLen; omega) (by omega) (by simp; omega)
  obtain ⟨g, cap, rfl⟩ := ownsRow_succ h2
  exact ⟨g, cap, w6, hr, h2, h3⟩
/-- What Collect answers of a set's classes: a row of its own. -/
def ColPost (l : List Nat) (w : World) (e : Ending) (w' : World) : Prop := ∃ v, e = .returned v ∧ w'.ownsRow w.heap.size 3 1 v l.length (l.map intC) ∧ Below w.heap.size w w'
theorem row_placeK {w : World} {base n cap : Nat} {o : Option Addr} {t : TypeId} {size : Nat} {cs : List Value} (ho : w.ownsRow base t size (.slice o n cap) n cs) (hn : 0 < n) : ∃ g, o = some ⟨g, 0, none⟩ ∧ ∀ i u, cs[i]? = some u → w.cell? ⟨g, i, none⟩ = some u := by
  rcases ho.2 with ⟨hv, h0⟩ | ⟨g, cap', cur, hv, _⟩
  · omega
  · cases hv
    refine ⟨g, rfl, fun i u hu => ?_⟩
    have := ho.cells (g := g) rfl i u hu
    have hadd : (⟨g, 0, none⟩ : Addr).add i = ⟨g, i, none⟩ := by unfold Addr.add; split <;> simp_all
    rwa [hadd] at this
/-- Where a list of numbers stands. -/
def NumsAt (w : World) (o : Option Addr) (l : List Int) : Prop := 0 < l.length → ∃ g off, o = some ⟨g, off, none⟩ ∧ ∀ (j : Nat) (x : Int), l[j]? = some x → w.cell? ⟨g, off + j, none⟩ = some (.int .i64 x)
theorem NumsAt.below {w w' : World} {o : Option Addr} {l : List Int} (h : NumsAt w o l) (hb : Below w.heap.size w w') : NumsAt w' o l := fun hn => by
  obtain ⟨g, off, ho, hc⟩ := h hn
  exact ⟨g, off, ho, fun j x hx => cell_keep hb (hc j x hx)⟩
theorem nums_own {w : World} {base cap : Nat} {o : Option Addr} {l : List Nat} (h : w.ownsRow base 3 1 (.slice o l.length cap) l.length (l.map intC)) : NumsAt w o (l.map fun c => ((c : Nat) : Int)) := fun hn => by
  rw [List.length_map] at hn
  obtain ⟨g, ho, hc⟩ := row_placeK h hn
  refine ⟨g, 0, ho, fun j x hx => ?_⟩
  rw [List.getElem?_map] at hx
  obtain ⟨y, hy, rfl⟩ := Option.map_eq_some_iff.1 hx
  have := hc j (intC y) (by rw [List.getElem?_map, hy]; rfl)
  rw [Nat.zero_add]
  exact this
end Go.Proofs.YtjacebnlikhjnaaDoor

namespace Go.Proofs.YtjacebnlikhjnaaDoor
open Go.RowKit Go.Shelf Go.Maps
attribute [local go_sem] Oper.semAt_some

abbrev itC (x : ItemP) : Array Value := #[.int .i64 x.1, .int .i64 x.2]
abbrev itV (x : ItemP) : Value := .agg (itC x)
abbrev itO (x : ItemP) : Obj := .cells (itC x) 48 (0, 0)
def cellsI (l : List ItemP) : List Value := l.flatMap fun x => [.int .i64 x.1, .int .i64 x.2]
/-- The block of an address. -/
def inQ (o : Option Addr) (k : Nat) : Prop := ∃ a, o = some a ∧ a.block = k
/-- Where items stand. -/
def AtI (w : World) (o : Option Addr) (l : List ItemP) : Prop := 0 < l.length → ∃ g off, o = some ⟨g, off, none⟩ ∧ ∀ (j : Nat) (x : ItemP), l[j]? = some x →
  w.cell? ⟨g, off + j * 2, none⟩ = some (.int .i64 x.1) ∧ w.cell? ⟨g, off + j * 2 + 1, none⟩ = some (.int .i64 x.2)
theorem cell_movesQ {S : Nat → Prop} {w w' : World} {a : Addr} {v : Value} (hm : Moves S w w') (hs : ¬ S a.block) (h : w.cell? a = some v) : w'.cell? a = some v := by
  have hb := hm.block _ (World.block_lt_of_cell? w _ h) hs
  unfold World.cell? at h ⊢
  rw [hb]
  exact h
theorem cell_keepQ {w w' : World} {a : Addr} {v : Value} (hb : Below w.heap.size w w') (h : w.cell? a = some v) : w'.cell? a = some v :=
  (hb.cell (World.block_lt_of_cell? w _ h)).trans h
theorem AtI.moves {S : Nat → Prop} {w w' : World} {o : Option Addr} {l : List ItemP} (h : AtI w o l) (hm : Moves S w w') (hs : 0 < l.length → ∀ k, inQ o k → ¬ S k) : AtI w' o l := fun hn => by
  obtain ⟨g, off, rfl, hc⟩ := h hn
  have hg : ¬ S g := hs hn g ⟨_, rfl, rfl⟩
  refine ⟨g, off, rfl, fun j x hx => ?_⟩
  obtain ⟨h0, h1⟩ := hc j x hx
  exact ⟨cell_movesQ hm hg h0, cell_movesQ hm hg h1⟩
theorem AtI.lt {w : World} {o : Option Addr} {l : List ItemP} (h : AtI w o l) (hn : 0 < l.length) {k : Nat} (hk : inQ o k) : k < w.heap.size := by
  obtain ⟨g, off, rfl, hc⟩ := h hn
  obtain ⟨a, ha, rfl⟩ := hk
  cases ha
  exact World.block_lt_of_cell? w _ (hc 0 _ (List.getElem?_eq_getElem hn)).1
theorem AtI.below {w w' : World} {o : Option Addr} {l : List ItemP} (h : AtI w o l) (hb : Below w.heap.size w w') : AtI w' o l := fun hn => by
  obtain ⟨g, off, ho, hc⟩ := h hn
  refine ⟨g, off, ho, fun j x hx => ?_⟩
  obtain ⟨h0, h1⟩ := hc j x hx
  exact ⟨cell_keepQ hb h0, cell_keepQ hb h1⟩
theorem AtI.take {w : World} {o : Option Addr} {l : List ItemP} (h : AtI w o l) (n : Nat) : AtI w o (l.take n) := fun hn => by
  obtain ⟨g, off, ho, hc⟩ := h (by rw [List.length_take] at hn; omega)
  refine ⟨g, off, ho, fun j x hx => hc j x ?_⟩
  rw [List.getElem?_take] at hx
  split at hx
  · exact hx
  · cases hx
theorem NumsAt.moves {S : Nat → Prop} {w w' : World} {o : Option Addr} {l : List Int} (h : NumsAt w o l) (hm : Moves S w w') (hs : 0 < l.length → ∀ k, inQ o k → ¬ S k) : NumsAt w' o l := fun hn => by
  obtain ⟨g, off, rfl, hc⟩ := h hn
  have hg : ¬ S g := hs hn g ⟨_, rfl, rfl⟩
  exact ⟨g, off, rfl, fun j x hx => cell_movesQ hm hg (hc j x hx)⟩
theorem NumsAt.ltQ {w : World} {o : Option Addr} {l : List Int} (h : NumsAt w o l) (hn : 0 < l.length) {k : Nat} (hk : inQ o k) : k < w.heap.size := by
  obtain ⟨g, off, rfl, hc⟩ := h hn
  obtain ⟨a, ha, rfl⟩ := hk
  cases ha
  exact World.block_lt_of_cell? w _ (hc 0 _ (List.getElem?_eq_getElem hn))
theorem it_cells {w : World} {k : Nat} {x : ItemP} (h : w.heap[k]? = some (itO x)) :
    w.cell? ⟨k, 0, none⟩ = some (.int .i64 x.1) ∧ w.cell? ⟨k, 1, none⟩ = some (.int .i64 x.2) := by
  refine ⟨?_, ?_⟩
  · rw [cell_of_row _ _ 0 _ _ _ h]; rfl
  · rw [cell_of_row _ _ 1 _ _ _ h]; rfl
theorem cellsI_append (a b : List ItemP) : cellsI (a ++ b) = cellsI a ++ cellsI b := by unfold cellsI; rw [List.flatMap_append]
theorem cellsI_length : ∀ l : List ItemP, (cellsI l).length = l.length * 2
  | [] => rfl
  | x :: l => by
    have := cellsI_length l
    unfold cellsI at this ⊢
    rw [List.flatMap_cons, List.length_append, this]
    simp
    omega
theorem cellsI_one' (l : List ItemP) : ∀ u ∈ cellsI l, u.oneCell' = true := by
  intro u hu
  unfold cellsI at hu
  obtain ⟨x, _, hu⟩ := List.mem_flatMap.1 hu
  simp only [List.mem_cons, List.not_mem_nil, or_false] at hu
  rcases hu with rfl | rfl <;> rfl
theorem cellsI_get : ∀ {l : List ItemP} {j : Nat} {x : ItemP}, l[j]? = some x → (cellsI l)[j * 2]? = some (.int .i64 x.1) ∧ (cellsI l)[j * 2 + 1]? = some (.int .i64 x.2)
  | [], j, x, h => by simp at h
  | y :: l, 0, x, h => by
    obtain rfl : y = x := by simpa using h
    exact ⟨rfl, rfl⟩
  | y :: l, j + 1, x, h => by
    have := cellsI_get (l := l) (j := j) (x := x) (by simpa using h)
    unfold cellsI at this ⊢
    rw [List.flatMap_cons]
    rw [show (j + 1) * 2 = j * 2 + 2 from by omega]
    simpa using this
theorem addr_atQ (g i : Nat) : (⟨g, 0, none⟩ : Addr).add i = ⟨g, i, none⟩ := by unfold Addr.add; split <;> simp_all
theorem infoIt : (Tryd.prog.info? 48).map (fun i => (i.zero, i.size, i.bytes)) = some (some (itV (0, 0)), 2, 16) := by kernel_rfl
/-- Of an own row each item is at its place. -/
theorem at_ownI {w : World} {base : Nat} {o : Option Addr} {l : List ItemP} {cap : Nat} (h : w.ownsRow base 48 2 (.slice o l.length cap) l.length (cellsI l)) : AtI w o l := fun hn => by
  rcases h.2 with ⟨_, h0⟩ | ⟨g, cap', cur, e, _, hg, _, _, _, htake⟩
  · omega
  · obtain ⟨rfl, rfl⟩ : o = some ⟨g, 0, none⟩ ∧ cap = cap' := by simpa using e
    have key : ∀ i u, (cellsI l)[i]? = some u → w.cell? ⟨g, i, none⟩ = some u := fun i u hu => by
      rw [cell_of_row _ _ i _ _ _ hg]
      rw [← htake, List.getElem?_take] at hu
      split at hu
      · rwa [Array.getElem?_toList] at hu
      · cases hu
    refine ⟨g, 0, rfl, fun j x hx => ?_⟩
    obtain ⟨h0, h1⟩ := cellsI_get hx
    rw [Nat.zero_add]
    exact ⟨key _ _ h0, key _ _ h1⟩
/-- append of one item. -/
theorem it_own {W : World} {base k : Nat} {v : Value} {xs : List Value} (x : ItemP) (ho : W.ownsRow base 48 2 v k xs) (hk : k ≤ 100000) (hbase : base ≤ W.heap.size) {e : Nat} (he : W.heap[e]? = some (itO x)) :
    ∃ g cap w6, (appSem #[22, 22] 22 #[v, .slice (some ⟨e, 0, none⟩) 1 1]).run Tryd.prog W = .ok (.slice (some ⟨g, 0, none⟩) (k + 1) cap) w6 ∧
      w6.ownsRow base 48 2 (.slice (some ⟨g, 0, none⟩) (k + 1) cap) (k + 1) (xs ++ cellsI [x]) ∧ W.grownBy w6 v.ownBlock ∧ (∀ j, (Value.slice (some ⟨g, 0, none⟩) (k + 1) cap).ownBlock = some j → v.ownBlock = some j ∨ j = W.heap.size) := by
  obtain ⟨i0, hi, hz0, hz1, hz2⟩ := info_parts infoIt
  obtain ⟨c0, c1⟩ := it_cells he
  obtain ⟨v', w6, hr, h2, h3, h4, h5⟩ := run_append_own_at (P := Tryd.prog) W base 22 22 48 i0 (itV (0, 0)) 2 16 Tryd.underlying22 hi hz0 hz1 hz2 rfl (by decide) v k xs ho ⟨e, 0, none⟩ 1 1 (cellsI [x]) rfl
    (fun j u hj => by
      match j, hj with
      | 0, hj => cases hj; exact c0
      | 1, hj => cases hj; exact c1) (cellsI_one' _) (by unfold maxLen; omega) (by omega) hbase
  obtain ⟨g, cap, rfl⟩ := ownsRow_succ h2
  exact ⟨g, cap, w6, hr, h2, h3, fun j hj => h5.imp (fun h => h.symm.trans hj) (fun h => by rw [h] at hj; cases hj; rfl)⟩
theorem add_inI {w : World} {g off : Nat} {l : List ItemP} (hc : ∀ (j : Nat) (x : ItemP), l[j]? = some x →
    w.cell? ⟨g, off + j * 2, none⟩ = some (.int .i64 x.1) ∧ w.cell? ⟨g, off + j * 2 + 1, none⟩ = some (.int .i64 x.2)) :
    ∀ j u, (cellsI l)[j]? = some u → w.cell? ((⟨g, off, none⟩ : Addr).add j) = some u := by
  intro j u hj
  have hadd : (⟨g, off, none⟩ : Addr).add j = ⟨g, off + j, none⟩ := by unfold Addr.add; split <;> simp_all
  rw [hadd]
  have hlt := (List.getElem?_eq_some_iff.1 hj).1
  rw [cellsI_length] at hlt
  obtain ⟨x, hx⟩ : ∃ x, l[j / 2]? = some x := ⟨_, List.getElem?_eq_getElem (by omega)⟩
  obtain ⟨h0, h1⟩ := hc _ x hx
  obtain ⟨c0, c1⟩ := cellsI_get hx
  have hm : j % 2 = 0 ∨ j % 2 = 1 := by omega
  rcases hm with h | h
  · rw [show j / 2 * 2 = j from by omega] at c0 h0
    rw [c0] at hj; cases hj; exact h0
  · rw [show j / 2 * 2 + 1 = j from by omega] at c1
    rw [show off + j / 2 * 2 + 1 = off + j from by omega] at h1
    rw [c1] at hj; cases hj; exact h1
theorem own_sliceI {W : World} {base k : Nat} {v : Value} {xs : List Value} (h : W.ownsRow base 48 2 v k xs) : ∃ o cap, v = .slice o k cap := by
  rcases h.2 with ⟨rfl, rfl⟩ | ⟨g, cap, cur, rfl, _⟩
  · exact ⟨none, 0, rfl⟩
  · exact ⟨_, cap, rfl⟩
theorem app_noneI (W : World) (v : Value) {k : Nat} {base : Nat} {xs : List Value} (ho : W.ownsRow base 48 2 v k xs) (c : Nat) :
    (appSem #[22, 22] 22 #[v, .slice none 0 c]).run Tryd.prog W = .ok v W := by
  obtain ⟨i0, hi, hz0, hz1, hz2⟩ := info_parts infoIt
  rcases ho.2 with ⟨rfl, rfl⟩ | ⟨g, cap, cur, rfl, _, _, hnc, _, _, _⟩
  · simp [appSem, Builtin.append_, run_underlying Tryd.underlying22, sizeOf, typeInfo, hi, Builtin.lenOf, Builtin.firstCells]
  · simp [appSem, Builtin.append_, run_underlying Tryd.underlying22, sizeOf, typeInfo, hi, Builtin.lenOf, Builtin.firstCells, loadCells, storeCells, hnc]
/-- append of items that lie somewhere, to a row that the call owns. -/
theorem its_own {W : World} {base k : Nat} {v : Value} {xs : List Value} (l : List ItemP) (o : Option Addr) (c : Nat) (hA : AtI W o l) (ho : W.ownsRow base 48 2 v k xs) (hk : k + l.length ≤ 100000) (hbase : base ≤ W.heap.size) :
    ∃ o' cap w6, (appSem #[22, 22] 22 #[v, .slice o l.length c]).run Tryd.prog W = .ok (.slice o' (k + l.length) cap) w6 ∧
      w6.ownsRow base 48 2 (.slice o' (k + l.length) cap) (k + l.length) (xs ++ cellsI l) ∧ W.grownBy w6 v.ownBlock ∧ ((Value.slice o' (k + l.length) cap).ownBlock = v.ownBlock ∨ (Value.slice o' (k + l.length) cap).ownBlock = some W.heap.size) := by
  obtain ⟨i0, hi, hz0, hz1, hz2⟩ := info_parts infoIt
  have main : ∀ a : Addr, (∀ j u, (cellsI l)[j]? = some u → W.cell? (a.add j) = some u) → o = some a → ∃ o' cap w6, (appSem #[22, 22] 22 #[v, .slice o l.length c]).run Tryd.prog W = .ok (.slice o' (k + l.length) cap) w6 ∧
      w6.ownsRow base 48 2 (.slice o' (k + l.length) cap) (k + l.length) (xs ++ cellsI l) ∧ W.grownBy w6 v.ownBlock ∧ ((Value.slice o' (k + l.length) cap).ownBlock = v.ownBlock ∨ (Value.slice o' (k + l.length) cap).ownBlock = some W.heap.size) := by
    rintro a hc rfl
    obtain ⟨v', w6, hr, h2, h3, _, h5⟩ := run_append_own_at (P := Tryd.prog) W base 22 22 48 i0 (itV (0, 0)) 2 16 Tryd.underlying22 hi hz0 hz1 hz2 rfl (by decide) v k xs ho a l.length c (cellsI l) (cellsI_length l) hc (cellsI_one' _) (by unfold maxLen; omega) (by omega) hbase
    obtain ⟨o', cap, rfl⟩ := own_sliceI h2
    exact ⟨o', cap, w6, hr, h2, h3, h5⟩
  rcases Nat.eq_zero_or_pos l.length with h0 | h0
  · obtain rfl := List.eq_nil_of_length_eq_zero h0
    cases o with
    | none =>
      obtain ⟨o', cap, rfl⟩ := own_sliceI ho
      exact ⟨o', cap, W, app_noneI W _ ho c, by simpa [cellsI] using ho, ⟨rfl, rfl, rfl, Nat.le_refl _, fun _ _ _ => rfl⟩, .inl rfl⟩
    | some a => exact main a (fun j u hj => by simp [cellsI] at hj) rfl
  · obtain ⟨g, off, rfl, hc⟩ := hA h0
    exact main _ (add_inI hc) rfl
end Go.Proofs.YtjacebnlikhjnaaDoor

namespace Go.Proofs.YtjacebnlikhjnaaDoor
open Go.RowKit Go.Shelf Go.Maps
attribute [local go_sem] Oper.semAt_some

set_option maxRecDepth 100000 in
set_option maxHeartbeats 2000000 in
theorem hasS_any (x c : Nat) (hx : x < 2 ^ 32) (hc : c ≤ 32) (w : World) : Calls Tryd.prog 52 #[.int .i64 (x : Nat), .int .i64 (c : Nat)] w fun e w' => e = .returned (.bool (x.testBit c)) ∧ w = w' := by
  have hb := bit_walkK (c := c) hx
  obtain ⟨b, hbb⟩ : ∃ b, x.testBit c = b := ⟨_, rfl⟩
  rw [hbb] at hb ⊢
  have he : (((if b then 1 else 0 : Nat) : Int) == 1) = b := by cases b <;> rfl
  clear hx hbb
  go_enter Tryd.func52, Tryd.ntmps52
  go_wp2_with fail
  all_goals
    go_ret
    exact ⟨by simp_all, rfl⟩
/-- The set of some states. -/
def setOfN (l : List Nat) : Nat := orN 0 l
theorem orN_snoc (x : Nat) (l : List Nat) (c : Nat) : orN x (l ++ [c]) = orN x l ||| 2 ^ c := by unfold orN; rw [List.foldl_append]; rfl
theorem setOfN_lt {l : List Nat} {n : Nat} (h : ∀ c ∈ l, c < n) : setOfN l < 2 ^ n := by
  apply bits_lt
  intro i hi
  unfold setOfN
  rw [orN_bit, Nat.zero_testBit, Bool.false_or]
  exact decide_eq_false fun hm => by have := h i hm; omega
/-- States that lie somewhere. -/
abbrev natsZ (l : List Nat) : List Int := l.map fun c => ((c : Nat) : Int)
set_option maxRecDepth 100000 in
set_option maxHeartbeats 2000000 in
theorem setOf_any (o : Option Addr) (l : List Nat) (cap : Nat) (hl : l.length ≤ 1000) (hlt : ∀ c ∈ l, c < 32) (w : World) (hA : NumsAt w o (natsZ l)) :
    Calls Tryd.prog 54 #[.slice o l.length cap] w fun e w' => e = .returned (.int .i64 ((setOfN l : Nat) : Int)) ∧ w = w' := by
  obtain ⟨n, hn⟩ : ∃ n, l.length = n := ⟨_, rfl⟩
  rw [hn] at hl ⊢
  have HN := Lib.hid hn
  have HLT := Lib.hid hlt
  have HA := Lib.hid hA
  obtain ⟨P, hP⟩ : ∃ P, (fun (e : Ending) w' => e = .returned (.int .i64 ((setOfN l : Nat) : Int)) ∧ w = w') = P := ⟨_, rfl⟩
  have HP := Lib.hid hP
  rw [hP]
  clear hP hn hlt hA
  go_enter Tryd.func54, Tryd.ntmps54
  go_wp2_with fail
  go_loopg [3, 8] n (fun k v3 v8 wr => ∃ (j s : Nat), v8 = .int .i64 (j : Nat) ∧ v3 = .int .i64 (s : Nat) ∧ Hid (s = setOfN (l.take j)) ∧ j ≤ n ∧ k = n - j ∧ w = wr)
  case atStart => exact ⟨0, 0, rfl, rfl, Lib.hid rfl, Nat.zero_le _, rfl, rfl⟩
  case round =>
    obtain ⟨j, s, rfl, rfl, HS, hj, rfl, rfl⟩ := hrel
    rcases Nat.lt_or_ge j n with hlt | hge
    · have hj6 : j < 1000000 := by omega
      obtain ⟨c, hc⟩ : ∃ c, l[j]? = some c := ⟨_, List.getElem?_eq_getElem (by rw [HN.out]; exact hlt)⟩
      have hc32 := HLT.out c (List.mem_of_getElem? hc)
      have hs32 : s < 2 ^ 32 := by rw [HS.out]; exact setOfN_lt fun c hc => HLT.out c (List.mem_of_mem_take hc)
      obtain ⟨g, off, rfl, hcc⟩ := HA.out (by rw [List.length_map, HN.out]; omega)
      have k0 := hcc j ((c : Nat) : Int) (by rw [List.getElem?_map, hc]; rfl)
      have e1 := shlK (show c ≤ 32 by omega)
      have e1' := shlI (show c ≤ 32 by omega)
      have e2 := orK hs32 hc32
      have HS2 : Hid (s ||| 2 ^ c = setOfN (l.take (j + 1))) := Lib.hid (by
        rw [List.take_add_one, hc, HS.out]
        exact (orN_snoc 0 _ c).symm)
      obtain ⟨p, hp⟩ : ∃ p, 2 ^ c = p := ⟨_, rfl⟩
      rw [hp] at e1 e1' e2 HS2
      obtain ⟨r, hr⟩ : ∃ r, s ||| p = r := ⟨_, rfl⟩
      rw [hr] at e2 HS2
      clear hc hcc hs32 hp hr
      go_wp2
      go_roundg (n - (j + 1))
      case measure => omega
      case rel => exact ⟨j + 1, r, by simp, rfl, HS2, by omega, rfl, rfl⟩
    · obtain rfl : j = n := by omega
      have HQ : Hid (P (.returned (.int .i64 (s : Nat))) w) := by
        rw [← HP.out]
        refine Lib.hid ⟨?_, rfl⟩
        rw [HS.out, List.take_of_length_le (by rw [HN.out]; exact Nat.le_refl _)]
      go_wp2
      first | exact HQ.out | (go_ret; exact HQ.out)
end Go.Proofs.YtjacebnlikhjnaaDoor

namespace Go.Proofs.YtjacebnlikhjnaaDoor
open Go.RowKit Go.Shelf Go.Maps
attribute [local go_sem] Oper.semAt_some

theorem bitLen_ok : ∀ (f x : Nat), x < 2 ^ f → x < 2 ^ Lib.bitLenAux f x ∧ Lib.bitLenAux f x ≤ f
  | 0, x, h => ⟨h, Nat.le_refl _⟩
  | f + 1, x, h => by
    simp only [Lib.bitLenAux]
    by_cases h0 : x = 0
    · rw [if_pos h0]
      exact ⟨by rw [h0]; decide, Nat.zero_le _⟩
    · rw [if_neg h0]
      obtain ⟨h1, h2⟩ := bitLen_ok f (x / 2) (by rw [Nat.pow_succ] at h; omega)
      refine ⟨?_, by omega⟩
      rw [Nat.add_comm 1, Nat.pow_succ]
      omega
theorem bitLen_32 {x : Nat} (h : x < 2 ^ 32) : x < 2 ^ Lib.bitLen x ∧ Lib.bitLen x ≤ 32 := by
  have e : Lib.bitLen x = Lib.bitLenAux 32 x := Lib.bitLenAux_fuel 32 x h 64 (by decide)
  rw [e]
  exact bitLen_ok 32 x h
theorem classesN_min {x a b : Nat} (ha : x < 2 ^ a) (hb : x < 2 ^ b) : classesN a x = classesN b x := by
  rcases Nat.le_total a b with h | h
  · have := classesN_more ha (b - a)
    rwa [show a + (b - a) = b by omega, eq_comm] at this
  · have := classesN_more hb (a - b)
    rwa [show b + (a - b) = a by omega] at this
theorem eachS_any (x : Int) (w : World) : Calls Tryd.prog 66 #[.int .i64 x] w fun e w' => e = .returned (.func (.func 77) #[] #[.pointer (some ⟨w.heap.size, 0, none⟩)]) ∧ w.alloc (.cells #[.int .i64 x] 49) = w' := by
  go_enter Tryd.func66, Tryd.ntmps66
  go_wp2
  go_ret
  exact ⟨rfl, rfl⟩
set_option maxRecDepth 100000 in
set_option maxHeartbeats 2000000 in
theorem seqEachS {B x n : Nat} {w : World} (hn : n ≤ 32) (hx : x < 2 ^ n) (hB : w.heap[B]? = some (.cells #[.int .i64 (x : Nat)] 49 (0, 0))) :
    SeqOfX Tryd.prog 4 77 #[.pointer (some ⟨B, 0, none⟩)] encC (fun _ => False) (fun k => k = B) (classesN n x) w := by
  intro W l J Jx hm hJ hJx hY h0
  have h1 : 1 ≤ 4 := by omega
  have hx32 : x < 2 ^ 32 := Nat.lt_of_lt_of_le hx (Nat.pow_le_pow_right (by decide) hn)
  obtain ⟨L0, L32⟩ := bitLen_32 hx32
  have hBW := row_keep hB hm id
  obtain ⟨L, hL⟩ : ∃ L, Lib.bitLen x = L := ⟨_, rfl⟩
  rw [hL] at L0 L32
  have hcl : classesN n x = classesN L x := classesN_min hx L0
  rw [hcl] at hY ⊢
  have c0 : W.cell? ⟨B, 0, none⟩ = some (.int .i64 ((x : Nat) : Int)) := cell_of_row _ _ 0 _ _ _ hBW
  have HLEN : Hid (Calls Tryd.prog 78 #[.int .u64 (x : Nat)] W fun e w' => e = .returned (.int .i64 (L : Nat)) ∧ w' = W) := Lib.hid (by
    have := Tryd.bits_Len64 ((x : Nat) : Int) W (by omega) (by have : (2 : Nat) ^ 32 = 4294967296 := by decide
                                                               omega)
    rwa [Int.toNat_natCast, hL] at this)
  have hconv : IntKind.u64.wrap ((x : Nat) : Int) = ((x : Nat) : Int) := by
    have h32 : (2 : Nat) ^ 32 = 4294967296 := by decide
    have : IntKind.u64.wrap ((x : Nat) : Int) = ((x : Nat) : Int) % 18446744073709551616 := rfl
    omega
  refine callsIn_of_wp Tryd.func77 rfl trivial ?_ rfl
  simp only [Tryd.ntmps77, List.size_toArray, List.length_cons, List.length_nil, Nat.reduceAdd, Nat.reduceSub, Array.replicate_succ, Array.replicate_zero, List.push_toArray, List.append_toArray, List.nil_append, List.cons_append]
  have HY := Lib.hid hY
  have HX := Lib.hid hx32
  have HB := Lib.hid hBW
  have HJM := Lib.hid hJ
  clear hY hm hB hx hx32 hBW hL hcl L0 hJ hJx
  gi_wp2_with fail
  refine ⟨trivial, (callsIn_wide.2 HLEN.out).mono ?_⟩
  rintro e w2 ⟨rfl, rfl⟩
  gi_wp2
  gi_loopg [7] L (fun k v wr => ∃ j : Nat, v = .int .i64 (j : Nat) ∧ j ≤ L ∧ k = L - j ∧ J (fun _ => False) (classesN j x) wr ∧ Hid (wr.heap[B]? = some (.cells #[.int .i64 (x : Nat)] 49 (0, 0))))
  case atStart => exact ⟨0, rfl, Nat.zero_le _, rfl, h0, HB⟩
  case round =>
    clear c0
    obtain ⟨j, rfl, hj, rfl, hJ', hBr⟩ := hrel
    have k0 : wr.cell? ⟨B, 0, none⟩ = some (.int .i64 ((x : Nat) : Int)) := cell_of_row _ _ 0 _ _ _ hBr.out
    rcases Nat.lt_or_ge j L with hlt | hge
    · have hj1 : j < 1000000 := by omega
      have HH := Lib.hid (fun W => hasS_any x j HX.out (by omega) W)
      cases hb : x.testBit j with
      | false =>
        have hs : classesN (j + 1) x = classesN j x := by rw [classesN_snoc, hb]; simp
        rw [hb] at HH
        clear hb
        gi_wp2_with fail
        refine ⟨trivial, (callsIn_wide.2 (HH.out _)).mono ?_⟩
        rintro e w2 ⟨rfl, rfl⟩
        gi_wp2
        try (refine ⟨by simp, ?_⟩; gi_wp2)
        gi_roundg (L - (j + 1))
        case measure => omega
        case rel => exact ⟨j + 1, by simp, by omega, rfl, by rw [hs]; exact hJ', hBr⟩
      | true =>
        have hs : classesN (j + 1) x = classesN j x ++ [j] := by rw [classesN_snoc, hb]; simp
        have hpx := Lib.hid (classesN_one hlt hb)
        rw [hb] at HH
        clear hb
        obtain ⟨fn, tmps, assign, body, hy, hR⟩ := HY.out _ _ _ _ hpx.out hJ'
        replace hy : (Instr.yield l #[.int .i64 (j : Nat)]).run Tryd.prog wr = .ok (.round l fn tmps assign body) wr := hy
        have HRR := Lib.hid hR
        clear hR
        gi_wp2_with fail
        refine ⟨trivial, (callsIn_wide.2 (HH.out _)).mono ?_⟩
        rintro e w2 ⟨rfl, rfl⟩
        gi_wp2
        refine HRR.out.mono ?_
        rintro e w3 (⟨rfl, hJ4, hk4⟩ | ⟨rfl, hJx4, _⟩)
        · have hB3 : Hid (w3.heap[B]? = some (.cells #[.int .i64 (x : Nat)] 49 (0, 0))) := Lib.hid (row_keep hBr.out hk4 (fun h => h.2 rfl))
          clear hk4
          gi_wp2
          gi_roundg (L - (j + 1))
          case measure => omega
          case rel => exact ⟨j + 1, by simp, by omega, rfl, by rw [hs]; exact hJ4, hB3⟩
        · gi_wp2
          refine bodyPost_ret (results_none rfl _ _ _) rfl ?_
          exact ⟨⟨_, rfl⟩, _, .inr ⟨_, hpx.out, hJx4⟩⟩
    · obtain rfl : j = L := by omega
      gi_wp2
      go_end0
      exact ⟨⟨_, rfl⟩, _, .inl hJ'⟩
end Go.Proofs.YtjacebnlikhjnaaDoor
