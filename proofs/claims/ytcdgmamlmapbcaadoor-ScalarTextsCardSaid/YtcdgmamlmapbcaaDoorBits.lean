/- Bits of whole numbers, as sums. -/
import Derived.Laws.BitsAllLaws
import Derived.Laws.BitsLemmas
namespace Go.Proofs.YtcdgmamlmapbcaaDoor
open Go
theorem ofInt64 (a : Nat) (ha : a < 2 ^ 63) : (BitVec.ofInt 64 (a : Int)).toNat = a := by
  rw [BitVec.ofInt_natCast, BitVec.toNat_ofNat]
  exact Nat.mod_eq_of_lt (by omega)
/-- Digits behind digits. -/
theorem or_join (q t : Nat) (hq : q < 2 ^ 50) (ht : t < 64) : bits .or .i64 ((q : Int) * 64) (t : Int) = ((q * 64 + t : Nat) : Int) := by
  have e : ((q : Int) * 64) = ((q * 64 : Nat) : Int) := by omega
  have ho : q * 64 ||| t = q * 64 + t := by
    have := Nat.two_pow_add_eq_or_of_lt (i := 6) (b := t) (by omega) q
    rw [show q * 64 = 2 ^ 6 * q from by omega]
    exact this.symm
  rw [e]
  show IntKind.i64.wrap ((BitVec.ofInt 64 ((q * 64 : Nat) : Int) ||| BitVec.ofInt 64 (t : Int)).toNat : Int) = _
  rw [BitVec.toNat_or, ofInt64 _ (by omega), ofInt64 _ (by omega), ho, IntKind.wrap_i64]
  omega
theorem and63 (r : Nat) (hr : r < 2 ^ 62) : bits .and .i64 (r : Int) 63 = ((r % 64 : Nat) : Int) := by
  show IntKind.i64.wrap ((BitVec.ofInt 64 (r : Int) &&& BitVec.ofInt 64 ((63 : Nat) : Int)).toNat : Int) = _
  rw [BitVec.toNat_and, ofInt64 _ (by omega), ofInt64 _ (by omega), show (63 : Nat) = 2 ^ 6 - 1 from rfl, Nat.and_two_pow_sub_one_eq_mod, IntKind.wrap_i64]
  omega
theorem or128 (t : Nat) (ht : t < 64) : bits .or .u8 128 (t : Int) = ((128 + t : Nat) : Int) := by
  have ho : 128 ||| t = 128 + t := by
    have := Nat.two_pow_add_eq_or_of_lt (i := 7) (b := t) (by omega) 1
    simpa using this.symm
  have := u8_or_nat 128 t (by omega) (by omega)
  rw [ho] at this
  exact this
theorem or_mark (i m t : Nat) (hi : i ≤ 7) (hm : 2 ^ i * m < 256) (ht : t < 2 ^ i) : bits .or .u8 ((2 ^ i * m : Nat) : Int) (t : Int) = ((2 ^ i * m + t : Nat) : Int) := by
  have hp : 2 ^ i ≤ 2 ^ 7 := Nat.pow_le_pow_right (by omega) hi
  rw [u8_or_nat _ t hm (by omega), Nat.two_pow_add_eq_or_of_lt ht m]
end Go.Proofs.YtcdgmamlmapbcaaDoor
