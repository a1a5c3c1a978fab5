/- The bytes of a scalar, as sums. -/
import Derived.Test.YtcdgmamlmapbcaaDoorBits
namespace Go.Proofs.YtcdgmamlmapbcaaDoor
open Go
theorem chunk {x : Int} (h0 : 0 ≤ x) (h1 : x < 2 ^ 40) : bits .or .u8 128 (bits .and .i64 x 63 % 256) = 128 + x % 64 := by
  obtain ⟨n, rfl⟩ := Int.eq_ofNat_of_zero_le h0
  rw [and63 n (by omega), show ((n % 64 : Nat) : Int) % 256 = ((n % 64 : Nat) : Int) from by omega, or128 _ (by omega)]
  omega
theorem lead4 {x : Int} (h0 : 0 ≤ x) (h1 : x < 8) : bits .or .u8 240 (x % 256) = 240 + x := by
  obtain ⟨n, rfl⟩ := Int.eq_ofNat_of_zero_le h0
  have := or_mark 3 30 n (by omega) (by omega) (by omega)
  rw [show ((n : Nat) : Int) % 256 = (n : Nat) from by omega]
  exact this
theorem lead3 {x : Int} (h0 : 0 ≤ x) (h1 : x < 16) : bits .or .u8 224 (x % 256) = 224 + x := by
  obtain ⟨n, rfl⟩ := Int.eq_ofNat_of_zero_le h0
  have := or_mark 4 14 n (by omega) (by omega) (by omega)
  rw [show ((n : Nat) : Int) % 256 = (n : Nat) from by omega]
  exact this
theorem lead2 {x : Int} (h0 : 0 ≤ x) (h1 : x < 32) : bits .or .u8 192 (x % 256) = 192 + x := by
  obtain ⟨n, rfl⟩ := Int.eq_ofNat_of_zero_le h0
  have := or_mark 5 6 n (by omega) (by omega) (by omega)
  rw [show ((n : Nat) : Int) % 256 = (n : Nat) from by omega]
  exact this
theorem lead1 {x : Int} (h0 : 0 ≤ x) (h1 : x < 128) : bits .or .u8 0 (x % 256) = x := by
  obtain ⟨n, rfl⟩ := Int.eq_ofNat_of_zero_le h0
  have := or_mark 7 0 n (by omega) (by omega) (by omega)
  rw [show ((n : Nat) : Int) % 256 = (n : Nat) from by omega]
  simpa using this
end Go.Proofs.YtcdgmamlmapbcaaDoor
