/- The bytes of a scalar, plainly. -/
import Derived.Test.YtcdgmamlmapbcaaDoorSpec
namespace Go.Proofs.YtcdgmamlmapbcaaDoor

def encN (r : Nat) : List Nat :=
  if r < 128 then [r] else if r < 2048 then [192 + r / 64, 128 + r % 64] else if r < 65536 then [224 + r / 4096, 128 + r / 64 % 64, 128 + r % 64]
  else [240 + r / 262144, 128 + r / 4096 % 64, 128 + r / 64 % 64, 128 + r % 64]
def encB (r : Nat) : List UInt8 := (encN r).map UInt8.ofNat

theorem scalar_lt {r : Int} (h : rowR r < 9) : 0 ≤ r ∧ r < 1114112 := by have := rowR_cases r; omega
theorem encN_lt {r : Nat} (h : r < 1114112) : ∀ b ∈ encN r, b < 256 := by
  intro b hb
  unfold encN at hb
  split at hb
  · simp at hb; omega
  · split at hb
    · simp at hb; omega
    · split at hb
      · simp at hb; omega
      · simp at hb; omega
theorem encN_length (r : Nat) : 1 ≤ (encN r).length ∧ (encN r).length ≤ 4 := by
  unfold encN
  split
  · simp
  · split
    · simp
    · split <;> simp
theorem encB_length (r : Nat) : 1 ≤ (encB r).length ∧ (encB r).length ≤ 4 := by
  have := encN_length r
  simpa [encB] using this
/-- The cells that they lie in. -/
def encC (r : Nat) : List Value := (encN r).map fun b => .int .u8 (b : Nat)
theorem encC_eq {r : Nat} (h : r < 1114112) : encC r = (encB r).map fun b => .int .u8 (b.toNat : Nat) := by
  unfold encC encB
  rw [List.map_map]
  apply List.map_congr_left
  intro b hb
  have := encN_lt h b hb
  show Value.int .u8 (b : Nat) = .int .u8 ((UInt8.ofNat b).toNat : Nat)
  rw [UInt8.toNat_ofNat_of_lt' (by simpa using this)]
theorem encC_length (r : Nat) : (encC r).length = (encB r).length := by simp [encC, encB]
theorem row1 {r : Int} (h : rowR r < 9) : (r < 128 ∧ sz (rowR r) = 1 ∧ mk (rowR r) = 0) ∨ (128 ≤ r ∧ r < 2048 ∧ sz (rowR r) = 2 ∧ mk (rowR r) = 192) ∨
    (2048 ≤ r ∧ r < 65536 ∧ sz (rowR r) = 3 ∧ mk (rowR r) = 224) ∨ (65536 ≤ r ∧ r < 1114112 ∧ sz (rowR r) = 4 ∧ mk (rowR r) = 240) := by
  rcases rowR_cases r with h | h | h | h | h | h | h | h | h | h | h | h
  · omega
  · rw [h.2.2]; exact .inl ⟨by omega, rfl, rfl⟩
  · rw [h.2.2]; exact .inr (.inl ⟨by omega, by omega, rfl, rfl⟩)
  · rw [h.2.2]; exact .inr (.inr (.inl ⟨by omega, by omega, rfl, rfl⟩))
  · rw [h.2.2]; exact .inr (.inr (.inl ⟨by omega, by omega, rfl, rfl⟩))
  · rw [h.2.2]; exact .inr (.inr (.inl ⟨by omega, by omega, rfl, rfl⟩))
  · omega
  · rw [h.2.2]; exact .inr (.inr (.inl ⟨by omega, by omega, rfl, rfl⟩))
  · rw [h.2.2]; exact .inr (.inr (.inr ⟨by omega, by omega, rfl, rfl⟩))
  · rw [h.2.2]; exact .inr (.inr (.inr ⟨by omega, by omega, rfl, rfl⟩))
  · rw [h.2.2]; exact .inr (.inr (.inr ⟨by omega, by omega, rfl, rfl⟩))
  · omega
end Go.Proofs.YtcdgmamlmapbcaaDoor
