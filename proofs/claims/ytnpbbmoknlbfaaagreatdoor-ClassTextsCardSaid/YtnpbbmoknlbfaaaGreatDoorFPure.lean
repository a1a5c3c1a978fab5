/- Lines of a data file, plainly: digits, codes. -/
import Derived.Test.YtnpbbmoknlbfaaaGreatDoorBase
namespace Go.Proofs.YtnpbbmoknlbfaaaGreatDoor

/-- The number of a hexadecimal digit. -/
def hexD (b : Nat) : Option Nat := if 48 ≤ b ∧ b ≤ 57 then some (b - 48) else if 97 ≤ b ∧ b ≤ 102 then some (b - 87) else if 65 ≤ b ∧ b ≤ 70 then some (b - 55) else none
theorem hexD_lt {b d : Nat} (h : hexD b = some d) : d < 16 ∧ b < 128 := by
  unfold hexD at h
  split at h
  · cases h; omega
  · split at h
    · cases h; omega
    · split at h
      · cases h; omega
      · cases h
def accL : List UInt8 → Nat → Option Nat
  | [], n => some n
  | b :: t, n => match hexD b.toNat with
    | none => none
    | some d => accL t (n * 16 + d)
def codeL (l : List UInt8) : Option Nat := if 4 ≤ l.length ∧ l.length ≤ 6 then accL l 0 else none
def codeV (l : List UInt8) : Value := match codeL l with
  | some n => .tuple #[.int .i64 (n : Nat), .bool true]
  | none => .tuple #[.int .i64 0, .bool false]
theorem accL_lt : ∀ (l : List UInt8) (n m : Nat), accL l n = some m → m < (n + 1) * 16 ^ l.length
  | [], n, m, h => by cases h; simp
  | b :: t, n, m, h => by
    unfold accL at h
    cases hd : hexD b.toNat with
    | none => rw [hd] at h; cases h
    | some d =>
      rw [hd] at h
      have h1 := accL_lt t _ m h
      have h2 := (hexD_lt hd).1
      rw [List.length_cons, Nat.pow_succ]
      have h3 : (n * 16 + d + 1) * 16 ^ t.length ≤ ((n + 1) * 16) * 16 ^ t.length := Nat.mul_le_mul_right _ (by omega)
      have h4 : ((n + 1) * 16) * 16 ^ t.length = (n + 1) * (16 ^ t.length * 16) := by rw [Nat.mul_assoc, Nat.mul_comm 16]
      omega
theorem codeL_lt {l : List UInt8} {n : Nat} (h : codeL l = some n) : n < 16777216 := by
  unfold codeL at h
  split at h
  · rename_i hl
    have h1 := accL_lt l 0 n h
    have h2 : 16 ^ l.length ≤ 16 ^ 6 := Nat.pow_le_pow_right (by omega) hl.2
    have h3 : (16 : Nat) ^ 6 = 16777216 := by decide
    omega
  · cases h
theorem codeV_some {l : List UInt8} {n : Nat} (h : codeL l = some n) : codeV l = .tuple #[.int .i64 (n : Nat), .bool true] := by unfold codeV; rw [h]
theorem codeV_none {l : List UInt8} (h : codeL l = none) : codeV l = .tuple #[.int .i64 0, .bool false] := by unfold codeV; rw [h]
theorem codeL_len {l : List UInt8} (h : ¬ (4 ≤ l.length ∧ l.length ≤ 6)) : codeL l = none := by unfold codeL; rw [if_neg h]
theorem accL_cons (b : UInt8) (t : List UInt8) (n : Nat) : accL (b :: t) n = match hexD b.toNat with | none => none | some d => accL t (n * 16 + d) := by rw [accL]
/-- What the digits up to a place say, and what comes of the rest. -/
theorem accL_append : ∀ (l t : List UInt8) (n : Nat), accL (l ++ t) n = match accL l n with | none => none | some m => accL t m
  | [], t, n => rfl
  | b :: l, t, n => by
    rw [List.cons_append, accL_cons, accL_cons]
    cases hexD b.toNat with
    | none => rfl
    | some d => exact accL_append l t _
theorem accL_snoc {l : List UInt8} {b : UInt8} {n m : Nat} (h : accL l n = some m) : accL (l ++ [b]) n = match hexD b.toNat with | none => none | some d => some (m * 16 + d) := by
  rw [accL_append, h]
  show accL [b] m = _
  rw [accL_cons]
  cases hexD b.toNat <;> rfl
theorem accL_bad {l : List UInt8} {b : UInt8} {t : List UInt8} {n m : Nat} (h : accL l n = some m) (hb : hexD b.toNat = none) : accL (l ++ b :: t) n = none := by
  rw [accL_append, h]
  show accL (b :: t) m = none
  rw [accL_cons, hb]
theorem accL_head_bad (l : List UInt8) (b : UInt8) (n : Nat) (hb : hexD b.toNat = none) : accL (b :: l) n = none := by rw [accL_cons, hb]
end Go.Proofs.YtnpbbmoknlbfaaaGreatDoor
