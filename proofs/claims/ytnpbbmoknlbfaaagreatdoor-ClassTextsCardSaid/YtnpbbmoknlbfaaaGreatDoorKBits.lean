/- How many classes there are: the bits of a number are counted. -/
import Derived.Test.YtnpbbmoknlbfaaaGreatDoorKPure
namespace Go.Proofs.YtnpbbmoknlbfaaaGreatDoor

def pA (m x : Nat) : Nat := (x / 2 &&& m) + (x &&& m)
def pB (m x : Nat) : Nat := (x / 4 &&& m) + (x &&& m)
def pC (m x : Nat) : Nat := (x / 16 + x) &&& m
theorem and_split (k : Nat) {a b c d : Nat} (ha : a < 2 ^ k) (hc : c < 2 ^ k) : (a + 2 ^ k * b) &&& (c + 2 ^ k * d) = (a &&& c) + 2 ^ k * (b &&& d) := by
  have hac : a &&& c < 2 ^ k := Nat.and_lt_two_pow _ hc
  apply Nat.eq_of_testBit_eq
  intro i
  rw [Nat.testBit_and, Nat.add_comm a, Nat.add_comm c, Nat.add_comm (a &&& c), Nat.testBit_two_pow_mul_add b ha, Nat.testBit_two_pow_mul_add d hc, Nat.testBit_two_pow_mul_add (b &&& d) hac]
  split <;> rw [Nat.testBit_and]
theorem pA_split {a b m : Nat} (ha : a < 256) : pA (85 + 256 * m) (a + 256 * b) = pA 85 a + 256 * pA m b := by
  have e : (a + 256 * b) / 2 = (a / 2 + 128 * (b % 2)) + 256 * (b / 2) := by omega
  have h1 := and_split 8 (a := a / 2 + 128 * (b % 2)) (b := b / 2) (c := 85) (d := m) (by omega) (by omega)
  have h2 := and_split 7 (a := a / 2) (b := b % 2) (c := 85) (d := 0) (by omega) (by omega)
  have h3 := and_split 8 (a := a) (b := b) (c := 85) (d := m) ha (by omega)
  simp only [Nat.reducePow, Nat.and_zero, Nat.mul_zero, Nat.add_zero] at h1 h2 h3
  unfold pA
  rw [e, h1, h2, h3]
  omega
theorem pB_split {a b m : Nat} (ha : a < 256) : pB (51 + 256 * m) (a + 256 * b) = pB 51 a + 256 * pB m b := by
  have e : (a + 256 * b) / 4 = (a / 4 + 64 * (b % 4)) + 256 * (b / 4) := by omega
  have h1 := and_split 8 (a := a / 4 + 64 * (b % 4)) (b := b / 4) (c := 51) (d := m) (by omega) (by omega)
  have h2 := and_split 6 (a := a / 4) (b := b % 4) (c := 51) (d := 0) (by omega) (by omega)
  have h3 := and_split 8 (a := a) (b := b) (c := 51) (d := m) ha (by omega)
  simp only [Nat.reducePow, Nat.and_zero, Nat.mul_zero, Nat.add_zero] at h1 h2 h3
  unfold pB
  rw [e, h1, h2, h3]
  omega
theorem pC_split {a b m : Nat} (ha : a < 256) (h1 : a % 16 ≤ 4) (h2 : a / 16 ≤ 4) (h3 : b % 16 ≤ 4) : pC (15 + 256 * m) (a + 256 * b) = (a % 16 + a / 16) + 256 * pC m b := by
  have e : (a + 256 * b) / 16 + (a + 256 * b) = ((a % 16 + a / 16) + 16 * (a / 16 + b % 16)) + 256 * (b / 16 + b) := by omega
  have g1 := and_split 8 (a := (a % 16 + a / 16) + 16 * (a / 16 + b % 16)) (b := b / 16 + b) (c := 15) (d := m) (by omega) (by omega)
  have g2 := and_split 4 (a := a % 16 + a / 16) (b := a / 16 + b % 16) (c := 15) (d := 0) (by omega) (by omega)
  have g3 : (a % 16 + a / 16) &&& 15 = a % 16 + a / 16 := by
    rw [show (15 : Nat) = 2 ^ 4 - 1 from rfl, Nat.and_two_pow_sub_one_eq_mod]
    omega
  simp only [Nat.reducePow, Nat.and_zero, Nat.mul_zero, Nat.add_zero] at g1 g2
  unfold pC
  rw [e, g1, g2, g3]
/-- A byte's. -/
def qB (a : Nat) : Nat := pB 51 (pA 85 a)
theorem byte_all : ∀ a : Fin 256, pA 85 a.val < 256 ∧ qB a.val < 256 ∧ qB a.val % 16 ≤ 4 ∧ qB a.val / 16 ≤ 4 ∧ qB a.val % 16 + qB a.val / 16 = (classesN 8 a.val).length := by decide +kernel
theorem cnt_split {a : Nat} (ha : a < 256) (b : Nat) : ∀ n, (classesN (8 + n) (a + 256 * b)).length = (classesN 8 a).length + (classesN n b).length
  | 0 => by
    have e : classesN 8 (a + 256 * b) = classesN 8 a := by
      unfold classesN
      apply List.filter_congr
      intro i hi
      have h8 : i < 8 := List.mem_range.1 hi
      have := Nat.testBit_two_pow_mul_add b (show a < 2 ^ 8 from ha) i
      rw [if_pos h8] at this
      rw [Nat.add_comm a]
      exact this
    rw [Nat.add_zero, e]
    rfl
  | n + 1 => by
    have e : (a + 256 * b).testBit (8 + n) = b.testBit n := by
      have := Nat.testBit_two_pow_mul_add b (show a < 2 ^ 8 from ha) (8 + n)
      rw [if_neg (by omega), show 8 + n - 8 = n by omega] at this
      rw [Nat.add_comm a]
      exact this
    rw [← Nat.add_assoc, classesN_snoc (8 + n), classesN_snoc n b, List.length_append, List.length_append, cnt_split ha b n, e]
    cases b.testBit n <;> simp <;> omega
def mA : Nat := 6148914691236517205
def mB : Nat := 3689348814741910323
def mC : Nat := 1085102592571150095
theorem pA_lt {x : Nat} (h : x < 2 ^ 32) : pA mA x < 2 ^ 33 := by
  have h1 : x / 2 &&& mA ≤ x / 2 := Nat.and_le_left
  have h2 : x &&& mA ≤ x := Nat.and_le_left
  unfold pA
  omega
theorem four {p q r s : Nat} (hp : p < 256) (hq : q < 256) (hr : r < 256) (hs : s < 256) : p + 256 * (q + 256 * (r + 256 * (s + 256 * 0))) < 2 ^ 32 := by omega
theorem low16 {q x : Nat} (h : q % 16 ≤ 4) : (q + 256 * x) % 16 ≤ 4 := by omega
theorem ones_three {x : Nat} (h : x < 2 ^ 32) : ∃ p q r s : Nat, p ≤ 8 ∧ q ≤ 8 ∧ r ≤ 8 ∧ s ≤ 8 ∧ pC mC (pB mB (pA mA x)) = p + 256 * (q + 256 * (r + 256 * s)) ∧ (classesN 32 x).length = p + q + r + s ∧ pA mA x < 2 ^ 32 ∧ pB mB (pA mA x) < 2 ^ 32 := by
  obtain ⟨a, x1, ha, rfl⟩ : ∃ a x1, a < 256 ∧ x = a + 256 * x1 := ⟨x % 256, x / 256, by omega, by omega⟩
  obtain ⟨b, x2, hb, rfl⟩ : ∃ a y, a < 256 ∧ x1 = a + 256 * y := ⟨x1 % 256, x1 / 256, by omega, by omega⟩
  obtain ⟨c, x3, hc, rfl⟩ : ∃ a y, a < 256 ∧ x2 = a + 256 * y := ⟨x2 % 256, x2 / 256, by omega, by omega⟩
  obtain ⟨d, o, hd, ho, rfl⟩ : ∃ d o, d < 256 ∧ o = 0 ∧ x3 = d + 256 * o := ⟨x3, 0, by omega, rfl, by omega⟩
  have A := byte_all ⟨a, ha⟩
  have B := byte_all ⟨b, hb⟩
  have C := byte_all ⟨c, hc⟩
  have D := byte_all ⟨d, hd⟩
  simp only at A B C D
  have l1 := (classesN_le 8 a)
  have l2 := (classesN_le 8 b)
  have l3 := (classesN_le 8 c)
  have l4 := (classesN_le 8 d)
  have z : pA 1431655765 0 = 0 ∧ pB 858993459 0 = 0 ∧ pC 252645135 0 = 0 := by decide
  have e1 : pA mA (a + 256 * (b + 256 * (c + 256 * (d + 256 * o)))) = pA 85 a + 256 * (pA 85 b + 256 * (pA 85 c + 256 * (pA 85 d + 256 * 0))) := by
    rw [show mA = 85 + 256 * (85 + 256 * (85 + 256 * (85 + 256 * 1431655765))) from rfl, pA_split ha, pA_split hb, pA_split hc, pA_split hd, ho, z.1]
  have e2 : pB mB (pA 85 a + 256 * (pA 85 b + 256 * (pA 85 c + 256 * (pA 85 d + 256 * 0)))) = qB a + 256 * (qB b + 256 * (qB c + 256 * (qB d + 256 * 0))) := by
    rw [show mB = 51 + 256 * (51 + 256 * (51 + 256 * (51 + 256 * 858993459))) from rfl, pB_split A.1, pB_split B.1, pB_split C.1, pB_split D.1, z.2.1]
    rfl
  have e3 : pC mC (qB a + 256 * (qB b + 256 * (qB c + 256 * (qB d + 256 * 0)))) = (classesN 8 a).length + 256 * ((classesN 8 b).length + 256 * ((classesN 8 c).length + 256 * ((classesN 8 d).length + 256 * 0))) := by
    rw [show mC = 15 + 256 * (15 + 256 * (15 + 256 * (15 + 256 * 252645135))) from rfl, pC_split A.2.1 A.2.2.1 A.2.2.2.1 (low16 B.2.2.1), pC_split B.2.1 B.2.2.1 B.2.2.2.1 (low16 C.2.2.1), pC_split C.2.1 C.2.2.1 C.2.2.2.1 (low16 D.2.2.1), pC_split D.2.1 D.2.2.1 D.2.2.2.1 (by decide), z.2.2,
      A.2.2.2.2, B.2.2.2.2, C.2.2.2.2, D.2.2.2.2]
  have e4 := cnt_split ha (b + 256 * (c + 256 * (d + 256 * o))) 24
  have e5 := cnt_split hb (c + 256 * (d + 256 * o)) 16
  have e6 := cnt_split hc (d + 256 * o) 8
  simp only [ho, Nat.mul_zero, Nat.add_zero] at e4 e5 e6
  refine ⟨_, _, _, _, l1, l2, l3, l4, ?_, ?_, ?_, ?_⟩
  · rw [e1, e2, e3, Nat.mul_zero, Nat.add_zero]
  · rw [ho, Nat.mul_zero, Nat.add_zero, show (32 : Nat) = 8 + 24 from rfl, e4, show (24 : Nat) = 8 + 16 from rfl, e5, show (16 : Nat) = 8 + 8 from rfl, e6, Nat.add_assoc, Nat.add_assoc]
  · rw [e1]; exact four A.1 B.1 C.1 D.1
  · rw [e1, e2]; exact four A.2.1 B.2.1 C.2.1 D.2.1
/-- The last three steps. -/
theorem ones_last {p q r s : Nat} (hp : p ≤ 8) (hq : q ≤ 8) (hr : r ≤ 8) (hs : s ≤ 8) {y : Nat} (hy : y = p + 256 * (q + 256 * (r + 256 * s))) :
    ∃ y1 y2 : Nat, y1 = y + y / 256 ∧ y2 = y1 + y1 / 65536 ∧ y < 2 ^ 28 ∧ y1 < 2 ^ 29 ∧ y2 < 2 ^ 30 ∧ y2 / 2 ^ 32 = 0 ∧ y2 % 128 = p + q + r + s := by
  have e1 : y / 256 = q + 256 * (r + 256 * s) := by omega
  obtain ⟨y1, hy1⟩ : ∃ y1, y1 = y + y / 256 := ⟨_, rfl⟩
  have f1 : y1 = (p + q) + 256 * (q + r) + 65536 * ((r + s) + 256 * s) := by omega
  have e2 : y1 / 65536 = (r + s) + 256 * s := by omega
  obtain ⟨y2, hy2⟩ : ∃ y2, y2 = y1 + y1 / 65536 := ⟨_, rfl⟩
  have f2 : y2 = (p + q + r + s) + 128 * (2 * (q + r + s) + 512 * ((r + s) + 256 * s)) := by omega
  exact ⟨y1, y2, hy1, hy2, by omega, by omega, by omega, by omega, by omega⟩
end Go.Proofs.YtnpbbmoknlbfaaaGreatDoor
