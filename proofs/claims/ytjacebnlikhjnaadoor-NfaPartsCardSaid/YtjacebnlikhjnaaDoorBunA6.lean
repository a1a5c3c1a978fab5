/- How many classes there are: the bits of a number are counted. with, not; Right, Has, Not; how many classes. Sets' texts are read back, plainly. Patterns: a text's parts, plainly. Patterns: the places that items may end at, as the document's own answer works them out. Patterns: what the calls answer, plainly. Patterns' texts, plainly. Patterns: behind and ahead, as the program goes and as the document says, plainly. -/
import Derived.Test.YtjacebnlikhjnaaDoorBunA5
namespace Go.Proofs.YtjacebnlikhjnaaDoor

def pA (m x : Nat) : Nat := (x / 2 &&& m) + (x &&& m)
def pB (m x : Nat) : Nat := (x / 4 &&& m) + (x &&& m)
def pC (m x : Nat) : Nat := (x / 16 + x) &&& m
theorem and_split (k : Nat) {a b c d : Nat} (ha : a < 2 ^ k) (hc : c < 2 ^ k) : (a + 2 ^ k * b) &&& (c + 2 ^ k * d) = (a &&& c) + 2 ^ k * (b &&& d) := by
  have hac : a &&& c < 2 ^ k := Nat.and_lt_two_pow _ hc
  apply Nat.eq_of_testBit_eq
  intro i
  rw [Nat.testBit_and, Nat.add_comm a, Nat.add_comm c, Nat.add_comm (a &&& c), Nat.testBit_two_pow_mul_add b ha, Nat.testBit_two_pow_mul_add d hc, Nat.testBit_two_pow_mul_add (b &&& d) hac]
  split <;> rw [Nat.testBit_and]
theorem pA_split {a b m : Nat} (ha : a < 256) : pA (85 + 256 * m) (a + 256 * b) = pA 85 a + 256 * pA m b := by
  have e : (a + 256 * b) / 2 = (a / 2 + 128 * (b % 2)) + 256 * (b / 2) := by omega
  have h1 := and_split 8 (a := a / 2 + 128 * (b % 2)) (b := b / 2) (c := 85) (d := m) (by omega) (by omega)
  have h2 := and_split 7 (a := a / 2) (b := b % 2) (c := 85) (d := 0) (by omega) (by omega)
  have h3 := and_split 8 (a := a) (b := b) (c := 85) (d := m) ha (by omega)
  simp only [Nat.reducePow, Nat.and_zero, Nat.mul_zero, Nat.add_zero] at h1 h2 h3
  unfold pA
  rw [e, h1, h2, h3]
  omega
theorem pB_split {a b m : Nat} (ha : a < 256) : pB (51 + 256 * m) (a + 256 * b) = pB 51 a + 256 * pB m b := by
  have e : (a + 256 * b) / 4 = (a / 4 + 64 * (b % 4)) + 256 * (b / 4) := by omega
  have h1 := and_split 8 (a := a / 4 + 64 * (b % 4)) (b := b / 4) (c := 51) (d := m) (by omega) (by omega)
  have h2 := and_split 6 (a := a / 4) (b := b % 4) (c := 51) (d := 0) (by omega) (by omega)
  have h3 := and_split 8 (a := a) (b := b) (c := 51) (d := m) ha (by omega)
  simp only [Nat.reducePow, Nat.and_zero, Nat.mul_zero, Nat.add_zero] at h1 h2 h3
  unfold pB
  rw [e, h1, h2, h3]
  omega
theorem pC_split {a b m : Nat} (ha : a < 256) (h1 : a % 16 ≤ 4) (h2 : a / 16 ≤ 4) (h3 : b % 16 ≤ 4) : pC (15 + 256 * m) (a + 256 * b) = (a % 16 + a / 16) + 256 * pC m b := by
  have e : (a + 256 * b) / 16 + (a + 256 * b) = ((a % 16 + a / 16) + 16 * (a / 16 + b % 16)) + 256 * (b / 16 + b) := by omega
  have g1 := and_split 8 (a := (a % 16 + a / 16) + 16 * (a / 16 + b % 16)) (b := b / 16 + b) (c := 15) (d := m) (by omega) (by omega)
  have g2 := and_split 4 (a := a % 16 + a / 16) (b := a / 16 + b % 16) (c := 15) (d := 0) (by omega) (by omega)
  have g3 : (a % 16 + a / 16) &&& 15 = a % 16 + a / 16 := by
    rw [show (15 : Nat) = 2 ^ 4 - 1 from rfl, Nat.and_two_pow_sub_one_eq_mod]
    omega
  simp only [Nat.reducePow, Nat.and_zero, Nat.mul_zero, Nat.add_zero] at g1 g2
  unfold pC
  rw [e, g1, g2, g3]
/-- A byte's. -/
def qB (a : Nat) : Nat := pB 51 (pA 85 a)
theorem byte_all : ∀ a : Fin 256, pA 85 a.val < 256 ∧ qB a.val < 256 ∧ qB a.val % 16 ≤ 4 ∧ qB a.val / 16 ≤ 4 ∧ qB a.val % 16 + qB a.val / 16 = (classesN 8 a.val).length := by decide +kernel
theorem cnt_split {a : Nat} (ha : a < 256) (b : Nat) : ∀ n, (classesN (8 + n) (a + 256 * b)).length = (classesN 8 a).length + (classesN n b).length
  | 0 => by
    have e : classesN 8 (a + 256 * b) = classesN 8 a := by
      unfold classesN
      apply List.filter_congr
      intro i hi
      have h8 : i < 8 := List.mem_range.1 hi
      have := Nat.testBit_two_pow_mul_add b (show a < 2 ^ 8 from ha) i
      rw [if_pos h8] at this
      rw [Nat.add_comm a]
      exact this
    rw [Nat.add_zero, e]
    rfl
  | n + 1 => by
    have e : (a + 256 * b).testBit (8 + n) = b.testBit n := by
      have := Nat.testBit_two_pow_mul_add b (show a < 2 ^ 8 from ha) (8 + n)
      rw [if_neg (by omega), show 8 + n - 8 = n by omega] at this
      rw [Nat.add_comm a]
      exact this
    rw [← Nat.add_assoc, classesN_snoc (8 + n), classesN_snoc n b, List.length_append, List.length_append, cnt_split ha b n, e]
    cases b.testBit n <;> simp <;> omega
def mA : Nat := 6148914691236517205
def mB : Nat := 3689348814741910323
def mC : Nat := 1085102592571150095
theorem pA_lt {x : Nat} (h : x < 2 ^ 32) : pA mA x < 2 ^ 33 := by
  have h1 : x / 2 &&& mA ≤ x / 2 := Nat.and_le_left
  have h2 : x &&& mA ≤ x := Nat.and_le_left
  unfold pA
  omega
theorem four {p q r s : Nat} (hp : p < 256) (hq : q < 256) (hr : r < 256) (hs : s < 256) : p + 256 * (q + 256 * (r + 256 * (s + 256 * 0))) < 2 ^ 32 := by omega
theorem low16 {q x : Nat} (h : q % 16 ≤ 4) : (q + 256 * x) % 16 ≤ 4 := by omega
theorem ones_three {x : Nat} (h : x < 2 ^ 32) : ∃ p q r s : Nat, p ≤ 8 ∧ q ≤ 8 ∧ r ≤ 8 ∧ s ≤ 8 ∧ pC mC (pB mB (pA mA x)) = p + 256 * (q + 256 * (r + 256 * s)) ∧ (classesN 32 x).length = p + q + r + s ∧ pA mA x < 2 ^ 32 ∧ pB mB (pA mA x) < 2 ^ 32 := by
  obtain ⟨a, x1, ha, rfl⟩ : ∃ a x1, a < 256 ∧ x = a + 256 * x1 := ⟨x % 256, x / 256, by omega, by omega⟩
  obtain ⟨b, x2, hb, rfl⟩ : ∃ a y, a < 256 ∧ x1 = a + 256 * y := ⟨x1 % 256, x1 / 256, by omega, by omega⟩
  obtain ⟨c, x3, hc, rfl⟩ : ∃ a y, a < 256 ∧ x2 = a + 256 * y := ⟨x2 % 256, x2 / 256, by omega, by omega⟩
  obtain ⟨d, o, hd, ho, rfl⟩ : ∃ d o, d < 256 ∧ o = 0 ∧ x3 = d + 256 * o := ⟨x3, 0, by omega, rfl, by omega⟩
  have A := byte_all ⟨a, ha⟩
  have B := byte_all ⟨b, hb⟩
  have C := byte_all ⟨c, hc⟩
  have D := byte_all ⟨d, hd⟩
  simp only at A B C D
  have l1 := (classesN_le 8 a)
  have l2 := (classesN_le 8 b)
  have l3 := (classesN_le 8 c)
  have l4 := (classesN_le 8 d)
  have z : pA 1431655765 0 = 0 ∧ pB 858993459 0 = 0 ∧ pC 252645135 0 = 0 := by decide
  have e1 : pA mA (a + 256 * (b + 256 * (c + 256 * (d + 256 * o)))) = pA 85 a + 256 * (pA 85 b + 256 * (pA 85 c + 256 * (pA 85 d + 256 * 0))) := by
    rw [show mA = 85 + 256 * (85 + 256 * (85 + 256 * (85 + 256 * 1431655765))) from rfl, pA_split ha, pA_split hb, pA_split hc, pA_split hd, ho, z.1]
  have e2 : pB mB (pA 85 a + 256 * (pA 85 b + 256 * (pA 85 c + 256 * (pA 85 d + 256 * 0)))) = qB a + 256 * (qB b + 256 * (qB c + 256 * (qB d + 256 * 0))) := by
    rw [show mB = 51 + 256 * (51 + 256 * (51 + 256 * (51 + 256 * 858993459))) from rfl, pB_split A.1, pB_split B.1, pB_split C.1, pB_split D.1, z.2.1]
    rfl
  have e3 : pC mC (qB a + 256 * (qB b + 256 * (qB c + 256 * (qB d + 256 * 0)))) = (classesN 8 a).length + 256 * ((classesN 8 b).length + 256 * ((classesN 8 c).length + 256 * ((classesN 8 d).length + 256 * 0))) := by
    rw [show mC = 15 + 256 * (15 + 256 * (15 + 256 * (15 + 256 * 252645135))) from rfl, pC_split A.2.1 A.2.2.1 A.2.2.2.1 (low16 B.2.2.1), pC_split B.2.1 B.2.2.1 B.2.2.2.1 (low16 C.2.2.1), pC_split C.2.1 C.2.2.1 C.2.2.2.1 (low16 D.2.2.1), pC_split D.2.1 D.2.2.1 D.2.2.2.1 (by decide), z.2.2,
      A.2.2.2.2, B.2.2.2.2, C.2.2.2.2, D.2.2.2.2]
  have e4 := cnt_split ha (b + 256 * (c + 256 * (d + 256 * o))) 24
  have e5 := cnt_split hb (c + 256 * (d + 256 * o)) 16
  have e6 := cnt_split hc (d + 256 * o) 8
  simp only [ho, Nat.mul_zero, Nat.add_zero] at e4 e5 e6
  refine ⟨_, _, _, _, l1, l2, l3, l4, ?_, ?_, ?_, ?_⟩
  · rw [e1, e2, e3, Nat.mul_zero, Nat.add_zero]
  · rw [ho, Nat.mul_zero, Nat.add_zero, show (32 : Nat) = 8 + 24 from rfl, e4, show (24 : Nat) = 8 + 16 from rfl, e5, show (16 : Nat) = 8 + 8 from rfl, e6, Nat.add_assoc, Nat.add_assoc]
  · rw [e1]; exact four A.1 B.1 C.1 D.1
  · rw [e1, e2]; exact four A.2.1 B.2.1 C.2.1 D.2.1
/-- The last three steps. -/
theorem ones_last {p q r s : Nat} (hp : p ≤ 8) (hq : q ≤ 8) (hr : r ≤ 8) (hs : s ≤ 8) {y : Nat} (hy : y = p + 256 * (q + 256 * (r + 256 * s))) :
    ∃ y1 y2 : Nat, y1 = y + y / 256 ∧ y2 = y1 + y1 / 65536 ∧ y < 2 ^ 28 ∧ y1 < 2 ^ 29 ∧ y2 < 2 ^ 30 ∧ y2 / 2 ^ 32 = 0 ∧ y2 % 128 = p + q + r + s := by
  have e1 : y / 256 = q + 256 * (r + 256 * s) := by omega
  obtain ⟨y1, hy1⟩ : ∃ y1, y1 = y + y / 256 := ⟨_, rfl⟩
  have f1 : y1 = (p + q) + 256 * (q + r) + 65536 * ((r + s) + 256 * s) := by omega
  have e2 : y1 / 65536 = (r + s) + 256 * s := by omega
  obtain ⟨y2, hy2⟩ : ∃ y2, y2 = y1 + y1 / 65536 := ⟨_, rfl⟩
  have f2 : y2 = (p + q + r + s) + 128 * (2 * (q + r + s) + 512 * ((r + s) + 256 * s)) := by omega
  exact ⟨y1, y2, hy1, hy2, by omega, by omega, by omega, by omega, by omega⟩
end Go.Proofs.YtjacebnlikhjnaaDoor

namespace Go.Proofs.YtjacebnlikhjnaaDoor
open Go.RowKit Go.Shelf
attribute [local go_sem] Oper.semAt_some

theorem shlI {n : Nat} (h : n ≤ 32) : IntKind.i64.wrap (2 ^ min n 64) = ((2 ^ n : Nat) : Int) := by
  have h2 := two_32 h
  rw [show min n 64 = n by omega, show ((2 : Int) ^ n) = ((2 ^ n : Nat) : Int) by simp]
  obtain ⟨p, hp⟩ : ∃ p, 2 ^ n = p := ⟨_, rfl⟩
  rw [hp] at h2 ⊢
  rw [IntKind.wrap_i64]
  omega
theorem orK {x c : Nat} (hx : x < 2 ^ 32) (hc : c < 32) : bits .or .i64 ((x : Nat) : Int) ((2 ^ c : Nat) : Int) = ((x ||| 2 ^ c : Nat) : Int) :=
  (bits_nat .i64 32 (by decide) (fun n h0 h1 => by rw [IntKind.wrap_i64]; omega) x (2 ^ c) hx (Nat.pow_lt_pow_right (by decide) hc)).2
theorem andNotK {x n : Nat} (hn : n ≤ 32) (hx : x < 2 ^ n) : bits .andNot .i64 ((2 ^ n - 1 : Nat) : Int) ((x : Nat) : Int) = ((notN n x : Nat) : Int) := by
  have hp : 2 ^ n ≤ 2 ^ 32 := Nat.pow_le_pow_right (by decide) hn
  have hp1 := two_pos n
  have h64 : (2 : Nat) ^ 32 < 2 ^ 64 := by decide
  have e : (BitVec.ofNat 64 (2 ^ n - 1) &&& ~~~ BitVec.ofNat 64 x).toNat = notN n x := by
    apply Nat.eq_of_testBit_eq
    intro i
    rw [notN_bit hx, BitVec.testBit_toNat, BitVec.getLsbD_and, BitVec.getLsbD_not, ← BitVec.testBit_toNat, ← BitVec.testBit_toNat, BitVec.toNat_ofNat, BitVec.toNat_ofNat, Nat.mod_eq_of_lt (show 2 ^ n - 1 < 2 ^ 64 by omega), Nat.mod_eq_of_lt (show x < 2 ^ 64 by omega), Nat.testBit_two_pow_sub_one]
    by_cases h : i < n
    · rw [decide_eq_true h, decide_eq_true (show i < 64 by omega), Bool.true_and]
    · rw [decide_eq_false h, Bool.false_and, Bool.false_and]
  show IntKind.i64.wrap ((BitVec.ofInt 64 ((2 ^ n - 1 : Nat) : Int) &&& ~~~ BitVec.ofInt 64 ((x : Nat) : Int)).toNat : Int) = _
  rw [BitVec.ofInt_natCast, BitVec.ofInt_natCast, e]
  have : notN n x < 2 ^ n := notN_lt
  rw [IntKind.wrap_i64]
  omega
end Go.Proofs.YtjacebnlikhjnaaDoor

namespace Go.Proofs.YtjacebnlikhjnaaDoor

theorem letK_ne {b : UInt8} (h : letB b = true) : b ≠ 32 ∧ b ≠ 46 ∧ b ≠ 91 ∧ b ≠ 93 ∧ b ≠ 94 := by
  refine ⟨?_, ?_, ?_, ?_, ?_⟩ <;> (rintro rfl; revert h; decide)
theorem valueK_get {l : List ByteArray} (hn : l.Nodup) {v : Nat} {s : ByteArray} (h : l[v]? = some s) : valueL l s = some v := by
  cases hv : valueL l s with
  | none => exact absurd (List.mem_of_getElem? h) (valueL_none.1 hv)
  | some u =>
    obtain ⟨k1, e1⟩ := List.getElem?_eq_some_iff.1 h
    obtain ⟨k2, e2⟩ := List.getElem?_eq_some_iff.1 (valueL_some hv)
    rcases Nat.lt_trichotomy u v with h3 | h3 | h3
    · exact absurd (e2.trans e1.symm) (List.pairwise_iff_getElem.1 hn u v k2 k1 h3)
    · rw [h3]
    · exact absurd (e1.trans e2.symm) (List.pairwise_iff_getElem.1 hn v u k1 k2 h3)
theorem nameAt_get {ns : List ByteArray} {c : Nat} (h : c < ns.length) : ns[c]? = some (nameAt ns c) := by
  unfold nameAt
  rw [List.getD_eq_getElem?_getD, List.getElem?_eq_getElem h]
  rfl
theorem nameAt_ok {ns : List ByteArray} (hn : namesL ns) {c : Nat} (h : c < ns.length) : nameS (nameAt ns c) := hn.1 _ (List.mem_of_getElem? (nameAt_get h))
theorem nameAt_value {ns : List ByteArray} (hn : namesL ns) {c : Nat} (h : c < ns.length) : valueL ns (nameAt ns c) = some c := valueK_get hn.2.1 (nameAt_get h)
theorem splitK_head : ∀ {x b : List UInt8}, 32 ∉ x → splitL 32 (x ++ 32 :: b) = x :: splitL 32 b
  | [], b, _ => by simp [splitL]
  | y :: x, b, h => by
    have h0 : y ≠ 32 := fun e => h (by simp [e])
    rw [List.cons_append, splitL, if_neg h0, splitK_head (fun hm => h (List.mem_cons_of_mem _ hm))]
    rfl
theorem splitK_whole {x : List UInt8} (h : 32 ∉ x) : splitL 32 x = [x] := splitL_none fun _ hk => h (List.mem_of_getElem? hk)
theorem joinK_two (x y : List UInt8) (r : List (List UInt8)) : Lib.join (x :: y :: r) [32] = x ++ 32 :: Lib.join (y :: r) [32] := by
  simp [Lib.join, List.intercalate]
theorem splitK_join : ∀ {l : List (List UInt8)}, l ≠ [] → (∀ x ∈ l, 32 ∉ x) → splitL 32 (Lib.join l [32]) = l
  | [], h, _ => absurd rfl h
  | [x], _, h => by
    have : Lib.join [x] [32] = x := by simp [Lib.join, List.intercalate]
    rw [this]
    exact splitK_whole (h x (by simp))
  | x :: y :: r, _, h => by
    rw [joinK_two, splitK_head (h x (by simp)), splitK_join (by simp) (fun z hz => h z (List.mem_cons_of_mem _ hz))]
abbrev nameB (ns : List ByteArray) (c : Nat) : List UInt8 := (nameAt ns c).data.toList
theorem nameB_pos {ns : List ByteArray} (hn : namesL ns) {c : Nat} (h : c < ns.length) : nameB ns c ≠ [] := fun e => by
  have h1 := (nameAt_ok hn h).2.1
  have : (nameAt ns c).data.toList.length = (nameAt ns c).size := Array.length_toList
  have e2 : (nameAt ns c).data.toList = [] := e
  rw [e2] at this
  simp at this
  omega
theorem nameB_let {ns : List ByteArray} (hn : namesL ns) {c : Nat} (h : c < ns.length) : ∀ b ∈ nameB ns c, letB b = true := (nameAt_ok hn h).1
theorem arr_data (s : ByteArray) : (⟨s.data.toList.toArray⟩ : ByteArray) = s := by simp
theorem withinK {ns : List ByteArray} (hn : namesL ns) : ∀ (cs : List Nat) (x : Nat), cs.Nodup → (∀ c ∈ cs, c < ns.length) → (∀ c ∈ cs, x.testBit c = false) → withinL ns x (cs.map (nameB ns)) = some (orN x cs)
  | [], x, _, _, _ => rfl
  | c :: cs, x, hd, hl, hx => by
    have hd' := List.nodup_cons.1 hd
    rw [List.map_cons, withinL, arr_data, nameAt_value hn (hl c (by simp))]
    show (if x.testBit c = true then none else _) = _
    rw [if_neg (by rw [hx c (by simp)]; simp), withinK hn cs _ hd'.2 (fun d hd => hl d (List.mem_cons_of_mem _ hd)) (fun d hm => by
      rw [bit_or_two, hx d (List.mem_cons_of_mem _ hm), Bool.false_or]
      exact decide_eq_false fun e => hd'.1 (e ▸ hm))]
    rfl
theorem listB_nil_iff {ns : List ByteArray} (hn : namesL ns) : ∀ {cs : List Nat}, (∀ c ∈ cs, c < ns.length) → (listB ns cs = [] ↔ cs = [])
  | [], _ => by simp [listB, Lib.join, List.intercalate]
  | [c], h => by
    have := nameB_pos hn (h c (by simp))
    simpa [listB, Lib.join, List.intercalate] using this
  | c :: d :: r, h => by
    unfold listB
    rw [List.map_cons, List.map_cons, joinK_two]
    simp
theorem listB_head {ns : List ByteArray} (hn : namesL ns) : ∀ {cs : List Nat}, (∀ c ∈ cs, c < ns.length) → ∀ b, (listB ns cs).head? = some b → letB b = true
  | [], _, b, hb => by simp [listB, Lib.join, List.intercalate] at hb
  | c :: r, h, b, hb => by
    have hp := nameB_pos hn (h c (by simp))
    have hl := nameB_let hn (h c (by simp))
    have e : (listB ns (c :: r)).head? = (nameB ns c).head? := by
      unfold listB
      cases hc : nameB ns c with
      | nil => exact absurd hc hp
      | cons y t =>
        have hc' : (nameAt ns c).data.toList = y :: t := hc
        cases r with
        | nil => simp [Lib.join, List.intercalate, hc']
        | cons d r => rw [List.map_cons, List.map_cons, joinK_two, hc']; rfl
    rw [e] at hb
    exact hl b (List.mem_of_mem_head? hb)
theorem listedK {ns : List ByteArray} (hn : namesL ns) {cs : List Nat} (hd : cs.Nodup) (hl : ∀ c ∈ cs, c < ns.length) : listedL ns (listB ns cs) = some (orN 0 cs) := by
  unfold listedL
  by_cases h : cs = []
  · rw [if_pos ((listB_nil_iff hn hl).2 h), h]; rfl
  · rw [if_neg fun e => h ((listB_nil_iff hn hl).1 e)]
    show withinL ns 0 (splitL 32 (Lib.join (cs.map (nameB ns)) [32])) = _
    rw [splitK_join (by simpa using h) (fun x hx => by
      obtain ⟨c, hc, rfl⟩ := List.mem_map.1 hx
      exact fun hm => (letK_ne (nameB_let hn (hl c hc) _ hm)).1 rfl)]
    exact withinK hn cs 0 hd hl (fun c _ => Nat.zero_testBit c)
theorem classesK_lt (n x : Nat) : ∀ c ∈ classesN n x, c < n := fun _ h => (classesN_mem.1 h).1
theorem listed_classes {ns : List ByteArray} (hn : namesL ns) {x : Nat} (hx : x < 2 ^ ns.length) : listedL ns (listB ns (classesN ns.length x)) = some x := by
  rw [listedK hn (classesN_nodup _ _) (classesK_lt _ _), orN_classes hx]
theorem read_out {ns : List ByteArray} (L : List UInt8) : readL ns ([91, 94] ++ L ++ [93]) = (listedL ns L).map (notN ns.length) := by
  have e : ([91, 94] ++ L ++ [93]).dropLast = [91, 94] ++ L := List.dropLast_concat
  have e2 : ([91, 94] ++ L ++ [93]).getLast? = some 93 := List.getLast?_concat
  unfold readL
  rw [e, e2, if_neg (by simp), if_pos ⟨rfl, ⟨L, rfl⟩⟩]
  rfl
theorem read_in {ns : List ByteArray} {L : List UInt8} (hL : L.head? ≠ some 94) : readL ns ([91] ++ L ++ [93]) = listedL ns L := by
  have e : ([91] ++ L ++ [93]).dropLast = [91] ++ L := List.dropLast_concat
  have e2 : ([91] ++ L ++ [93]).getLast? = some 93 := List.getLast?_concat
  unfold readL
  rw [e, e2, if_neg (by simp), if_neg (fun h => hL (by
    obtain ⟨t, ht⟩ := h.2
    have : L = 94 :: t := by simpa using ht.symm
    rw [this]; rfl)), if_pos ⟨rfl, ⟨L, rfl⟩⟩]
  rfl
theorem listB_94 {ns : List ByteArray} (hn : namesL ns) {cs : List Nat} (hl : ∀ c ∈ cs, c < ns.length) : (listB ns cs).head? ≠ some 94 := fun h => (letK_ne (listB_head hn hl _ h)).2.2.2.2 rfl
theorem read_name {ns : List ByteArray} {s : List UInt8} (hs : ∀ b ∈ s, letB b = true) : readL ns s = (valueL ns ⟨s.toArray⟩).map (2 ^ ·) := by
  have h93 : s.getLast? ≠ some 93 := fun e => (letK_ne (hs 93 (List.mem_of_getLast? e))).2.2.2.1 rfl
  unfold readL
  rw [if_neg (by rintro rfl; exact (letK_ne (hs 46 (by simp))).2.1 rfl), if_neg (fun h => h93 h.1), if_neg (fun h => h93 h.1)]
/-- What a set's text says is it. -/
theorem read_text {ns : List ByteArray} (hn : namesL ns) {x : Nat} (hx : x < 2 ^ ns.length) : readL ns (textB ns x) = some x := by
  unfold textB
  split
  · rename_i h
    unfold readL
    rw [if_pos rfl, h]
  · split
    · rename_i h
      obtain ⟨c, hc⟩ := List.length_eq_one_iff.1 h
      have hcl := classesK_lt ns.length x c (by rw [hc]; simp)
      have e : listB ns [c] = nameB ns c := by simp [listB, Lib.join, List.intercalate]
      rw [hc, e, read_name (nameB_let hn hcl), arr_data, nameAt_value hn hcl]
      have := orN_classes hx
      rw [hc] at this
      simpa [orN] using this
    · split
      · rw [read_out, listed_classes hn notN_lt, Option.map_some, notN_notN hx]
      · rw [read_in (listB_94 hn (classesK_lt _ _)), listed_classes hn hx]
theorem withinL_lt {ns : List ByteArray} : ∀ {l : List (List UInt8)} {x y : Nat}, x < 2 ^ ns.length → withinL ns x l = some y → y < 2 ^ ns.length
  | [], x, y, hx, h => by injection h with h; rwa [← h]
  | t :: l, x, y, hx, h => by
    unfold withinL at h
    split at h
    · cases h
    · rename_i c hc
      split at h
      · cases h
      · exact withinL_lt (or_two_lt hx (valueL_lt hc)) h
theorem listedL_lt {ns : List ByteArray} {t : List UInt8} {y : Nat} (h : listedL ns t = some y) : y < 2 ^ ns.length := by
  unfold listedL at h
  split at h
  · injection h with h; rw [← h]; exact two_pos _
  · exact withinL_lt (two_pos _) h
theorem readL_lt {ns : List ByteArray} {s : List UInt8} {y : Nat} (h : readL ns s = some y) : y < 2 ^ ns.length := by
  have hp := two_pos ns.length
  unfold readL at h
  split at h
  · injection h with h; omega
  · split at h
    · obtain ⟨z, _, rfl⟩ := Option.map_eq_some_iff.1 h
      exact notN_lt
    · split at h
      · exact listedL_lt h
      · obtain ⟨c, hc, rfl⟩ := Option.map_eq_some_iff.1 h
        exact Nat.pow_lt_pow_right (by decide) (valueL_lt hc)
/-- A set's text, with ^ put behind its bracket, or taken away. -/
def othersB (s : List UInt8) : List UInt8 := if s[1]? = some 94 then 91 :: s.drop 2 else [91, 94] ++ s.drop 1
theorem read_others {ns : List ByteArray} (hn : namesL ns) {x : Nat} (hx : x < 2 ^ ns.length) (h0 : (textB ns x).head? = some 91) : readL ns (othersB (textB ns x)) = some (notN ns.length x) := by
  unfold textB at h0 ⊢
  split at h0
  · simp at h0
  · rename_i g0
    rw [if_neg g0]
    split at h0
    · rename_i h
      exact absurd rfl (letK_ne (listB_head hn (classesK_lt _ _) _ h0)).2.2.1
    · rename_i g1
      rw [if_neg g1]
      split
      · have e : othersB ([91, 94] ++ listB ns (classesN ns.length (notN ns.length x)) ++ [93]) = [91] ++ listB ns (classesN ns.length (notN ns.length x)) ++ [93] := rfl
        rw [e, read_in (listB_94 hn (classesK_lt _ _)), listed_classes hn notN_lt]
      · have e : othersB ([91] ++ listB ns (classesN ns.length x) ++ [93]) = [91, 94] ++ listB ns (classesN ns.length x) ++ [93] := by
          unfold othersB
          have h94 := listB_94 hn (classesK_lt ns.length x)
          rw [if_neg (by
            cases hl : listB ns (classesN ns.length x) with
            | nil => simp
            | cons b t => rw [hl] at h94; simpa using h94)]
          rfl
        rw [e, read_out, listed_classes hn hx, Option.map_some]
/-- As the document reads a text. -/
def refReadL (ns : List ByteArray) (s : List UInt8) : Option Nat :=
  if s = [46] then some (2 ^ ns.length - 1)
  else match valueL ns ⟨s.toArray⟩ with
    | some c => some (2 ^ c)
    | none => if 2 ≤ s.length ∧ s.head? = some 91 ∧ s.getLast? = some 93 then
        (if (s.drop 1).dropLast.head? = some 94 then (listedL ns ((s.drop 1).dropLast.drop 1)).map (notN ns.length) else listedL ns (s.drop 1).dropLast)
      else none
theorem refReadL_eq {ns : List ByteArray} (hn : namesL ns) (s : List UInt8) : refReadL ns s = readL ns s := by
  unfold refReadL
  split
  · rename_i h
    unfold readL
    rw [if_pos h]
  · rename_i h46
    cases hv : valueL ns ⟨s.toArray⟩ with
    | some c =>
      have hm := hn.1 _ (List.mem_of_getElem? (valueL_some hv))
      have hb : ∀ b ∈ s, letB b = true := by simpa using hm.1
      rw [read_name hb, hv]
      rfl
    | none =>
      show (if _ then _ else none) = _
      by_cases h2 : 2 ≤ s.length ∧ s.head? = some 91 ∧ s.getLast? = some 93
      · rw [if_pos h2]
        obtain ⟨r, hr⟩ := List.getLast?_eq_some_iff.1 h2.2.2
        cases r with
        | nil => rw [hr] at h2; simp at h2
        | cons a L =>
          have ha : a = 91 := by
            have := h2.2.1
            rw [hr] at this
            simpa using this
          subst ha
          have hs : s = [91] ++ L ++ [93] := hr
          have e : ([91] ++ L ++ [93]).drop 1 = L ++ [93] := rfl
          rw [hs, e, List.dropLast_concat]
          split
          · rename_i h94
            cases L with
            | nil => simp at h94
            | cons b M =>
              obtain rfl : b = 94 := by simpa using h94
              exact (read_out M).symm
          · rename_i h94
            exact (read_in h94).symm
      · rw [if_neg h2]
        have no : ∀ p, [91] <+: p → p = s.dropLast → s.getLast? = some 93 → False := fun p hp he h93 => by
          obtain ⟨r, hr⟩ := List.getLast?_eq_some_iff.1 h93
          rw [hr, List.dropLast_concat] at he
          obtain ⟨t, ht⟩ := hp
          rw [← ht] at he
          rw [hr, ← he] at h2
          exact h2 ⟨by simp, by simp, List.getLast?_concat⟩
        unfold readL
        rw [if_neg h46, if_neg fun h => no s.dropLast (by
          obtain ⟨t, ht⟩ := h.2
          exact ⟨94 :: t, by simpa using ht⟩) rfl h.1, if_neg fun h => no s.dropLast h.2 rfl h.1, hv]
        rfl
end Go.Proofs.YtjacebnlikhjnaaDoor

namespace Go.Proofs.YtjacebnlikhjnaaDoor

/-- A text's parts, by the blanks that stand in no brackets. -/
def partsL : Bool → List UInt8 → List UInt8 → List (List UInt8)
  | _, cur, [] => [cur]
  | inn, cur, b :: t => if b = 32 ∧ inn = false then cur :: partsL false [] t else partsL (b == 91 || (inn && b != 93)) (cur ++ [b]) t
/-- Within brackets or not, behind a text that has no blank outside of them. -/
def scanB : Bool → List UInt8 → Option Bool
  | inn, [] => some inn
  | inn, b :: t => if b = 32 ∧ inn = false then none else scanB (b == 91 || (inn && b != 93)) t
theorem scanB_append : ∀ (a b : List UInt8) (inn : Bool), scanB inn (a ++ b) = (scanB inn a).bind fun q => scanB q b
  | [], _, _ => rfl
  | c :: a, b, inn => by
    rw [List.cons_append, scanB, scanB]
    split
    · rfl
    · exact scanB_append a b _
theorem parts_scan : ∀ (t r cur : List UInt8) (inn q : Bool), scanB inn t = some q → partsL inn cur (t ++ r) = partsL q (cur ++ t) r
  | [], r, cur, inn, q, h => by
    have : inn = q := by simpa [scanB] using h
    rw [this, List.nil_append, List.append_nil]
  | b :: t, r, cur, inn, q, h => by
    rw [scanB] at h
    rw [List.cons_append, partsL]
    split at h
    · cases h
    · rename_i hc
      rw [if_neg hc, parts_scan t r _ _ q h, List.append_assoc]
      rfl
theorem parts_join : ∀ ts : List (List UInt8), ts ≠ [] → (∀ t ∈ ts, scanB false t = some false) → partsL false [] (Lib.join ts [32]) = ts
  | [], h, _ => absurd rfl h
  | [t], _, hs => by
    have h := parts_scan t [] [] false false (hs t (by simp))
    rw [List.append_nil, List.nil_append] at h
    rw [show Lib.join [t] [32] = t from by simp [Lib.join, List.intercalate], h]
    rfl
  | t :: u :: r, _, hs => by
    have ih := parts_join (u :: r) (by simp) (fun x hx => hs x (List.mem_cons_of_mem _ hx))
    rw [joinK_two, parts_scan t _ [] false false (hs t (by simp)), List.nil_append, partsL, if_pos ⟨rfl, rfl⟩, ih]
theorem scanB_out : ∀ t : List UInt8, (∀ b ∈ t, b ≠ 32 ∧ b ≠ 91) → scanB false t = some false
  | [], _ => rfl
  | b :: t, h => by
    have hb := h b (by simp)
    rw [scanB, if_neg (fun e => hb.1 e.1), show (b == 91 || (false && b != 93)) = false from by simp [hb.2]]
    exact scanB_out t fun c hc => h c (List.mem_cons_of_mem _ hc)
theorem scanB_in : ∀ t : List UInt8, (∀ b ∈ t, b ≠ 93) → scanB true t = some true
  | [], _ => rfl
  | b :: t, h => by
    have hb := h b (by simp)
    rw [scanB, if_neg (fun e => by cases e.2), show (b == 91 || (true && b != 93)) = true from by simp [hb]]
    exact scanB_in t fun c hc => h c (List.mem_cons_of_mem _ hc)
theorem scanB_set {m : List UInt8} (h : ∀ b ∈ m, b ≠ 93) : scanB false (91 :: (m ++ [93])) = some false := by
  rw [scanB, if_neg (by decide)]
  show scanB true (m ++ [93]) = _
  rw [scanB_append, scanB_in m h]
  rfl
theorem listB_bytes {ns : List ByteArray} (hn : namesL ns) : ∀ cs : List Nat, (∀ c ∈ cs, c < ns.length) → ∀ b ∈ listB ns cs, letB b = true ∨ b = 32
  | [], _, b, hb => by simp [listB, Lib.join, List.intercalate] at hb
  | [c], h, b, hb => by
    have e : listB ns [c] = nameB ns c := by simp [listB, Lib.join, List.intercalate]
    rw [e] at hb
    have hm := hn.1 _ (List.mem_of_getElem? (nameAt_get (h c (by simp))))
    exact .inl (hm.1 b hb)
  | c :: d :: r, h, b, hb => by
    have e : listB ns (c :: d :: r) = nameB ns c ++ 32 :: listB ns (d :: r) := by
      unfold listB
      rw [List.map_cons, List.map_cons, joinK_two]
    rw [e] at hb
    have hm := hn.1 _ (List.mem_of_getElem? (nameAt_get (h c (by simp))))
    rcases List.mem_append.1 hb with hb | hb
    · exact .inl (hm.1 b hb)
    · rcases List.mem_cons.1 hb with hb | hb
      · exact .inr hb
      · exact listB_bytes hn (d :: r) (fun x hx => h x (List.mem_cons_of_mem _ hx)) b hb
theorem listB_93 {ns : List ByteArray} (hn : namesL ns) {cs : List Nat} (h : ∀ c ∈ cs, c < ns.length) : ∀ b ∈ listB ns cs, b ≠ 93 := fun b hb => by
  rcases listB_bytes hn cs h b hb with g | rfl
  · exact (letK_ne g).2.2.2.1
  · decide
/-- A set's text has no blank outside brackets, and closes them. -/
theorem textB_scan {ns : List ByteArray} (hn : namesL ns) (x : Nat) : scanB false (textB ns x) = some false := by
  unfold textB
  split
  · rfl
  · split
    · rename_i h1
      obtain ⟨c, hc⟩ := List.length_eq_one_iff.1 h1
      have hlt := classesK_lt ns.length x c (by rw [hc]; simp)
      have e : listB ns [c] = nameB ns c := by simp [listB, Lib.join, List.intercalate]
      have hm := hn.1 _ (List.mem_of_getElem? (nameAt_get hlt))
      rw [hc, e]
      exact scanB_out _ fun b hb => ⟨(letK_ne (hm.1 b hb)).1, (letK_ne (hm.1 b hb)).2.2.1⟩
    · split
      · exact scanB_set (m := 94 :: listB ns (classesN ns.length (notN ns.length x))) fun b hb => by
          rcases List.mem_cons.1 hb with rfl | hb
          · decide
          · exact listB_93 hn (classesK_lt _ _) b hb
      · exact scanB_set (m := listB ns (classesN ns.length x)) (listB_93 hn (classesK_lt _ _))
/-- An item's text: its set's, and as many stars. -/
def itemB (ns : List ByteArray) (x how : Nat) : List UInt8 := textB ns x ++ List.replicate how 42
theorem itemB_scan {ns : List ByteArray} (hn : namesL ns) (x how : Nat) : scanB false (itemB ns x how) = some false := by
  unfold itemB
  rw [scanB_append, textB_scan hn]
  exact scanB_out _ fun b hb => by
    rw [List.eq_of_mem_replicate hb]
    decide
theorem letK_42 {b : UInt8} (h : letB b = true) : b ≠ 42 := by rintro rfl; revert h; decide
theorem textB_last {ns : List ByteArray} (hn : namesL ns) (x : Nat) : ∃ b, (textB ns x).getLast? = some b ∧ b ≠ 42 := by
  unfold textB
  split
  · exact ⟨46, rfl, by decide⟩
  · split
    · rename_i h1
      obtain ⟨c, hc⟩ := List.length_eq_one_iff.1 h1
      have hlt := classesK_lt ns.length x c (by rw [hc]; simp)
      have e : listB ns [c] = nameB ns c := by simp [listB, Lib.join, List.intercalate]
      have hm := hn.1 _ (List.mem_of_getElem? (nameAt_get hlt))
      rw [hc, e]
      have hne : nameB ns c ≠ [] := fun h => by
        have h2 := hm.2.1
        have h3 : (nameAt ns c).data.toList.length = (nameAt ns c).size := Array.length_toList
        rw [show (nameAt ns c).data.toList = [] from h, List.length_nil] at h3
        omega
      exact ⟨_, List.getLast?_eq_some_getLast hne, letK_42 (hm.1 _ (List.getLast_mem hne))⟩
    · split
      · exact ⟨93, List.getLast?_concat, by decide⟩
      · exact ⟨93, List.getLast?_concat, by decide⟩
/-- Without the stars behind it. -/
def bareB (s : List UInt8) : List UInt8 := (s.reverse.dropWhile (· == 42)).reverse
theorem bareB_stars {t : List UInt8} {b : UInt8} (h : t.getLast? = some b) (hb : b ≠ 42) : ∀ k, bareB (t ++ List.replicate k 42) = t
  | 0 => by
    unfold bareB
    rw [List.replicate_zero, List.append_nil]
    obtain ⟨r, rfl⟩ := List.getLast?_eq_some_iff.1 h
    rw [List.reverse_append, List.reverse_cons, List.reverse_nil, List.nil_append, List.cons_append, List.nil_append, List.dropWhile_cons_of_neg (by simpa using hb), List.reverse_cons, List.reverse_reverse]
  | k + 1 => by
    have ih := bareB_stars h hb k
    unfold bareB at ih ⊢
    rw [List.replicate_succ', ← List.append_assoc, List.reverse_append, List.reverse_cons, List.reverse_nil, List.nil_append, List.cons_append, List.nil_append, List.dropWhile_cons_of_pos (by decide)]
    exact ih
/-- The item that a part says. -/
def itemR (ns : List ByteArray) (s : List UInt8) : Option (Nat × Nat) :=
  if s.length - (bareB s).length ≤ 2 then (readL ns (bareB s)).map fun x => (x, s.length - (bareB s).length) else none
theorem itemR_itemB {ns : List ByteArray} (hn : namesL ns) {x how : Nat} (hx : x < 2 ^ ns.length) (hh : how ≤ 2) : itemR ns (itemB ns x how) = some (x, how) := by
  obtain ⟨b, h1, h2⟩ := textB_last hn x
  have e : bareB (itemB ns x how) = textB ns x := bareB_stars h1 h2 how
  have hl : (itemB ns x how).length - (textB ns x).length = how := by
    unfold itemB
    rw [List.length_append, List.length_replicate]
    omega
  unfold itemR
  rw [e, hl, if_pos hh, read_text hn hx]
  rfl
end Go.Proofs.YtjacebnlikhjnaaDoor

namespace Go.Proofs.YtjacebnlikhjnaaDoor

/-- What stands from one place up to another. -/
def segP (l : List Int) (i j : Nat) : List Int := (l.drop i).take (j - i)
theorem segP_self (l : List Int) (i : Nat) : segP l i i = [] := by unfold segP; rw [Nat.sub_self, List.take_zero]
theorem segP_snoc {l : List Int} {i j : Nat} {c : Int} (hi : i ≤ j) (hc : l[j]? = some c) : segP l i (j + 1) = segP l i j ++ [c] := by
  unfold segP
  rw [show j + 1 - i = (j - i) + 1 from by omega, List.take_add_one, List.getElem?_drop, show i + (j - i) = j from by omega, hc]
  rfl
theorem segP_len {l : List Int} {i j : Nat} (hi : i ≤ j) (hj : j ≤ l.length) : (segP l i j).length = j - i := by
  unfold segP
  rw [List.length_take, List.length_drop]
  omega
theorem segP_parts {l : List Int} {i k j : Nat} (h1 : i ≤ k) (h2 : k ≤ j) : segP l i j = segP l i k ++ segP l k j := by
  unfold segP
  rw [show j - i = (k - i) + (j - k) from by omega, List.take_add, List.drop_drop, show i + (k - i) = k from by omega]
theorem segP_cut {l : List Int} {i j : Nat} {a b : List Int} (hi : i ≤ j) (hj : j ≤ l.length) (h : segP l i j = a ++ b) : i + a.length ≤ j ∧ a = segP l i (i + a.length) ∧ b = segP l (i + a.length) j := by
  have hl := segP_len hi hj
  rw [h, List.length_append] at hl
  have hk : i + a.length ≤ j := by omega
  refine ⟨hk, ?_⟩
  have h2 := segP_parts (l := l) (show i ≤ i + a.length by omega) hk
  rw [h] at h2
  have h3 := segP_len (l := l) (show i ≤ i + a.length by omega) (by omega)
  exact List.append_inj h2 (by rw [h3]; omega)
/-- One item's ends: out, and half. -/
def endsR (x : ItemP) (l : List Int) (from_ : Nat → Bool) : Nat → Bool × Bool
  | 0 => (from_ 0 && decide (x.2 ≠ 0), false)
  | i + 1 =>
    ((match l[i]? with | some c => hasZ x.1 c && ((decide (x.2 = 0) && from_ i) || (decide (x.2 = 1) && (endsR x l from_ i).1) || (decide (x.2 = 2) && (endsR x l from_ i).2)) | none => false) || (from_ (i + 1) && decide (x.2 ≠ 0)),
      match l[i]? with | some c => hasZ x.1 c && (decide (x.2 = 2) && (endsR x l from_ i).1) | none => false)
theorem eats_snoc {x : ItemP} (s : List Int) (c : Int) :
    eatsP x (s ++ [c]) ↔ hasZ x.1 c = true ∧ ((x.2 = 0 ∧ s = []) ∨ (x.2 = 1 ∧ eatsP x s) ∨ (x.2 = 2 ∧ (∀ d ∈ s, hasZ x.1 d = true) ∧ s.length % 2 = 1)) := by
  unfold eatsP
  rw [List.length_append, List.length_singleton]
  constructor
  · rintro ⟨h1, h2⟩
    refine ⟨h1 c (by simp), ?_⟩
    have h3 : ∀ d ∈ s, hasZ x.1 d = true := fun d hd => h1 d (by simp [hd])
    rcases h2 with h | h | h
    · exact .inr (.inl ⟨h, h3, .inl h⟩)
    · exact .inl ⟨h.1, List.eq_nil_of_length_eq_zero (by omega)⟩
    · exact .inr (.inr ⟨h.1, h3, by omega⟩)
  · rintro ⟨h1, (⟨h, rfl⟩ | ⟨h, h2, _⟩ | ⟨h, h2, h3⟩)⟩
    · exact ⟨by simpa using h1, .inr (.inl ⟨h, rfl⟩)⟩
    · refine ⟨fun d hd => ?_, .inl h⟩
      rcases List.mem_append.1 hd with hd | hd
      · exact h2 d hd
      · rw [List.mem_singleton.1 hd]; exact h1
    · refine ⟨fun d hd => ?_, .inr (.inr ⟨h, by omega⟩)⟩
      rcases List.mem_append.1 hd with hd | hd
      · exact h2 d hd
      · rw [List.mem_singleton.1 hd]; exact h1
theorem eats_nil_iff {x : ItemP} (hw : x.2 = 0 ∨ x.2 = 1 ∨ x.2 = 2) : eatsP x [] ↔ x.2 ≠ 0 := by
  constructor
  · rintro ⟨_, (h | h | h)⟩
    · omega
    · simp at h
    · omega
  · intro h; exact eatsP_nil (by omega)
theorem ends_iff {x : ItemP} (hw : x.2 = 0 ∨ x.2 = 1 ∨ x.2 = 2) (l : List Int) (F : Nat → Bool) : ∀ j, j ≤ l.length →
    (((endsR x l F j).1 = true ↔ ∃ i, i ≤ j ∧ F i = true ∧ eatsP x (segP l i j)) ∧
     ((endsR x l F j).2 = true ↔ x.2 = 2 ∧ ∃ i, i ≤ j ∧ F i = true ∧ (∀ d ∈ segP l i j, hasZ x.1 d = true) ∧ (segP l i j).length % 2 = 1)) := by
  intro j
  induction j with
  | zero =>
    intro _
    constructor
    · show (F 0 && decide (x.2 ≠ 0)) = true ↔ _
      rw [Bool.and_eq_true, decide_eq_true_eq]
      constructor
      · rintro ⟨h1, h2⟩; exact ⟨0, Nat.le_refl _, h1, by rw [segP_self, eats_nil_iff hw]; exact h2⟩
      · rintro ⟨i, hi, h1, h2⟩
        obtain rfl : i = 0 := by omega
        rw [segP_self, eats_nil_iff hw] at h2
        exact ⟨h1, h2⟩
    · show false = true ↔ _
      constructor
      · intro h; cases h
      · rintro ⟨_, i, hi, _, _, h⟩
        obtain rfl : i = 0 := by omega
        rw [segP_self] at h
        simp at h
  | succ j ih =>
    intro hj
    obtain ⟨ih1, ih2⟩ := ih (by omega)
    obtain ⟨c, hc⟩ : ∃ c, l[j]? = some c := ⟨_, List.getElem?_eq_getElem (by omega)⟩
    constructor
    · show ((match l[j]? with | some c => hasZ x.1 c && ((decide (x.2 = 0) && F j) || (decide (x.2 = 1) && (endsR x l F j).1) || (decide (x.2 = 2) && (endsR x l F j).2)) | none => false) || (F (j + 1) && decide (x.2 ≠ 0))) = true ↔ _
      rw [hc]
      simp only [Bool.or_eq_true, Bool.and_eq_true, decide_eq_true_eq, ih1, ih2]
      constructor
      · rintro (⟨h0, ((⟨h1, h2⟩ | ⟨h1, i, hi, h2, h3⟩) | ⟨h1, _, i, hi, h2, h3, h4⟩)⟩ | ⟨h1, h2⟩)
        · exact ⟨j, by omega, h2, by rw [segP_snoc (Nat.le_refl _) hc, eats_snoc, segP_self]; exact ⟨h0, .inl ⟨h1, rfl⟩⟩⟩
        · exact ⟨i, by omega, h2, by rw [segP_snoc hi hc, eats_snoc]; exact ⟨h0, .inr (.inl ⟨h1, h3⟩)⟩⟩
        · exact ⟨i, by omega, h2, by rw [segP_snoc hi hc, eats_snoc]; exact ⟨h0, .inr (.inr ⟨h1, h3, h4⟩)⟩⟩
        · exact ⟨j + 1, Nat.le_refl _, h1, by rw [segP_self, eats_nil_iff hw]; exact h2⟩
      · rintro ⟨i, hi, h1, h2⟩
        rcases Nat.lt_or_ge j i with h | h
        · obtain rfl : i = j + 1 := by omega
          rw [segP_self, eats_nil_iff hw] at h2
          exact .inr ⟨h1, h2⟩
        · rw [segP_snoc h hc, eats_snoc] at h2
          refine .inl ⟨h2.1, ?_⟩
          rcases h2.2 with ⟨g1, g2⟩ | ⟨g1, g2⟩ | ⟨g1, g2, g3⟩
          · have hl := segP_len (l := l) h (by omega)
            rw [g2, List.length_nil] at hl
            obtain rfl : i = j := by omega
            exact .inl (.inl ⟨g1, h1⟩)
          · exact .inl (.inr ⟨g1, i, h, h1, g2⟩)
          · exact .inr ⟨g1, g1, i, h, h1, g2, g3⟩
    · show (match l[j]? with | some c => hasZ x.1 c && (decide (x.2 = 2) && (endsR x l F j).1) | none => false) = true ↔ _
      rw [hc]
      simp only [Bool.and_eq_true, decide_eq_true_eq, ih1]
      constructor
      · rintro ⟨h0, h1, i, hi, h2, h3⟩
        refine ⟨h1, i, by omega, h2, ?_, ?_⟩
        · rw [segP_snoc hi hc]
          intro d hd
          rcases List.mem_append.1 hd with hd | hd
          · exact h3.1 d hd
          · rw [List.mem_singleton.1 hd]; exact h0
        · rw [segP_snoc hi hc, List.length_append, List.length_singleton]
          rcases h3.2 with g | g | g
          · omega
          · omega
          · omega
      · rintro ⟨h1, i, hi, h2, h3, h4⟩
        rcases Nat.lt_or_ge j i with h | h
        · obtain rfl : i = j + 1 := by omega
          rw [segP_self] at h4
          simp at h4
        · rw [segP_snoc h hc] at h3 h4
          rw [List.length_append, List.length_singleton] at h4
          exact ⟨h3 c (by simp), h1, i, h, h2, fun d hd => h3 d (by simp [hd]), .inr (.inr ⟨h1, by omega⟩)⟩
/-- The places that items end at, from some places on. -/
def reachR (l : List Int) : List ItemP → (Nat → Bool) → Nat → Bool
  | [], F => F
  | x :: r, F => reachR l r fun j => (endsR x l F j).1
theorem reach_iff (l : List Int) : ∀ (xs : List ItemP), howP xs → ∀ (F : Nat → Bool) (j : Nat), j ≤ l.length → (reachR l xs F j = true ↔ ∃ i, i ≤ j ∧ F i = true ∧ fitsP xs (segP l i j))
  | [], _, F, j, hj => by
    show F j = true ↔ _
    constructor
    · intro h; exact ⟨j, Nat.le_refl _, h, segP_self l j⟩
    · rintro ⟨i, hi, h1, h2⟩
      have h3 : segP l i j = [] := h2
      have hl := segP_len hi hj
      rw [h3, List.length_nil] at hl
      obtain rfl : i = j := by omega
      exact h1
  | x :: r, hw, F, j, hj => by
    have hx := hw x (by simp)
    show reachR l r (fun j => (endsR x l F j).1) j = true ↔ _
    rw [reach_iff l r (fun y hy => hw y (List.mem_cons_of_mem _ hy)) _ j hj]
    constructor
    · rintro ⟨k, hk, h1, h2⟩
      obtain ⟨i, hi, h3, h4⟩ := ((ends_iff hx l F k (by omega)).1).1 h1
      exact ⟨i, by omega, h3, segP l i k, segP l k j, segP_parts hi hk, h4, h2⟩
    · rintro ⟨i, hi, h1, a, b, hab, h2, h3⟩
      obtain ⟨hk, ha, hb⟩ := segP_cut hi hj hab
      refine ⟨i + a.length, hk, ((ends_iff hx l F _ (by omega)).1).2 ⟨i, by omega, h1, ?_⟩, ?_⟩
      · rw [← ha]; exact h2
      · rw [← hb]; exact h3
end Go.Proofs.YtjacebnlikhjnaaDoor

namespace Go.Proofs.YtjacebnlikhjnaaDoor

/-- How far items have fitted behind some numbers. -/
def stateP (xs : List ItemP) (l : List Int) : (Nat → Bool) × (Nat → Bool) :=
  l.foldl (fun s c => (overN xs (stepN xs c s.1 s.2), stepH xs c s.1)) (overN xs (fun i => decide (i = 0)), fun _ => false)
theorem stateP_snoc (xs : List ItemP) (l : List Int) (c : Int) : stateP xs (l ++ [c]) = (overN xs (stepN xs c (stateP xs l).1 (stateP xs l).2), stepH xs c (stateP xs l).1) := by
  unfold stateP
  rw [List.foldl_append]
  rfl
theorem stateP_rev {xs : List ItemP} (hw : howP xs) : ∀ r : List Int, (∀ i, i ≤ xs.length → ((stateP xs r.reverse).1 i = true ↔ nextP xs i r.reverse)) ∧ (∀ i, i < xs.length → ((stateP xs r.reverse).2 i = true ↔ halfP xs i r.reverse))
  | [] => ⟨begin_next hw, fun i _ => by
      constructor
      · intro h; cases h
      · intro h; exact absurd h halfP_nil⟩
  | c :: r => by
    obtain ⟨h1, h2⟩ := stateP_rev hw r
    rw [List.reverse_cons, stateP_snoc]
    exact ⟨step_next hw h1 h2, fun i _ => step_half h1 i⟩
theorem stateP_iff {xs : List ItemP} (hw : howP xs) (l : List Int) : (∀ i, i ≤ xs.length → ((stateP xs l).1 i = true ↔ nextP xs i l)) ∧ (∀ i, i < xs.length → ((stateP xs l).2 i = true ↔ halfP xs i l)) := by
  have := stateP_rev hw l.reverse
  rwa [List.reverse_reverse] at this
/-- Do all of these numbers fit the items? -/
def fitsB (xs : List ItemP) (l : List Int) : Bool := (stateP xs l).1 xs.length
theorem fitsB_iff {xs : List ItemP} (hw : howP xs) (l : List Int) : fitsB xs l = true ↔ fitsP xs l := by
  unfold fitsB
  rw [(stateP_iff hw l).1 _ (Nat.le_refl _), nextP_all]
theorem howP_reverse {xs : List ItemP} (hw : howP xs) : howP xs.reverse := fun x hx => hw x (List.mem_reverse.1 hx)
theorem fitsB_reverse {xs : List ItemP} (hw : howP xs) (l : List Int) : fitsB xs.reverse l.reverse = fitsB xs l := by
  rw [Bool.eq_iff_iff, fitsB_iff (howP_reverse hw), fitsB_iff hw, fitsP_reverse]
theorem fitsB_reach {xs : List ItemP} (hw : howP xs) {l : List Int} {i j : Nat} (hi : i ≤ j) (hj : j ≤ l.length) : reachR l xs (fun k => decide (k = i)) j = fitsB xs (segP l i j) := by
  rw [Bool.eq_iff_iff, fitsB_iff hw, reach_iff l xs hw _ j hj]
  constructor
  · rintro ⟨k, _, h1, h2⟩
    obtain rfl : k = i := by simpa using h1
    exact h2
  · intro h; exact ⟨i, hi, by simp, h⟩
theorem reach_far {xs : List ItemP} (hw : howP xs) {l : List Int} {i j : Nat} (hi : j < i) (hj : j ≤ l.length) : reachR l xs (fun k => decide (k = i)) j = false := by
  rw [Bool.eq_false_iff]
  intro h
  obtain ⟨k, hk, h1, _⟩ := (reach_iff l xs hw _ j hj).1 h
  have : k = i := by simpa using h1
  omega
/-- Do some of the first of these numbers? -/
def someB (xs : List ItemP) (l : List Int) : Bool := (List.range (l.length + 1)).any fun k => fitsB xs (l.take k)
/-- A pattern that is right of n classes. -/
def rightB (xs : List ItemP) (n : Int) : Bool := decide (1 ≤ n ∧ n ≤ 32) && decide (xs.length ≤ 10) && xs.all fun x => rightZ x.1 n && decide (x.2 = 0 ∨ x.2 = 1 ∨ x.2 = 2)
theorem rightB_how {xs : List ItemP} {n : Int} (h : rightB xs n = true) : howP xs := fun x hx => by
  unfold rightB at h
  rw [Bool.and_eq_true] at h
  have := List.all_eq_true.1 h.2 x hx
  rw [Bool.and_eq_true] at this
  exact of_decide_eq_true this.2
def fitsA (xs : List ItemP) (l : List Int) : Bool := rightB xs 32 && fitsB xs l
def behindA (start : Bool) (xs : List ItemP) (l : List Int) (at_ : Int) : Bool :=
  rightB xs 32 && decide (0 ≤ at_ ∧ at_ ≤ l.length) && (if start then fitsB xs (segP l 0 at_.toNat) else (List.range (at_.toNat + 1)).any fun i => fitsB xs (segP l i at_.toNat))
def aheadA (start : Bool) (xs : List ItemP) (l : List Int) (at_ : Int) : Bool :=
  rightB xs 32 && decide (0 ≤ at_ ∧ at_ ≤ l.length) && (!start || decide (at_ = 0)) && someB xs (l.drop at_.toNat)
/-- With more in its sets. -/
theorem fitsP_wider : ∀ {xs ys : List ItemP} {l : List Int}, xs.length = ys.length → (∀ (i : Nat) (x y : ItemP), xs[i]? = some x → ys[i]? = some y → x.2 = y.2 ∧ ∀ c, hasZ x.1 c = true → hasZ y.1 c = true) → fitsP xs l → fitsP ys l
  | [], [], l, _, _, h => h
  | x :: xs, y :: ys, l, hl, hw, ⟨a, b, e, h1, h2⟩ => by
    have h0 := hw 0 x y rfl rfl
    refine ⟨a, b, e, ⟨fun c hc => h0.2 c (h1.1 c hc), by rw [← h0.1]; exact h1.2⟩, fitsP_wider (by simpa using hl) (fun i u v hu hv => hw (i + 1) u v (by simpa using hu) (by simpa using hv)) h2⟩
end Go.Proofs.YtjacebnlikhjnaaDoor

namespace Go.Proofs.YtjacebnlikhjnaaDoor

def itemT (ns : List ByteArray) (x : ItemP) : List UInt8 := itemB ns x.1.toNat x.2.toNat
/-- The parts of a pattern's text. -/
def partsT (ns : List ByteArray) (start : Bool) (xs : List ItemP) : List (List UInt8) := (if start then [[94]] else []) ++ xs.map (itemT ns)
def textP (ns : List ByteArray) (start : Bool) (xs : List ItemP) : List UInt8 := Lib.join (partsT ns start xs) [32]
/-- A text's parts; of an empty one, none. -/
def partsS (s : List UInt8) : List (List UInt8) := if s = [] then [] else partsL false [] s
def itemZ (ns : List ByteArray) (s : List UInt8) : Option ItemP := (itemR ns s).map fun p => (((p.1 : Nat) : Int), ((p.2 : Nat) : Int))
def itemsR (ns : List ByteArray) : List (List UInt8) → Option (List ItemP)
  | [] => some []
  | t :: l => match itemZ ns t with | none => none | some x => (itemsR ns l).map (x :: ·)
/-- The pattern that parts say. -/
def fromParts (ns : List ByteArray) (l : List (List UInt8)) : Option (Bool × List ItemP) :=
  if l.head? = some [94] then (if l.tail.length ≤ 10 then (itemsR ns l.tail).map fun xs => (true, xs) else none)
  else if l.length ≤ 10 then (itemsR ns l).map fun xs => (false, xs) else none
def readP (ns : List ByteArray) (s : List UInt8) : Option (Bool × List ItemP) := fromParts ns (partsS s)
/-- What Print and Parse answer. -/
def printPV (ns : List ByteArray) (start : Bool) (xs : List ItemP) : List UInt8 := if namesL ns then (if rightB xs (ns.length : Nat) = true then textP ns start xs else []) else []
def printPE (ns : List ByteArray) (xs : List ItemP) : Int := if namesL ns then (if rightB xs (ns.length : Nat) = true then 0 else 80) else 2
def parsePV (ns : List ByteArray) (s : List UInt8) : Bool × List ItemP := if namesL ns then (readP ns s).getD (false, []) else (false, [])
def parsePE (ns : List ByteArray) (s : List UInt8) : Int := if namesL ns then (if (readP ns s).isSome then 0 else 80) else 2

theorem rightB_parts {xs : List ItemP} {n : Int} (h : rightB xs n = true) : (1 ≤ n ∧ n ≤ 32) ∧ xs.length ≤ 10 ∧ ∀ x ∈ xs, rightZ x.1 n = true ∧ (x.2 = 0 ∨ x.2 = 1 ∨ x.2 = 2) := by
  unfold rightB at h
  simp only [Bool.and_eq_true, decide_eq_true_eq, List.all_eq_true] at h
  exact ⟨h.1.1, h.1.2, h.2⟩
theorem rightB_of {xs : List ItemP} {n : Int} (h1 : 1 ≤ n ∧ n ≤ 32) (h2 : xs.length ≤ 10) (h3 : ∀ x ∈ xs, rightZ x.1 n = true ∧ (x.2 = 0 ∨ x.2 = 1 ∨ x.2 = 2)) : rightB xs n = true := by
  unfold rightB
  simp only [Bool.and_eq_true, decide_eq_true_eq, List.all_eq_true]
  exact ⟨⟨h1, h2⟩, h3⟩
theorem right_item {x : ItemP} {m : Nat} (h : rightZ x.1 (m : Nat) = true ∧ (x.2 = 0 ∨ x.2 = 1 ∨ x.2 = 2)) : ∃ a b : Nat, x = (((a : Nat) : Int), ((b : Nat) : Int)) ∧ a < 2 ^ m ∧ b ≤ 2 := by
  obtain ⟨a, n, h1, h2, _, _, h5⟩ := rightZ_of h.1
  obtain rfl : m = n := by omega
  refine ⟨a, x.2.toNat, ?_, h5, by omega⟩
  obtain ⟨u, v⟩ := x
  simp only at h1 h ⊢
  rw [h1]
  congr 1
  omega
theorem item_of_text {ns : List ByteArray} (hn : namesL ns) {x : ItemP} (h : rightZ x.1 (ns.length : Nat) = true ∧ (x.2 = 0 ∨ x.2 = 1 ∨ x.2 = 2)) : itemZ ns (itemT ns x) = some x := by
  obtain ⟨a, b, rfl, ha, hb⟩ := right_item h
  unfold itemZ itemT
  simp only [Int.toNat_natCast]
  rw [itemR_itemB hn ha hb]
  rfl
theorem items_of_texts {ns : List ByteArray} (hn : namesL ns) : ∀ xs : List ItemP, (∀ x ∈ xs, rightZ x.1 (ns.length : Nat) = true ∧ (x.2 = 0 ∨ x.2 = 1 ∨ x.2 = 2)) → itemsR ns (xs.map (itemT ns)) = some xs
  | [], _ => rfl
  | x :: xs, h => by
    rw [List.map_cons, itemsR, item_of_text hn (h x (by simp)), items_of_texts hn xs fun y hy => h y (List.mem_cons_of_mem _ hy)]
    rfl
theorem textB_head {ns : List ByteArray} (hn : namesL ns) (x : Nat) : (textB ns x).head? ≠ some 94 ∧ textB ns x ≠ [] := by
  unfold textB
  split
  · exact ⟨by decide, by decide⟩
  · split
    · rename_i h1
      obtain ⟨c, hc⟩ := List.length_eq_one_iff.1 h1
      refine ⟨listB_94 hn (classesK_lt _ _), fun h => ?_⟩
      rw [(listB_nil_iff hn (classesK_lt _ _)).1 h] at h1
      cases h1
    · split
      · exact ⟨by simp, by simp⟩
      · exact ⟨by simp, by simp⟩
theorem itemT_ne {ns : List ByteArray} (hn : namesL ns) (x : ItemP) : itemT ns x ≠ [94] ∧ itemT ns x ≠ [] := by
  obtain ⟨h1, h2⟩ := textB_head hn x.1.toNat
  unfold itemT itemB
  generalize textB ns x.1.toNat = t at h1 h2
  cases t with
  | nil => exact absurd rfl h2
  | cons b t =>
    refine ⟨fun h => h1 ?_, by simp⟩
    rw [List.cons_append] at h
    injection h with h _
    rw [h]; rfl
theorem parts_text {ns : List ByteArray} (hn : namesL ns) (start : Bool) (xs : List ItemP) : partsS (textP ns start xs) = partsT ns start xs := by
  have hs : ∀ t ∈ partsT ns start xs, scanB false t = some false ∧ t ≠ [] := by
    intro t ht
    rcases List.mem_append.1 ht with ht | ht
    · cases start with
      | true =>
        obtain rfl : t = [94] := by simpa using ht
        exact ⟨by decide, by decide⟩
      | false => simp at ht
    · obtain ⟨x, _, rfl⟩ := List.mem_map.1 ht
      exact ⟨itemB_scan hn _ _, (itemT_ne hn x).2⟩
  unfold partsS textP
  generalize partsT ns start xs = l at hs
  cases l with
  | nil => rfl
  | cons t r =>
    rw [if_neg ?_]
    · exact parts_join _ (by simp) fun x hx => (hs x hx).1
    · cases r with
      | nil =>
        rw [show Lib.join [t] [32] = t from by simp [Lib.join, List.intercalate]]
        exact (hs t (by simp)).2
      | cons u r => rw [joinK_two]; simp
theorem read_textP {ns : List ByteArray} (hn : namesL ns) {start : Bool} {xs : List ItemP} (h : rightB xs (ns.length : Nat) = true) : readP ns (textP ns start xs) = some (start, xs) := by
  obtain ⟨_, h2, h3⟩ := rightB_parts h
  unfold readP
  rw [parts_text hn]
  have hi := items_of_texts hn xs h3
  cases start with
  | true =>
    show fromParts ns ([94] :: xs.map (itemT ns)) = _
    unfold fromParts
    rw [if_pos (by rfl), List.tail_cons, if_pos (by rw [List.length_map]; exact h2), hi]
    rfl
  | false =>
    show fromParts ns (xs.map (itemT ns)) = _
    unfold fromParts
    rw [if_neg ?_, if_pos (by rw [List.length_map]; exact h2), hi]
    · rfl
    · cases xs with
      | nil => simp
      | cons x r => simpa using (itemT_ne hn x).1
theorem itemZ_right {ns : List ByteArray} (hn : namesL ns) {s : List UInt8} {x : ItemP} (h : itemZ ns s = some x) : rightZ x.1 (ns.length : Nat) = true ∧ (x.2 = 0 ∨ x.2 = 1 ∨ x.2 = 2) := by
  unfold itemZ at h
  obtain ⟨p, hp, rfl⟩ := Option.map_eq_some_iff.1 h
  unfold itemR at hp
  split at hp
  · rename_i hl
    obtain ⟨y, hy, rfl⟩ := Option.map_eq_some_iff.1 hp
    exact ⟨rightZ_ok hn.2.2.1 hn.2.2.2 (readL_lt hy), by simp only; omega⟩
  · cases hp
theorem itemsR_right {ns : List ByteArray} (hn : namesL ns) : ∀ {l : List (List UInt8)} {xs : List ItemP}, itemsR ns l = some xs → xs.length = l.length ∧ ∀ x ∈ xs, rightZ x.1 (ns.length : Nat) = true ∧ (x.2 = 0 ∨ x.2 = 1 ∨ x.2 = 2)
  | [], xs, h => by cases h; exact ⟨rfl, by simp⟩
  | t :: l, xs, h => by
    rw [itemsR] at h
    split at h
    · cases h
    · rename_i x hx
      obtain ⟨ys, hy, rfl⟩ := Option.map_eq_some_iff.1 h
      obtain ⟨h1, h2⟩ := itemsR_right hn hy
      refine ⟨by simp [h1], fun z hz => ?_⟩
      rcases List.mem_cons.1 hz with rfl | hz
      · exact itemZ_right hn hx
      · exact h2 z hz
theorem readP_right {ns : List ByteArray} (hn : namesL ns) {s : List UInt8} {start : Bool} {xs : List ItemP} (h : readP ns s = some (start, xs)) : rightB xs (ns.length : Nat) = true := by
  have h1 := hn.2.2
  unfold readP fromParts at h
  split at h
  · split at h
    · rename_i hl
      obtain ⟨ys, hy, e⟩ := Option.map_eq_some_iff.1 h
      cases e
      obtain ⟨a, b⟩ := itemsR_right hn hy
      exact rightB_of (by omega) (by omega) b
    · cases h
  · split at h
    · rename_i hl
      obtain ⟨ys, hy, e⟩ := Option.map_eq_some_iff.1 h
      cases e
      obtain ⟨a, b⟩ := itemsR_right hn hy
      exact rightB_of (by omega) (by omega) b
    · cases h
theorem itemsR_snoc (ns : List ByteArray) : ∀ (l : List (List UInt8)) (t : List UInt8), itemsR ns (l ++ [t]) = (itemsR ns l).bind fun xs => (itemZ ns t).map fun x => xs ++ [x]
  | [], t => by
    rw [List.nil_append, itemsR, itemsR]
    cases itemZ ns t <;> rfl
  | u :: l, t => by
    rw [List.cons_append, itemsR, itemsR, itemsR_snoc ns l t]
    cases itemZ ns u with
    | none => rfl
    | some x =>
      cases itemsR ns l with
      | none => rfl
      | some xs => cases itemZ ns t <;> rfl
theorem itemsR_none_append (ns : List ByteArray) : ∀ (l r : List (List UInt8)), itemsR ns l = none → itemsR ns (l ++ r) = none
  | [], r, h => by cases h
  | u :: l, r, h => by
    rw [List.cons_append, itemsR]
    rw [itemsR] at h
    cases hu : itemZ ns u with
    | none => rfl
    | some x =>
      rw [hu] at h
      have : itemsR ns l = none := by
        cases hl : itemsR ns l with
        | none => rfl
        | some y => rw [hl] at h; cases h
      simp only [itemsR_none_append ns l r this]
      rfl
end Go.Proofs.YtjacebnlikhjnaaDoor

namespace Go.Proofs.YtjacebnlikhjnaaDoor

theorem someB_iff (xs : List ItemP) (l : List Int) : someB xs l = true ↔ ∃ k, k ≤ l.length ∧ fitsB xs (l.take k) = true := by
  unfold someB
  rw [List.any_eq_true]
  constructor
  · rintro ⟨k, hk, h⟩
    have := List.mem_range.1 hk
    exact ⟨k, by omega, h⟩
  · rintro ⟨k, hk, h⟩
    exact ⟨k, List.mem_range.2 (by omega), h⟩
theorem seg_take {l : List Int} (i a : Nat) : (l.take a).drop i = segP l i a := by unfold segP; rw [List.drop_take]
theorem back_all {xs : List ItemP} (hw : howP xs) (l : List Int) (a : Nat) : fitsB xs.reverse (l.take a).reverse = fitsB xs (segP l 0 a) := by
  rw [fitsB_reverse hw, ← seg_take, List.drop_zero]
theorem back_some {xs : List ItemP} (hw : howP xs) {l : List Int} {a : Nat} (ha : a ≤ l.length) : someB xs.reverse (l.take a).reverse = (List.range (a + 1)).any fun i => fitsB xs (segP l i a) := by
  have hl : (l.take a).length = a := by rw [List.length_take]; omega
  rw [Bool.eq_iff_iff, someB_iff, List.any_eq_true, List.length_reverse, hl]
  constructor
  · rintro ⟨k, hk, h⟩
    rw [List.take_reverse, fitsB_reverse hw, hl, seg_take] at h
    exact ⟨a - k, List.mem_range.2 (by omega), h⟩
  · rintro ⟨i, hi, h⟩
    have := List.mem_range.1 hi
    refine ⟨a - i, by omega, ?_⟩
    rw [List.take_reverse, fitsB_reverse hw, hl, seg_take, show a - (a - i) = i from by omega]
    exact h
theorem ahead_some {xs : List ItemP} {l : List Int} {a : Nat} (ha : a ≤ l.length) : someB xs (l.drop a) = true ↔ ∃ i, a ≤ i ∧ i ≤ l.length ∧ fitsB xs (segP l a i) = true := by
  rw [someB_iff, List.length_drop]
  constructor
  · rintro ⟨k, hk, h⟩
    refine ⟨a + k, by omega, by omega, ?_⟩
    unfold segP
    rw [Nat.add_sub_cancel_left]
    exact h
  · rintro ⟨i, h1, h2, h⟩
    exact ⟨i - a, by omega, h⟩
/-- Once a beginning fits, or nothing has fitted so far, the matcher may stop. -/
theorem stop_dead {xs : List ItemP} (hw : howP xs) {l : List Int} (hN : ∀ i, i ≤ xs.length → (stateP xs l).1 i = false) (hH : ∀ i, i < xs.length → (stateP xs l).2 i = false) (r : List Int) : fitsB xs (l ++ r) = false := by
  obtain ⟨h1, h2⟩ := stateP_iff hw l
  rw [Bool.eq_false_iff, ne_eq, fitsB_iff hw]
  refine dead_more hw r l (fun i hi h => ?_) (fun i hi h => ?_)
  · have := (h1 i hi).2 h
    rw [hN i hi] at this
    cases this
  · have := (h2 i hi).2 h
    rw [hH i hi] at this
    cases this
end Go.Proofs.YtjacebnlikhjnaaDoor
