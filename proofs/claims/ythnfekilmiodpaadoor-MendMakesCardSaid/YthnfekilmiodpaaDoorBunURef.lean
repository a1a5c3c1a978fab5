/- The document's own Unit, plainly: how many bytes a bad unit has, by the table. The document's own answers: Unit, one way out after the other. The document's own answers: Unit. -/
import Derived.Test.YthnfekilmiodpaaDoorBunUnit
import Derived.Test.YthnfekilmiodpaaDoorBunRef
import Derived.Test.YthnfekilmiodpaaDoorBunUNext
namespace Go.Proofs.YthnfekilmiodpaaDoor

theorem first_of {b0 : UInt8} {k : Nat} (h9 : k < 9) (hk : rowIx b0.toNat = k) : fl k ≤ b0.toNat ∧ b0.toNat ≤ fh k := (rowIx_iff h9 b0.toNat).2 hk
theorem dec_is {b0 : UInt8} {t : List UInt8} {k : Nat} (h9 : k < 9) (hk : rowIx b0.toNat = k) : (decL (b0 :: t)).isSome = fitsB k ((b0 :: t).take (sz k)) := by
  rw [decL_cons, hk]
  cases hf : fitsB k ((b0 :: t).take (sz k))
  · rw [if_neg (by rintro ⟨_, h⟩; cases h)]; rfl
  · rw [if_pos ⟨h9, rfl⟩]; rfl
theorem beg_two {b0 b1 : UInt8} {k : Nat} (h9 : k < 9) (hk : rowIx b0.toNat = k) (hz : 3 ≤ sz k) : begL [b0, b1] = decide (sl k ≤ b1.toNat ∧ b1.toNat ≤ sh k) := by
  have h4 := sz_le k
  have hf := first_of h9 hk
  show (decL (b0 :: [b1, 128, 128])).isSome = _
  rw [dec_is h9 hk, Bool.eq_iff_iff, decide_eq_true_eq]
  have h128 : (128 : UInt8).toNat = 128 := rfl
  rcases Nat.lt_or_ge (sz k) 4 with h | h
  · have hz3 : sz k = 3 := by omega
    rw [hz3]
    show fitsB k [b0, b1, 128] = true ↔ _
    rw [fits3, h128]
    omega
  · have hz4 : sz k = 4 := by omega
    rw [hz4]
    show fitsB k [b0, b1, 128, 128] = true ↔ _
    rw [fits4, h128]
    omega
theorem beg_three {b0 b1 b2 : UInt8} {k : Nat} (h9 : k < 9) (hk : rowIx b0.toNat = k) (hz : 3 ≤ sz k) : begL [b0, b1, b2] = decide ((sl k ≤ b1.toNat ∧ b1.toNat ≤ sh k) ∧ (128 ≤ b2.toNat ∧ b2.toNat ≤ 191)) := by
  have h4 := sz_le k
  have hf := first_of h9 hk
  show (decL (b0 :: [b1, b2, 128, 128])).isSome = _
  rw [dec_is h9 hk, Bool.eq_iff_iff, decide_eq_true_eq]
  have h128 : (128 : UInt8).toNat = 128 := rfl
  rcases Nat.lt_or_ge (sz k) 4 with h | h
  · have hz3 : sz k = 3 := by omega
    rw [hz3]
    show fitsB k [b0, b1, b2] = true ↔ _
    rw [fits3]
    omega
  · have hz4 : sz k = 4 := by omega
    rw [hz4]
    show fitsB k [b0, b1, b2, 128] = true ↔ _
    rw [fits4, h128]
    omega
/-- Bad units of one byte: the byte is no first one; there is none behind it; what is behind it may not stand there. -/
theorem bad_one_first {b0 : UInt8} {t : List UInt8} (h : rowIx b0.toNat = 9) : badL (b0 :: t) = 1 := by
  unfold badL
  rw [if_neg]
  rintro ⟨_, hb⟩
  unfold begL at hb
  cases t with
  | nil => rw [show (b0 :: ([] : List UInt8)).take 2 ++ [128, 128] = b0 :: [128, 128] from rfl, decL_cons, if_neg (by rw [h]; omega)] at hb; cases hb
  | cons b1 t => rw [show (b0 :: b1 :: t).take 2 ++ [128, 128] = b0 :: [b1, 128, 128] from rfl, decL_cons, if_neg (by rw [h]; omega)] at hb; cases hb
theorem bad_short {b0 : UInt8} : badL [b0] = 1 := by
  unfold badL
  rw [if_neg]
  rintro ⟨h, _⟩
  simp at h
theorem bad_second {b0 b1 : UInt8} {t : List UInt8} {k : Nat} (h9 : k < 9) (hk : rowIx b0.toNat = k) (hz : 2 ≤ sz k) (h : b1.toNat < sl k ∨ sh k < b1.toNat) : badL (b0 :: b1 :: t) = 1 := by
  unfold badL
  rw [if_neg]
  rintro ⟨_, hb⟩
  have hb' : begL [b0, b1] = true := hb
  rcases Nat.lt_or_ge (sz k) 3 with h3 | h3
  · have hz2 : sz k = 2 := by omega
    have : (decL (b0 :: [b1, 128, 128])).isSome = true := hb'
    rw [dec_is h9 hk, hz2] at this
    have := (fits2 k b0 b1).1 this
    omega
  · rw [beg_two h9 hk h3, decide_eq_true_eq] at hb'
    omega
/-- With a second byte that may stand there the bad unit has two bytes, or three. -/
theorem bad_more {b0 b1 : UInt8} {t : List UInt8} {k : Nat} (h9 : k < 9) (hk : rowIx b0.toNat = k) (hz : 3 ≤ sz k) (h : sl k ≤ b1.toNat ∧ b1.toNat ≤ sh k) :
    badL (b0 :: b1 :: t) = match t with | [] => 2 | b2 :: _ => if 128 ≤ b2.toNat ∧ b2.toNat ≤ 191 then 3 else 2 := by
  have hb : begL ((b0 :: b1 :: t).take 2) = true := by
    show begL [b0, b1] = true
    rw [beg_two h9 hk hz, decide_eq_true_eq]
    exact h
  unfold badL
  rw [if_pos ⟨by simp, hb⟩]
  cases t with
  | nil => rw [if_neg (by rintro ⟨h, _⟩; simp at h)]
  | cons b2 t =>
    have e : begL ((b0 :: b1 :: b2 :: t).take 3) = decide ((sl k ≤ b1.toNat ∧ b1.toNat ≤ sh k) ∧ (128 ≤ b2.toNat ∧ b2.toNat ≤ 191)) := beg_three h9 hk hz
    rw [e]
    simp only [decide_eq_true_eq]
    by_cases h2 : 128 ≤ b2.toNat ∧ b2.toNat ≤ 191
    · rw [if_pos ⟨by simp, h, h2⟩, if_pos h2]
    · rw [if_neg (fun hh => h2 hh.2.2), if_neg h2]
/-- Where no scalar begins, a two-byte row's second byte may not stand there; the last byte of the others is missing or is none. -/
theorem none_two {b0 b1 : UInt8} {t : List UInt8} {k : Nat} (h9 : k < 9) (hk : rowIx b0.toNat = k) (hz : sz k = 2) (hd : decL (b0 :: b1 :: t) = none) : b1.toNat < sl k ∨ sh k < b1.toNat := by
  have := dec_is h9 hk (t := b1 :: t)
  rw [hd, hz] at this
  have h2 : ¬ fitsB k [b0, b1] = true := by
    intro h
    have e : fitsB k ((b0 :: b1 :: t).take 2) = true := h
    rw [e] at this; cases this
  rw [fits2] at h2
  have hf := first_of h9 hk
  omega
theorem none_three {b0 b1 b2 : UInt8} {t : List UInt8} {k : Nat} (h9 : k < 9) (hk : rowIx b0.toNat = k) (hz : sz k = 3) (hd : decL (b0 :: b1 :: b2 :: t) = none) (h : sl k ≤ b1.toNat ∧ b1.toNat ≤ sh k) : ¬ (128 ≤ b2.toNat ∧ b2.toNat ≤ 191) := by
  have := dec_is h9 hk (t := b1 :: b2 :: t)
  rw [hd, hz] at this
  have h2 : ¬ fitsB k [b0, b1, b2] = true := by
    intro h
    have e : fitsB k ((b0 :: b1 :: b2 :: t).take 3) = true := h
    rw [e] at this; cases this
  rw [fits3] at h2
  have hf := first_of h9 hk
  omega
theorem none_four {b0 b1 b2 b3 : UInt8} {t : List UInt8} {k : Nat} (h9 : k < 9) (hk : rowIx b0.toNat = k) (hz : sz k = 4) (hd : decL (b0 :: b1 :: b2 :: b3 :: t) = none) (h : sl k ≤ b1.toNat ∧ b1.toNat ≤ sh k) (h2 : 128 ≤ b2.toNat ∧ b2.toNat ≤ 191) : ¬ (128 ≤ b3.toNat ∧ b3.toNat ≤ 191) := by
  have := dec_is h9 hk (t := b1 :: b2 :: b3 :: t)
  rw [hd, hz] at this
  have h3 : ¬ fitsB k [b0, b1, b2, b3] = true := by
    intro h
    have e : fitsB k ((b0 :: b1 :: b2 :: b3 :: t).take 4) = true := h
    rw [e] at this; cases this
  rw [fits4] at h3
  have hf := first_of h9 hk
  omega
end Go.Proofs.YthnfekilmiodpaaDoor

namespace Go.Proofs.YthnfekilmiodpaaDoor
open Go.RowKit

set_option maxRecDepth 100000 in
set_option maxHeartbeats 1000000 in
theorem refUnit_neg (s : ByteArray) (b0 L H : Nat) (hz : s.toList.isEmpty = false) (hdec : Hid (decV s.data.toList = .tuple #[.int .i64 0, .int .i64 0, .bool false])) (hrow : Hid ((.tuple #[.int .i64 (behind (rowIx b0)), .int .u8 (low2 (rowIx b0) : Nat), .int .u8 (high2 (rowIx b0) : Nat)] : Value) = .tuple #[.int .i64 (-1), .int .u8 (L : Nat), .int .u8 (H : Nat)])) (a0 : At s 0 b0)  (w : World) :
    Calls Tryd.prog 7 #[.string s] w fun e w' => e = .returned (.tuple #[.int .i64 1, .bool false]) ∧ w = w' := by
  have i0 := a0.2
  have c0 := a0.1
  clear a0
  go_enter Tryd.func7, Tryd.ntmps7
  go_wp2_with fail
  refine (refDecode_any s w).mono ?_
  rintro e w' ⟨rfl, rfl⟩
  rw [hdec.out]
  go_wp2_with fail
  refine (refRow_any b0 c0 w).mono ?_
  rintro e w' ⟨rfl, rfl⟩
  rw [hrow.out]
  go_wp2
  go_ret2
  exact ⟨rfl, rfl⟩
set_option maxRecDepth 100000 in
set_option maxHeartbeats 1000000 in
theorem refUnit_one1 (s : ByteArray) (b0 L H : Nat) (hz : s.toList.isEmpty = false) (hdec : Hid (decV s.data.toList = .tuple #[.int .i64 0, .int .i64 0, .bool false])) (hrow : Hid ((.tuple #[.int .i64 (behind (rowIx b0)), .int .u8 (low2 (rowIx b0) : Nat), .int .u8 (high2 (rowIx b0) : Nat)] : Value) = .tuple #[.int .i64 1, .int .u8 (L : Nat), .int .u8 (H : Nat)])) (a0 : At s 0 b0) (hsi : decide (((s.size : Nat) : Int) < 2) = true) (w : World) :
    Calls Tryd.prog 7 #[.string s] w fun e w' => e = .returned (.tuple #[.int .i64 1, .bool false]) ∧ w = w' := by
  have i0 := a0.2
  have c0 := a0.1
  clear a0
  go_enter Tryd.func7, Tryd.ntmps7
  go_wp2_with fail
  refine (refDecode_any s w).mono ?_
  rintro e w' ⟨rfl, rfl⟩
  rw [hdec.out]
  go_wp2_with fail
  refine (refRow_any b0 c0 w).mono ?_
  rintro e w' ⟨rfl, rfl⟩
  rw [hrow.out]
  go_wp2
  go_ret2
  exact ⟨rfl, rfl⟩
set_option maxRecDepth 100000 in
set_option maxHeartbeats 1000000 in
theorem refUnit_low1 (s : ByteArray) (b0 b1 L H : Nat) (hz : s.toList.isEmpty = false) (hdec : Hid (decV s.data.toList = .tuple #[.int .i64 0, .int .i64 0, .bool false])) (hrow : Hid ((.tuple #[.int .i64 (behind (rowIx b0)), .int .u8 (low2 (rowIx b0) : Nat), .int .u8 (high2 (rowIx b0) : Nat)] : Value) = .tuple #[.int .i64 1, .int .u8 (L : Nat), .int .u8 (H : Nat)])) (a0 : At s 0 b0) (a1 : At s 1 b1) (hsi : decide (((s.size : Nat) : Int) < 2) = false) (l1 : decide (b1 < L) = true) (w : World) :
    Calls Tryd.prog 7 #[.string s] w fun e w' => e = .returned (.tuple #[.int .i64 1, .bool false]) ∧ w = w' := by
  have i0 := a0.2
  have c0 := a0.1
  have i1 := a1.2
  have c1 := a1.1
  clear a0 a1
  go_enter Tryd.func7, Tryd.ntmps7
  go_wp2_with fail
  refine (refDecode_any s w).mono ?_
  rintro e w' ⟨rfl, rfl⟩
  rw [hdec.out]
  go_wp2_with fail
  refine (refRow_any b0 c0 w).mono ?_
  rintro e w' ⟨rfl, rfl⟩
  rw [hrow.out]
  go_wp2
  go_ret2
  exact ⟨rfl, rfl⟩
set_option maxRecDepth 100000 in
set_option maxHeartbeats 1000000 in
theorem refUnit_high1 (s : ByteArray) (b0 b1 L H : Nat) (hz : s.toList.isEmpty = false) (hdec : Hid (decV s.data.toList = .tuple #[.int .i64 0, .int .i64 0, .bool false])) (hrow : Hid ((.tuple #[.int .i64 (behind (rowIx b0)), .int .u8 (low2 (rowIx b0) : Nat), .int .u8 (high2 (rowIx b0) : Nat)] : Value) = .tuple #[.int .i64 1, .int .u8 (L : Nat), .int .u8 (H : Nat)])) (a0 : At s 0 b0) (a1 : At s 1 b1) (hsi : decide (((s.size : Nat) : Int) < 2) = false) (l1 : decide (b1 < L) = false) (h1 : decide (H < b1) = true) (w : World) :
    Calls Tryd.prog 7 #[.string s] w fun e w' => e = .returned (.tuple #[.int .i64 1, .bool false]) ∧ w = w' := by
  have i0 := a0.2
  have c0 := a0.1
  have i1 := a1.2
  have c1 := a1.1
  clear a0 a1
  go_enter Tryd.func7, Tryd.ntmps7
  go_wp2_with fail
  refine (refDecode_any s w).mono ?_
  rintro e w' ⟨rfl, rfl⟩
  rw [hdec.out]
  go_wp2_with fail
  refine (refRow_any b0 c0 w).mono ?_
  rintro e w' ⟨rfl, rfl⟩
  rw [hrow.out]
  go_wp2
  go_ret2
  exact ⟨rfl, rfl⟩
set_option maxRecDepth 100000 in
set_option maxHeartbeats 1000000 in
theorem refUnit_one2 (s : ByteArray) (b0 L H : Nat) (hz : s.toList.isEmpty = false) (hdec : Hid (decV s.data.toList = .tuple #[.int .i64 0, .int .i64 0, .bool false])) (hrow : Hid ((.tuple #[.int .i64 (behind (rowIx b0)), .int .u8 (low2 (rowIx b0) : Nat), .int .u8 (high2 (rowIx b0) : Nat)] : Value) = .tuple #[.int .i64 2, .int .u8 (L : Nat), .int .u8 (H : Nat)])) (a0 : At s 0 b0) (hsi : decide (((s.size : Nat) : Int) < 2) = true) (w : World) :
    Calls Tryd.prog 7 #[.string s] w fun e w' => e = .returned (.tuple #[.int .i64 1, .bool false]) ∧ w = w' := by
  have i0 := a0.2
  have c0 := a0.1
  clear a0
  go_enter Tryd.func7, Tryd.ntmps7
  go_wp2_with fail
  refine (refDecode_any s w).mono ?_
  rintro e w' ⟨rfl, rfl⟩
  rw [hdec.out]
  go_wp2_with fail
  refine (refRow_any b0 c0 w).mono ?_
  rintro e w' ⟨rfl, rfl⟩
  rw [hrow.out]
  go_wp2
  go_ret2
  exact ⟨rfl, rfl⟩
set_option maxRecDepth 100000 in
set_option maxHeartbeats 1000000 in
theorem refUnit_low2 (s : ByteArray) (b0 b1 L H : Nat) (hz : s.toList.isEmpty = false) (hdec : Hid (decV s.data.toList = .tuple #[.int .i64 0, .int .i64 0, .bool false])) (hrow : Hid ((.tuple #[.int .i64 (behind (rowIx b0)), .int .u8 (low2 (rowIx b0) : Nat), .int .u8 (high2 (rowIx b0) : Nat)] : Value) = .tuple #[.int .i64 2, .int .u8 (L : Nat), .int .u8 (H : Nat)])) (a0 : At s 0 b0) (a1 : At s 1 b1) (hsi : decide (((s.size : Nat) : Int) < 2) = false) (l1 : decide (b1 < L) = true) (w : World) :
    Calls Tryd.prog 7 #[.string s] w fun e w' => e = .returned (.tuple #[.int .i64 1, .bool false]) ∧ w = w' := by
  have i0 := a0.2
  have c0 := a0.1
  have i1 := a1.2
  have c1 := a1.1
  clear a0 a1
  go_enter Tryd.func7, Tryd.ntmps7
  go_wp2_with fail
  refine (refDecode_any s w).mono ?_
  rintro e w' ⟨rfl, rfl⟩
  rw [hdec.out]
  go_wp2_with fail
  refine (refRow_any b0 c0 w).mono ?_
  rintro e w' ⟨rfl, rfl⟩
  rw [hrow.out]
  go_wp2
  go_ret2
  exact ⟨rfl, rfl⟩
set_option maxRecDepth 100000 in
set_option maxHeartbeats 1000000 in
theorem refUnit_high2 (s : ByteArray) (b0 b1 L H : Nat) (hz : s.toList.isEmpty = false) (hdec : Hid (decV s.data.toList = .tuple #[.int .i64 0, .int .i64 0, .bool false])) (hrow : Hid ((.tuple #[.int .i64 (behind (rowIx b0)), .int .u8 (low2 (rowIx b0) : Nat), .int .u8 (high2 (rowIx b0) : Nat)] : Value) = .tuple #[.int .i64 2, .int .u8 (L : Nat), .int .u8 (H : Nat)])) (a0 : At s 0 b0) (a1 : At s 1 b1) (hsi : decide (((s.size : Nat) : Int) < 2) = false) (l1 : decide (b1 < L) = false) (h1 : decide (H < b1) = true) (w : World) :
    Calls Tryd.prog 7 #[.string s] w fun e w' => e = .returned (.tuple #[.int .i64 1, .bool false]) ∧ w = w' := by
  have i0 := a0.2
  have c0 := a0.1
  have i1 := a1.2
  have c1 := a1.1
  clear a0 a1
  go_enter Tryd.func7, Tryd.ntmps7
  go_wp2_with fail
  refine (refDecode_any s w).mono ?_
  rintro e w' ⟨rfl, rfl⟩
  rw [hdec.out]
  go_wp2_with fail
  refine (refRow_any b0 c0 w).mono ?_
  rintro e w' ⟨rfl, rfl⟩
  rw [hrow.out]
  go_wp2
  go_ret2
  exact ⟨rfl, rfl⟩
set_option maxRecDepth 100000 in
set_option maxHeartbeats 1000000 in
theorem refUnit_one3 (s : ByteArray) (b0 L H : Nat) (hz : s.toList.isEmpty = false) (hdec : Hid (decV s.data.toList = .tuple #[.int .i64 0, .int .i64 0, .bool false])) (hrow : Hid ((.tuple #[.int .i64 (behind (rowIx b0)), .int .u8 (low2 (rowIx b0) : Nat), .int .u8 (high2 (rowIx b0) : Nat)] : Value) = .tuple #[.int .i64 3, .int .u8 (L : Nat), .int .u8 (H : Nat)])) (a0 : At s 0 b0) (hsi : decide (((s.size : Nat) : Int) < 2) = true) (w : World) :
    Calls Tryd.prog 7 #[.string s] w fun e w' => e = .returned (.tuple #[.int .i64 1, .bool false]) ∧ w = w' := by
  have i0 := a0.2
  have c0 := a0.1
  clear a0
  go_enter Tryd.func7, Tryd.ntmps7
  go_wp2_with fail
  refine (refDecode_any s w).mono ?_
  rintro e w' ⟨rfl, rfl⟩
  rw [hdec.out]
  go_wp2_with fail
  refine (refRow_any b0 c0 w).mono ?_
  rintro e w' ⟨rfl, rfl⟩
  rw [hrow.out]
  go_wp2
  go_ret2
  exact ⟨rfl, rfl⟩
set_option maxRecDepth 100000 in
set_option maxHeartbeats 1000000 in
theorem refUnit_low3 (s : ByteArray) (b0 b1 L H : Nat) (hz : s.toList.isEmpty = false) (hdec : Hid (decV s.data.toList = .tuple #[.int .i64 0, .int .i64 0, .bool false])) (hrow : Hid ((.tuple #[.int .i64 (behind (rowIx b0)), .int .u8 (low2 (rowIx b0) : Nat), .int .u8 (high2 (rowIx b0) : Nat)] : Value) = .tuple #[.int .i64 3, .int .u8 (L : Nat), .int .u8 (H : Nat)])) (a0 : At s 0 b0) (a1 : At s 1 b1) (hsi : decide (((s.size : Nat) : Int) < 2) = false) (l1 : decide (b1 < L) = true) (w : World) :
    Calls Tryd.prog 7 #[.string s] w fun e w' => e = .returned (.tuple #[.int .i64 1, .bool false]) ∧ w = w' := by
  have i0 := a0.2
  have c0 := a0.1
  have i1 := a1.2
  have c1 := a1.1
  clear a0 a1
  go_enter Tryd.func7, Tryd.ntmps7
  go_wp2_with fail
  refine (refDecode_any s w).mono ?_
  rintro e w' ⟨rfl, rfl⟩
  rw [hdec.out]
  go_wp2_with fail
  refine (refRow_any b0 c0 w).mono ?_
  rintro e w' ⟨rfl, rfl⟩
  rw [hrow.out]
  go_wp2
  go_ret2
  exact ⟨rfl, rfl⟩
set_option maxRecDepth 100000 in
set_option maxHeartbeats 1000000 in
theorem refUnit_high3 (s : ByteArray) (b0 b1 L H : Nat) (hz : s.toList.isEmpty = false) (hdec : Hid (decV s.data.toList = .tuple #[.int .i64 0, .int .i64 0, .bool false])) (hrow : Hid ((.tuple #[.int .i64 (behind (rowIx b0)), .int .u8 (low2 (rowIx b0) : Nat), .int .u8 (high2 (rowIx b0) : Nat)] : Value) = .tuple #[.int .i64 3, .int .u8 (L : Nat), .int .u8 (H : Nat)])) (a0 : At s 0 b0) (a1 : At s 1 b1) (hsi : decide (((s.size : Nat) : Int) < 2) = false) (l1 : decide (b1 < L) = false) (h1 : decide (H < b1) = true) (w : World) :
    Calls Tryd.prog 7 #[.string s] w fun e w' => e = .returned (.tuple #[.int .i64 1, .bool false]) ∧ w = w' := by
  have i0 := a0.2
  have c0 := a0.1
  have i1 := a1.2
  have c1 := a1.1
  clear a0 a1
  go_enter Tryd.func7, Tryd.ntmps7
  go_wp2_with fail
  refine (refDecode_any s w).mono ?_
  rintro e w' ⟨rfl, rfl⟩
  rw [hdec.out]
  go_wp2_with fail
  refine (refRow_any b0 c0 w).mono ?_
  rintro e w' ⟨rfl, rfl⟩
  rw [hrow.out]
  go_wp2
  go_ret2
  exact ⟨rfl, rfl⟩
set_option maxRecDepth 100000 in
set_option maxHeartbeats 1000000 in
theorem refUnit_endb2 (s : ByteArray) (b0 b1 L H : Nat) (hz : s.toList.isEmpty = false) (hdec : Hid (decV s.data.toList = .tuple #[.int .i64 0, .int .i64 0, .bool false])) (hrow : Hid ((.tuple #[.int .i64 (behind (rowIx b0)), .int .u8 (low2 (rowIx b0) : Nat), .int .u8 (high2 (rowIx b0) : Nat)] : Value) = .tuple #[.int .i64 2, .int .u8 (L : Nat), .int .u8 (H : Nat)])) (a0 : At s 0 b0) (a1 : At s 1 b1) (hsi : decide (((s.size : Nat) : Int) < 2) = false) (l1 : decide (b1 < L) = false) (h1 : decide (H < b1) = false) (e2 : decide ((2 : Int) < ((s.size : Nat) : Int)) = false)  (w : World) :
    Calls Tryd.prog 7 #[.string s] w fun e w' => e = .returned (.tuple #[.int .i64 2, .bool false]) ∧ w = w' := by
  have i0 := a0.2
  have c0 := a0.1
  have i1 := a1.2
  have c1 := a1.1
  clear a0 a1
  go_enter Tryd.func7, Tryd.ntmps7
  go_wp2_with fail
  refine (refDecode_any s w).mono ?_
  rintro e w' ⟨rfl, rfl⟩
  rw [hdec.out]
  go_wp2_with fail
  refine (refRow_any b0 c0 w).mono ?_
  rintro e w' ⟨rfl, rfl⟩
  rw [hrow.out]
  go_wp2_with fail
  refine wp_loop_rounds 1 ?_
  rw [rounds_succ]
  go_wp2
  go_ret2
  exact ⟨rfl, rfl⟩
set_option maxRecDepth 100000 in
set_option maxHeartbeats 1000000 in
theorem refUnit_lowb2 (s : ByteArray) (b0 b1 b2 L H : Nat) (hz : s.toList.isEmpty = false) (hdec : Hid (decV s.data.toList = .tuple #[.int .i64 0, .int .i64 0, .bool false])) (hrow : Hid ((.tuple #[.int .i64 (behind (rowIx b0)), .int .u8 (low2 (rowIx b0) : Nat), .int .u8 (high2 (rowIx b0) : Nat)] : Value) = .tuple #[.int .i64 2, .int .u8 (L : Nat), .int .u8 (H : Nat)])) (a0 : At s 0 b0) (a1 : At s 1 b1) (a2 : At s 2 b2) (hsi : decide (((s.size : Nat) : Int) < 2) = false) (l1 : decide (b1 < L) = false) (h1 : decide (H < b1) = false) (e2 : decide ((2 : Int) < ((s.size : Nat) : Int)) = true) (l2 : decide ((128 : Int) ≤ ((b2 : Nat) : Int)) = false)  (w : World) :
    Calls Tryd.prog 7 #[.string s] w fun e w' => e = .returned (.tuple #[.int .i64 2, .bool false]) ∧ w = w' := by
  have i0 := a0.2
  have c0 := a0.1
  have i1 := a1.2
  have c1 := a1.1
  have i2 := a2.2
  have c2 := a2.1
  clear a0 a1 a2
  go_enter Tryd.func7, Tryd.ntmps7
  go_wp2_with fail
  refine (refDecode_any s w).mono ?_
  rintro e w' ⟨rfl, rfl⟩
  rw [hdec.out]
  go_wp2_with fail
  refine (refRow_any b0 c0 w).mono ?_
  rintro e w' ⟨rfl, rfl⟩
  rw [hrow.out]
  go_wp2_with fail
  refine wp_loop_rounds 1 ?_
  rw [rounds_succ]
  go_wp2
  go_ret2
  exact ⟨rfl, rfl⟩
set_option maxRecDepth 100000 in
set_option maxHeartbeats 1000000 in
theorem refUnit_highb2 (s : ByteArray) (b0 b1 b2 L H : Nat) (hz : s.toList.isEmpty = false) (hdec : Hid (decV s.data.toList = .tuple #[.int .i64 0, .int .i64 0, .bool false])) (hrow : Hid ((.tuple #[.int .i64 (behind (rowIx b0)), .int .u8 (low2 (rowIx b0) : Nat), .int .u8 (high2 (rowIx b0) : Nat)] : Value) = .tuple #[.int .i64 2, .int .u8 (L : Nat), .int .u8 (H : Nat)])) (a0 : At s 0 b0) (a1 : At s 1 b1) (a2 : At s 2 b2) (hsi : decide (((s.size : Nat) : Int) < 2) = false) (l1 : decide (b1 < L) = false) (h1 : decide (H < b1) = false) (e2 : decide ((2 : Int) < ((s.size : Nat) : Int)) = true) (l2 : decide ((128 : Int) ≤ ((b2 : Nat) : Int)) = true) (h2 : decide (((b2 : Nat) : Int) ≤ 191) = false)  (w : World) :
    Calls Tryd.prog 7 #[.string s] w fun e w' => e = .returned (.tuple #[.int .i64 2, .bool false]) ∧ w = w' := by
  have i0 := a0.2
  have c0 := a0.1
  have i1 := a1.2
  have c1 := a1.1
  have i2 := a2.2
  have c2 := a2.1
  clear a0 a1 a2
  go_enter Tryd.func7, Tryd.ntmps7
  go_wp2_with fail
  refine (refDecode_any s w).mono ?_
  rintro e w' ⟨rfl, rfl⟩
  rw [hdec.out]
  go_wp2_with fail
  refine (refRow_any b0 c0 w).mono ?_
  rintro e w' ⟨rfl, rfl⟩
  rw [hrow.out]
  go_wp2_with fail
  refine wp_loop_rounds 1 ?_
  rw [rounds_succ]
  go_wp2
  go_ret2
  exact ⟨rfl, rfl⟩
set_option maxRecDepth 100000 in
set_option maxHeartbeats 1000000 in
theorem refUnit_endb3 (s : ByteArray) (b0 b1 L H : Nat) (hz : s.toList.isEmpty = false) (hdec : Hid (decV s.data.toList = .tuple #[.int .i64 0, .int .i64 0, .bool false])) (hrow : Hid ((.tuple #[.int .i64 (behind (rowIx b0)), .int .u8 (low2 (rowIx b0) : Nat), .int .u8 (high2 (rowIx b0) : Nat)] : Value) = .tuple #[.int .i64 3, .int .u8 (L : Nat), .int .u8 (H : Nat)])) (a0 : At s 0 b0) (a1 : At s 1 b1) (hsi : decide (((s.size : Nat) : Int) < 2) = false) (l1 : decide (b1 < L) = false) (h1 : decide (H < b1) = false) (e2 : decide ((2 : Int) < ((s.size : Nat) : Int)) = false)  (w : World) :
    Calls Tryd.prog 7 #[.string s] w fun e w' => e = .returned (.tuple #[.int .i64 2, .bool false]) ∧ w = w' := by
  have i0 := a0.2
  have c0 := a0.1
  have i1 := a1.2
  have c1 := a1.1
  clear a0 a1
  go_enter Tryd.func7, Tryd.ntmps7
  go_wp2_with fail
  refine (refDecode_any s w).mono ?_
  rintro e w' ⟨rfl, rfl⟩
  rw [hdec.out]
  go_wp2_with fail
  refine (refRow_any b0 c0 w).mono ?_
  rintro e w' ⟨rfl, rfl⟩
  rw [hrow.out]
  go_wp2_with fail
  refine wp_loop_rounds 1 ?_
  rw [rounds_succ]
  go_wp2
  go_ret2
  exact ⟨rfl, rfl⟩
set_option maxRecDepth 100000 in
set_option maxHeartbeats 1000000 in
theorem refUnit_lowb3 (s : ByteArray) (b0 b1 b2 L H : Nat) (hz : s.toList.isEmpty = false) (hdec : Hid (decV s.data.toList = .tuple #[.int .i64 0, .int .i64 0, .bool false])) (hrow : Hid ((.tuple #[.int .i64 (behind (rowIx b0)), .int .u8 (low2 (rowIx b0) : Nat), .int .u8 (high2 (rowIx b0) : Nat)] : Value) = .tuple #[.int .i64 3, .int .u8 (L : Nat), .int .u8 (H : Nat)])) (a0 : At s 0 b0) (a1 : At s 1 b1) (a2 : At s 2 b2) (hsi : decide (((s.size : Nat) : Int) < 2) = false) (l1 : decide (b1 < L) = false) (h1 : decide (H < b1) = false) (e2 : decide ((2 : Int) < ((s.size : Nat) : Int)) = true) (l2 : decide ((128 : Int) ≤ ((b2 : Nat) : Int)) = false)  (w : World) :
    Calls Tryd.prog 7 #[.string s] w fun e w' => e = .returned (.tuple #[.int .i64 2, .bool false]) ∧ w = w' := by
  have i0 := a0.2
  have c0 := a0.1
  have i1 := a1.2
  have c1 := a1.1
  have i2 := a2.2
  have c2 := a2.1
  clear a0 a1 a2
  go_enter Tryd.func7, Tryd.ntmps7
  go_wp2_with fail
  refine (refDecode_any s w).mono ?_
  rintro e w' ⟨rfl, rfl⟩
  rw [hdec.out]
  go_wp2_with fail
  refine (refRow_any b0 c0 w).mono ?_
  rintro e w' ⟨rfl, rfl⟩
  rw [hrow.out]
  go_wp2_with fail
  refine wp_loop_rounds 1 ?_
  rw [rounds_succ]
  go_wp2
  go_ret2
  exact ⟨rfl, rfl⟩
set_option maxRecDepth 100000 in
set_option maxHeartbeats 1000000 in
theorem refUnit_highb3 (s : ByteArray) (b0 b1 b2 L H : Nat) (hz : s.toList.isEmpty = false) (hdec : Hid (decV s.data.toList = .tuple #[.int .i64 0, .int .i64 0, .bool false])) (hrow : Hid ((.tuple #[.int .i64 (behind (rowIx b0)), .int .u8 (low2 (rowIx b0) : Nat), .int .u8 (high2 (rowIx b0) : Nat)] : Value) = .tuple #[.int .i64 3, .int .u8 (L : Nat), .int .u8 (H : Nat)])) (a0 : At s 0 b0) (a1 : At s 1 b1) (a2 : At s 2 b2) (hsi : decide (((s.size : Nat) : Int) < 2) = false) (l1 : decide (b1 < L) = false) (h1 : decide (H < b1) = false) (e2 : decide ((2 : Int) < ((s.size : Nat) : Int)) = true) (l2 : decide ((128 : Int) ≤ ((b2 : Nat) : Int)) = true) (h2 : decide (((b2 : Nat) : Int) ≤ 191) = false)  (w : World) :
    Calls Tryd.prog 7 #[.string s] w fun e w' => e = .returned (.tuple #[.int .i64 2, .bool false]) ∧ w = w' := by
  have i0 := a0.2
  have c0 := a0.1
  have i1 := a1.2
  have c1 := a1.1
  have i2 := a2.2
  have c2 := a2.1
  clear a0 a1 a2
  go_enter Tryd.func7, Tryd.ntmps7
  go_wp2_with fail
  refine (refDecode_any s w).mono ?_
  rintro e w' ⟨rfl, rfl⟩
  rw [hdec.out]
  go_wp2_with fail
  refine (refRow_any b0 c0 w).mono ?_
  rintro e w' ⟨rfl, rfl⟩
  rw [hrow.out]
  go_wp2_with fail
  refine wp_loop_rounds 1 ?_
  rw [rounds_succ]
  go_wp2
  go_ret2
  exact ⟨rfl, rfl⟩
set_option maxRecDepth 100000 in
set_option maxHeartbeats 1000000 in
theorem refUnit_endc (s : ByteArray) (b0 b1 b2 L H : Nat) (hz : s.toList.isEmpty = false) (hdec : Hid (decV s.data.toList = .tuple #[.int .i64 0, .int .i64 0, .bool false])) (hrow : Hid ((.tuple #[.int .i64 (behind (rowIx b0)), .int .u8 (low2 (rowIx b0) : Nat), .int .u8 (high2 (rowIx b0) : Nat)] : Value) = .tuple #[.int .i64 3, .int .u8 (L : Nat), .int .u8 (H : Nat)])) (a0 : At s 0 b0) (a1 : At s 1 b1) (a2 : At s 2 b2) (hsi : decide (((s.size : Nat) : Int) < 2) = false) (l1 : decide (b1 < L) = false) (h1 : decide (H < b1) = false) (e2 : decide ((2 : Int) < ((s.size : Nat) : Int)) = true) (l2 : decide ((128 : Int) ≤ ((b2 : Nat) : Int)) = true) (h2 : decide (((b2 : Nat) : Int) ≤ 191) = true) (e3 : decide ((3 : Int) < ((s.size : Nat) : Int)) = false)  (w : World) :
    Calls Tryd.prog 7 #[.string s] w fun e w' => e = .returned (.tuple #[.int .i64 3, .bool false]) ∧ w = w' := by
  have i0 := a0.2
  have c0 := a0.1
  have i1 := a1.2
  have c1 := a1.1
  have i2 := a2.2
  have c2 := a2.1
  clear a0 a1 a2
  go_enter Tryd.func7, Tryd.ntmps7
  go_wp2_with fail
  refine (refDecode_any s w).mono ?_
  rintro e w' ⟨rfl, rfl⟩
  rw [hdec.out]
  go_wp2_with fail
  refine (refRow_any b0 c0 w).mono ?_
  rintro e w' ⟨rfl, rfl⟩
  rw [hrow.out]
  go_wp2_with fail
  refine wp_loop_rounds 2 ?_
  rw [rounds_succ]
  go_wp2_with fail
  rw [rounds_succ]
  go_wp2
  go_ret2
  exact ⟨rfl, rfl⟩
set_option maxRecDepth 100000 in
set_option maxHeartbeats 1000000 in
theorem refUnit_lowc (s : ByteArray) (b0 b1 b2 b3 L H : Nat) (hz : s.toList.isEmpty = false) (hdec : Hid (decV s.data.toList = .tuple #[.int .i64 0, .int .i64 0, .bool false])) (hrow : Hid ((.tuple #[.int .i64 (behind (rowIx b0)), .int .u8 (low2 (rowIx b0) : Nat), .int .u8 (high2 (rowIx b0) : Nat)] : Value) = .tuple #[.int .i64 3, .int .u8 (L : Nat), .int .u8 (H : Nat)])) (a0 : At s 0 b0) (a1 : At s 1 b1) (a2 : At s 2 b2) (a3 : At s 3 b3) (hsi : decide (((s.size : Nat) : Int) < 2) = false) (l1 : decide (b1 < L) = false) (h1 : decide (H < b1) = false) (e2 : decide ((2 : Int) < ((s.size : Nat) : Int)) = true) (l2 : decide ((128 : Int) ≤ ((b2 : Nat) : Int)) = true) (h2 : decide (((b2 : Nat) : Int) ≤ 191) = true) (e3 : decide ((3 : Int) < ((s.size : Nat) : Int)) = true) (l3 : decide ((128 : Int) ≤ ((b3 : Nat) : Int)) = false)  (w : World) :
    Calls Tryd.prog 7 #[.string s] w fun e w' => e = .returned (.tuple #[.int .i64 3, .bool false]) ∧ w = w' := by
  have i0 := a0.2
  have c0 := a0.1
  have i1 := a1.2
  have c1 := a1.1
  have i2 := a2.2
  have c2 := a2.1
  have i3 := a3.2
  have c3 := a3.1
  clear a0 a1 a2 a3
  go_enter Tryd.func7, Tryd.ntmps7
  go_wp2_with fail
  refine (refDecode_any s w).mono ?_
  rintro e w' ⟨rfl, rfl⟩
  rw [hdec.out]
  go_wp2_with fail
  refine (refRow_any b0 c0 w).mono ?_
  rintro e w' ⟨rfl, rfl⟩
  rw [hrow.out]
  go_wp2_with fail
  refine wp_loop_rounds 2 ?_
  rw [rounds_succ]
  go_wp2_with fail
  rw [rounds_succ]
  go_wp2
  go_ret2
  exact ⟨rfl, rfl⟩
set_option maxRecDepth 100000 in
set_option maxHeartbeats 1000000 in
theorem refUnit_highc (s : ByteArray) (b0 b1 b2 b3 L H : Nat) (hz : s.toList.isEmpty = false) (hdec : Hid (decV s.data.toList = .tuple #[.int .i64 0, .int .i64 0, .bool false])) (hrow : Hid ((.tuple #[.int .i64 (behind (rowIx b0)), .int .u8 (low2 (rowIx b0) : Nat), .int .u8 (high2 (rowIx b0) : Nat)] : Value) = .tuple #[.int .i64 3, .int .u8 (L : Nat), .int .u8 (H : Nat)])) (a0 : At s 0 b0) (a1 : At s 1 b1) (a2 : At s 2 b2) (a3 : At s 3 b3) (hsi : decide (((s.size : Nat) : Int) < 2) = false) (l1 : decide (b1 < L) = false) (h1 : decide (H < b1) = false) (e2 : decide ((2 : Int) < ((s.size : Nat) : Int)) = true) (l2 : decide ((128 : Int) ≤ ((b2 : Nat) : Int)) = true) (h2 : decide (((b2 : Nat) : Int) ≤ 191) = true) (e3 : decide ((3 : Int) < ((s.size : Nat) : Int)) = true) (l3 : decide ((128 : Int) ≤ ((b3 : Nat) : Int)) = true) (h3 : decide (((b3 : Nat) : Int) ≤ 191) = false)  (w : World) :
    Calls Tryd.prog 7 #[.string s] w fun e w' => e = .returned (.tuple #[.int .i64 3, .bool false]) ∧ w = w' := by
  have i0 := a0.2
  have c0 := a0.1
  have i1 := a1.2
  have c1 := a1.1
  have i2 := a2.2
  have c2 := a2.1
  have i3 := a3.2
  have c3 := a3.1
  clear a0 a1 a2 a3
  go_enter Tryd.func7, Tryd.ntmps7
  go_wp2_with fail
  refine (refDecode_any s w).mono ?_
  rintro e w' ⟨rfl, rfl⟩
  rw [hdec.out]
  go_wp2_with fail
  refine (refRow_any b0 c0 w).mono ?_
  rintro e w' ⟨rfl, rfl⟩
  rw [hrow.out]
  go_wp2_with fail
  refine wp_loop_rounds 2 ?_
  rw [rounds_succ]
  go_wp2_with fail
  rw [rounds_succ]
  go_wp2
  go_ret2
  exact ⟨rfl, rfl⟩
theorem refUnit_empty (s : ByteArray) (hz : s.toList.isEmpty = true) (w : World) :
    Calls Tryd.prog 7 #[.string s] w fun e w' => e = .returned (.tuple #[.int .i64 0, .bool false]) ∧ w = w' := by
  go_enter Tryd.func7, Tryd.ntmps7
  go_wp2
  go_ret2
  exact ⟨rfl, rfl⟩
set_option maxRecDepth 100000 in
theorem refUnit_ok (s : ByteArray) (x n : Int) (hz : s.toList.isEmpty = false) (hdec : Hid (decV s.data.toList = .tuple #[.int .i64 x, .int .i64 n, .bool true])) (w : World) :
    Calls Tryd.prog 7 #[.string s] w fun e w' => e = .returned (.tuple #[.int .i64 n, .bool true]) ∧ w = w' := by
  go_enter Tryd.func7, Tryd.ntmps7
  go_wp2_with fail
  refine (refDecode_any s w).mono ?_
  rintro e w' ⟨rfl, rfl⟩
  rw [hdec.out]
  go_wp2
  go_ret2
  exact ⟨rfl, rfl⟩
end Go.Proofs.YthnfekilmiodpaaDoor

namespace Go.Proofs.YthnfekilmiodpaaDoor
open Go.RowKit

theorem refUnit_k1 (s : ByteArray) (b0 : UInt8) (t : List UInt8) (k : Nat) (hs : s.data.toList = b0 :: t) (hd : decL (b0 :: t) = none) (hk : rowIx b0.toNat = k) (h9 : k < 9) (hz : sz k = 2) (hb : behind k = 1) (hlo : low2 k = sl k) (hhi : high2 k = sh k) (hlh : sl k ≤ sh k) (w : World) :
    Calls Tryd.prog 7 #[.string s] w fun e w' => e = .returned (.tuple #[.int .i64 ((badL (b0 :: t) : Nat) : Int), .bool false]) ∧ w = w' := by
  have hn := not_empty hs
  have hrow : Hid ((.tuple #[.int .i64 (behind (rowIx b0.toNat)), .int .u8 (low2 (rowIx b0.toNat) : Nat), .int .u8 (high2 (rowIx b0.toNat) : Nat)] : Value) = .tuple #[.int .i64 1, .int .u8 (low2 k : Nat), .int .u8 (high2 k : Nat)]) := by
    show _ = _
    rw [hk, hb]
  have hdec : Hid (decV s.data.toList = .tuple #[.int .i64 0, .int .i64 0, .bool false]) := by
    show _ = _
    rw [hs, decV_none hd]
  have a0 : At s 0 b0.toNat := at_of (i := 0) (by rw [hs]; rfl)
  have hsz : s.size = t.length + 1 := by rw [size_list, hs]; rfl
  cases t with
  | nil =>
    rw [bad_short]
    exact refUnit_one1 s b0.toNat _ _ hn hdec hrow a0 (decide_eq_true (by rw [hsz]; decide)) w
  | cons b1 t =>
    have a1 : At s 1 b1.toNat := at_of (i := 1) (by rw [hs]; rfl)
    have hsi : decide (((s.size : Nat) : Int) < 2) = false := decide_eq_false (by rw [hsz, List.length_cons]; omega)
    rcases none_two h9 hk hz hd with h | h
    · rw [bad_second h9 hk (by omega) (Or.inl h)]
      exact refUnit_low1 s b0.toNat b1.toNat _ _ hn hdec hrow a0 a1 hsi (decide_eq_true (by omega)) w
    · rw [bad_second h9 hk (by omega) (Or.inr h)]
      exact refUnit_high1 s b0.toNat b1.toNat _ _ hn hdec hrow a0 a1 hsi (decide_eq_false (by omega)) (decide_eq_true (by omega)) w

theorem refUnit_k2 (s : ByteArray) (b0 : UInt8) (t : List UInt8) (k : Nat) (hs : s.data.toList = b0 :: t) (hd : decL (b0 :: t) = none) (hk : rowIx b0.toNat = k) (h9 : k < 9) (hz : sz k = 3) (hb : behind k = 2) (hlo : low2 k = sl k) (hhi : high2 k = sh k) (_hlh : sl k ≤ sh k) (w : World) :
    Calls Tryd.prog 7 #[.string s] w fun e w' => e = .returned (.tuple #[.int .i64 ((badL (b0 :: t) : Nat) : Int), .bool false]) ∧ w = w' := by
  have hn := not_empty hs
  have hrow : Hid ((.tuple #[.int .i64 (behind (rowIx b0.toNat)), .int .u8 (low2 (rowIx b0.toNat) : Nat), .int .u8 (high2 (rowIx b0.toNat) : Nat)] : Value) = .tuple #[.int .i64 2, .int .u8 (low2 k : Nat), .int .u8 (high2 k : Nat)]) := by
    show _ = _
    rw [hk, hb]
  have hdec : Hid (decV s.data.toList = .tuple #[.int .i64 0, .int .i64 0, .bool false]) := by
    show _ = _
    rw [hs, decV_none hd]
  have a0 : At s 0 b0.toNat := at_of (i := 0) (by rw [hs]; rfl)
  have hsz : s.size = t.length + 1 := by rw [size_list, hs]; rfl
  cases t with
  | nil =>
    rw [bad_short]
    exact refUnit_one2 s b0.toNat _ _ hn hdec hrow a0 (decide_eq_true (by rw [hsz]; decide)) w
  | cons b1 t =>
    have a1 : At s 1 b1.toNat := at_of (i := 1) (by rw [hs]; rfl)
    rw [List.length_cons] at hsz
    have hsi : decide (((s.size : Nat) : Int) < 2) = false := decide_eq_false (by omega)
    by_cases h1 : b1.toNat < sl k
    · rw [bad_second h9 hk (by omega) (Or.inl h1)]
      exact refUnit_low2 s b0.toNat b1.toNat _ _ hn hdec hrow a0 a1 hsi (decide_eq_true (by omega)) w
    · by_cases h2 : sh k < b1.toNat
      · rw [bad_second h9 hk (by omega) (Or.inr h2)]
        exact refUnit_high2 s b0.toNat b1.toNat _ _ hn hdec hrow a0 a1 hsi (decide_eq_false (by omega)) (decide_eq_true (by omega)) w
      · rw [bad_more h9 hk (by omega) ⟨by omega, by omega⟩]
        have l1 : decide (b1.toNat < low2 k) = false := decide_eq_false (by omega)
        have l2 : decide (high2 k < b1.toNat) = false := decide_eq_false (by omega)
        cases t with
        | nil => exact refUnit_endb2 s b0.toNat b1.toNat _ _ hn hdec hrow a0 a1 hsi l1 l2 (decide_eq_false (by rw [hsz]; decide)) w
        | cons b2 t =>
          have a2 : At s 2 b2.toNat := at_of (i := 2) (by rw [hs]; rfl)
          rw [List.length_cons] at hsz
          have e2 : decide ((2 : Int) < ((s.size : Nat) : Int)) = true := decide_eq_true (by omega)
          have h3 := none_three h9 hk hz hd ⟨by omega, by omega⟩
          show Calls _ _ _ _ fun e w' => e = .returned (.tuple #[.int .i64 (((if 128 ≤ b2.toNat ∧ b2.toNat ≤ 191 then 3 else 2 : Nat) : Nat) : Int), .bool false]) ∧ w = w'
          rw [if_neg h3]
          by_cases h4 : 128 ≤ b2.toNat
          · exact refUnit_highb2 s b0.toNat b1.toNat b2.toNat _ _ hn hdec hrow a0 a1 a2 hsi l1 l2 e2 (decide_eq_true (by omega)) (decide_eq_false (by omega)) w
          · exact refUnit_lowb2 s b0.toNat b1.toNat b2.toNat _ _ hn hdec hrow a0 a1 a2 hsi l1 l2 e2 (decide_eq_false (by omega)) w

theorem refUnit_k3 (s : ByteArray) (b0 : UInt8) (t : List UInt8) (k : Nat) (hs : s.data.toList = b0 :: t) (hd : decL (b0 :: t) = none) (hk : rowIx b0.toNat = k) (h9 : k < 9) (hz : sz k = 4) (hb : behind k = 3) (hlo : low2 k = sl k) (hhi : high2 k = sh k) (_hlh : sl k ≤ sh k) (w : World) :
    Calls Tryd.prog 7 #[.string s] w fun e w' => e = .returned (.tuple #[.int .i64 ((badL (b0 :: t) : Nat) : Int), .bool false]) ∧ w = w' := by
  have hn := not_empty hs
  have hrow : Hid ((.tuple #[.int .i64 (behind (rowIx b0.toNat)), .int .u8 (low2 (rowIx b0.toNat) : Nat), .int .u8 (high2 (rowIx b0.toNat) : Nat)] : Value) = .tuple #[.int .i64 3, .int .u8 (low2 k : Nat), .int .u8 (high2 k : Nat)]) := by
    show _ = _
    rw [hk, hb]
  have hdec : Hid (decV s.data.toList = .tuple #[.int .i64 0, .int .i64 0, .bool false]) := by
    show _ = _
    rw [hs, decV_none hd]
  have a0 : At s 0 b0.toNat := at_of (i := 0) (by rw [hs]; rfl)
  have hsz : s.size = t.length + 1 := by rw [size_list, hs]; rfl
  cases t with
  | nil =>
    rw [bad_short]
    exact refUnit_one3 s b0.toNat _ _ hn hdec hrow a0 (decide_eq_true (by rw [hsz]; decide)) w
  | cons b1 t =>
    have a1 : At s 1 b1.toNat := at_of (i := 1) (by rw [hs]; rfl)
    rw [List.length_cons] at hsz
    have hsi : decide (((s.size : Nat) : Int) < 2) = false := decide_eq_false (by omega)
    by_cases h1 : b1.toNat < sl k
    · rw [bad_second h9 hk (by omega) (Or.inl h1)]
      exact refUnit_low3 s b0.toNat b1.toNat _ _ hn hdec hrow a0 a1 hsi (decide_eq_true (by omega)) w
    · by_cases h2 : sh k < b1.toNat
      · rw [bad_second h9 hk (by omega) (Or.inr h2)]
        exact refUnit_high3 s b0.toNat b1.toNat _ _ hn hdec hrow a0 a1 hsi (decide_eq_false (by omega)) (decide_eq_true (by omega)) w
      · rw [bad_more h9 hk (by omega) ⟨by omega, by omega⟩]
        have l1 : decide (b1.toNat < low2 k) = false := decide_eq_false (by omega)
        have l2 : decide (high2 k < b1.toNat) = false := decide_eq_false (by omega)
        cases t with
        | nil => exact refUnit_endb3 s b0.toNat b1.toNat _ _ hn hdec hrow a0 a1 hsi l1 l2 (decide_eq_false (by rw [hsz]; decide)) w
        | cons b2 t =>
          have a2 : At s 2 b2.toNat := at_of (i := 2) (by rw [hs]; rfl)
          rw [List.length_cons] at hsz
          have e2 : decide ((2 : Int) < ((s.size : Nat) : Int)) = true := decide_eq_true (by omega)
          show Calls _ _ _ _ fun e w' => e = .returned (.tuple #[.int .i64 (((if 128 ≤ b2.toNat ∧ b2.toNat ≤ 191 then 3 else 2 : Nat) : Nat) : Int), .bool false]) ∧ w = w'
          by_cases h3 : 128 ≤ b2.toNat ∧ b2.toNat ≤ 191
          · rw [if_pos h3]
            have m1 : decide ((128 : Int) ≤ ((b2.toNat : Nat) : Int)) = true := decide_eq_true (by omega)
            have m2 : decide (((b2.toNat : Nat) : Int) ≤ 191) = true := decide_eq_true (by omega)
            cases t with
            | nil => exact refUnit_endc s b0.toNat b1.toNat b2.toNat _ _ hn hdec hrow a0 a1 a2 hsi l1 l2 e2 m1 m2 (decide_eq_false (by rw [hsz]; decide)) w
            | cons b3 t =>
              have a3 : At s 3 b3.toNat := at_of (i := 3) (by rw [hs]; rfl)
              rw [List.length_cons] at hsz
              have e3 : decide ((3 : Int) < ((s.size : Nat) : Int)) = true := decide_eq_true (by omega)
              have h5 := none_four h9 hk hz hd ⟨by omega, by omega⟩ h3
              by_cases h4 : 128 ≤ b3.toNat
              · exact refUnit_highc s b0.toNat b1.toNat b2.toNat b3.toNat _ _ hn hdec hrow a0 a1 a2 a3 hsi l1 l2 e2 m1 m2 e3 (decide_eq_true (by omega)) (decide_eq_false (by omega)) w
              · exact refUnit_lowc s b0.toNat b1.toNat b2.toNat b3.toNat _ _ hn hdec hrow a0 a1 a2 a3 hsi l1 l2 e2 m1 m2 e3 (decide_eq_false (by omega)) w
          · rw [if_neg h3]
            by_cases h4 : 128 ≤ b2.toNat
            · exact refUnit_highb3 s b0.toNat b1.toNat b2.toNat _ _ hn hdec hrow a0 a1 a2 hsi l1 l2 e2 (decide_eq_true (by omega)) (decide_eq_false (by omega)) w
            · exact refUnit_lowb3 s b0.toNat b1.toNat b2.toNat _ _ hn hdec hrow a0 a1 a2 hsi l1 l2 e2 (decide_eq_false (by omega)) w

theorem refUnit_any (s : ByteArray) (w : World) :
    Calls Tryd.prog 7 #[.string s] w fun e w' => e = .returned (unitAns s.data.toList) ∧ w = w' := by
  cases hs : s.data.toList with
  | nil => exact refUnit_empty s (by rw [Lib.toList_data, hs]; rfl) w
  | cons b0 t =>
    rw [show unitAns (b0 :: t) = .tuple #[.int .i64 ((unitL (b0 :: t)).1 : Nat), .bool (unitL (b0 :: t)).2] from if_neg (by simp)]
    cases hd : decL (b0 :: t) with
    | some x =>
      obtain ⟨r, n⟩ := x
      rw [unitL_some hd]
      exact refUnit_ok s _ _ (not_empty hs) (by show _ = _; rw [hs, decV_some hd]) w
    | none =>
      rw [unitL_none hd]
      show Calls _ _ _ _ fun e w' => e = .returned (.tuple #[.int .i64 ((badL (b0 :: t) : Nat) : Int), .bool false]) ∧ w = w'
      by_cases h9 : rowIx b0.toNat < 9
      · rcases below9 h9 with h | h | h | h | h | h | h | h | h
        · exfalso
          have e := dec_is (by omega) h (t := t)
          rw [hd] at e
          have hf := first_of (by omega) h
          have e2 : fitsB 0 [b0] = false := e.symm
          have e3 : fitsB 0 [b0] = true := (fits1 0 b0).2 ⟨rfl, hf⟩
          rw [e3] at e2
          cases e2
        · exact refUnit_k1 s b0 t 1 hs hd h (by omega) rfl rfl rfl rfl (by decide) w
        · exact refUnit_k2 s b0 t 2 hs hd h (by omega) rfl rfl rfl rfl (by decide) w
        · exact refUnit_k2 s b0 t 3 hs hd h (by omega) rfl rfl rfl rfl (by decide) w
        · exact refUnit_k2 s b0 t 4 hs hd h (by omega) rfl rfl rfl rfl (by decide) w
        · exact refUnit_k2 s b0 t 5 hs hd h (by omega) rfl rfl rfl rfl (by decide) w
        · exact refUnit_k3 s b0 t 6 hs hd h (by omega) rfl rfl rfl rfl (by decide) w
        · exact refUnit_k3 s b0 t 7 hs hd h (by omega) rfl rfl rfl rfl (by decide) w
        · exact refUnit_k3 s b0 t 8 hs hd h (by omega) rfl rfl rfl rfl (by decide) w
      · have h : rowIx b0.toNat = 9 := by have := rowIx_le b0.toNat; omega
        rw [bad_one_first h]
        exact refUnit_neg s b0.toNat 0 0 (not_empty hs) (by show _ = _; rw [hs, decV_none hd]) (by show _ = _; rw [h]; rfl) (at_of (i := 0) (by rw [hs]; rfl)) w
end Go.Proofs.YthnfekilmiodpaaDoor

