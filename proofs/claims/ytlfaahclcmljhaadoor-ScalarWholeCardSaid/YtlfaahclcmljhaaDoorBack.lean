/- ScalarBack. -/
import Derived.Test.YtlfaahclcmljhaaDoorPieces
import Derived.Test.YtlfaahclcmljhaaDoorFirst
import Derived.Test.YtlfaahclcmljhaaDoorNe
namespace Go.Proofs.YtlfaahclcmljhaaDoor
open Go.RowKit

theorem back_first {a : Int} (h : rowR a < 9) (x : ByteArray) : decV (strR a ++ x).data.toList = .tuple #[.int .i64 a, .int .i64 ((strR a).size : Nat), .bool true] := by
  rw [append_list, strR_list, decV_some (decL_enc (rowR_toNat h) _), ← strR_size, Int.toNat_of_nonneg (scalar_lt h).1]
theorem back_empty (x : ByteArray) : decV ((⟨#[]⟩ : ByteArray) ++ x).data.toList = decV x.data.toList := by
  rw [append_list]; rfl
theorem back_enc {s : ByteArray} {r k : Nat} (h : decL s.data.toList = some (r, k)) : encV (r : Nat) = .tuple #[.string (s.extract 0 k), .int .i64 0] := by
  obtain ⟨h9, _, _⟩ := decL_some h
  have e : strR (r : Nat) = s.extract 0 k := by
    have := head_list h
    apply ByteArray.ext
    apply Array.ext'
    rw [this]
    rfl
  rw [encV_yes h9, e]
theorem back_in64 {l : List UInt8} {r k : Nat} (h : decL l = some (r, k)) : In64 (r : Nat) := by
  have := scalar_lt (decL_some h).1
  exact in64_of (by omega)
theorem back_zero : encV 0 = .tuple #[.string ⟨#[0]⟩, .int .i64 0] := by kernel_rfl

set_option maxRecDepth 100000 in
set_option maxHeartbeats 1000000 in
theorem back_yes_some (a : Int) (ha : In64 a) (s : ByteArray) (w : World) (aU aS : Addr) (hG : Glob w aU aS) (h9 : rowR a < 9) {r k : Nat} (hd : decL (cutS s).data.toList = some (r, k)) :
    Calls Tryd.prog 5 #[.int .i64 a, .string s] w fun e w' => e = .returned (.bool true) ∧ Below w.heap.size w w' := by
  have E1 := Lib.hid (encV_yes h9)
  have D1 := Lib.hid (back_first h9 (cutS s))
  have hr : decide (rowR a < 9) = true := decide_eq_true h9
  have hroom : (strR a).size + (cutS s).size ≤ 600 := by have := cutS_size s; have := encB_length a.toNat; rw [strR_size]; omega
  have D2 := Lib.hid (decV_some hd)
  have E2 := Lib.hid (back_enc hd)
  have hi : In64 (r : Nat) := back_in64 hd
  have hl := decL_len hd
  have hk : k ≤ (cutS s).size := by simpa using hl.2.2
  have k0 : 0 < k := by omega
  have kn : ¬ k = 0 := by omega
  have hmin : min k (cutS s).size = k := Nat.min_eq_left hk
  clear hl hd h9
  go_enter Tryd.func5, Tryd.ntmps5
  go_wp2_with fail
  refine (shown_any w aU aS hG).mono ?_
  rintro e w1 ⟨rfl, b1⟩
  have g1 := hG.below b1
  go_wp2_with fail
  refine (encode_any a ha w1 aU aS g1).mono ?_
  rintro e w2 ⟨rfl, c2⟩
  have g2 := g1.below c2
  have b2 := b1.trans (c2.mono b1.size)
  rw [E1.out]
  go_wp2_with fail
  refine (cut_any s w2).mono ?_
  rintro e w3 ⟨rfl, rfl⟩
  go_wp2_with fail
  refine (decode_any _ w2 aU aS g2).mono ?_
  rintro e w3 ⟨rfl, c3⟩
  have g3 := g2.below c3
  have b3 := b2.trans (c3.mono b2.size)
  rw [D1.out]
  go_wp2_with fail
  refine (right_any a ha w3).mono ?_
  rintro e w4 ⟨rfl, c4⟩
  have g4 := g3.below c4
  have b4 := b3.trans (c4.mono b3.size)
  rw [hr]
  go_wp2_with fail
  refine (cut_any s w4).mono ?_
  rintro e w5 ⟨rfl, rfl⟩
  go_wp2_with fail
  refine (decode_any _ w4 aU aS g4).mono ?_
  rintro e w5 ⟨rfl, c5⟩
  have g5 := g4.below c5
  have b5 := b4.trans (c5.mono b4.size)
  rw [D2.out]
  go_wp2_with fail
  refine (encode_any _ hi w5 aU aS g5).mono ?_
  rintro e w6 ⟨rfl, c6⟩
  have b6 := b5.trans (c6.mono b5.size)
  rw [E2.out]
  go_wp2_with fail
  refine (cut_any s w6).mono ?_
  rintro e w7 ⟨rfl, rfl⟩
  go_wp2_with fail
  refine (cut_any s w6).mono ?_
  rintro e w7 ⟨rfl, rfl⟩
  go_wp2
  go_ret
  exact ⟨rfl, b6⟩
set_option maxRecDepth 100000 in
set_option maxHeartbeats 1000000 in
theorem back_yes_none (a : Int) (ha : In64 a) (s : ByteArray) (w : World) (aU aS : Addr) (hG : Glob w aU aS) (h9 : rowR a < 9) (hd : decL (cutS s).data.toList = none) :
    Calls Tryd.prog 5 #[.int .i64 a, .string s] w fun e w' => e = .returned (.bool true) ∧ Below w.heap.size w w' := by
  have E1 := Lib.hid (encV_yes h9)
  have D1 := Lib.hid (back_first h9 (cutS s))
  have hr : decide (rowR a < 9) = true := decide_eq_true h9
  have hroom : (strR a).size + (cutS s).size ≤ 600 := by have := cutS_size s; have := encB_length a.toNat; rw [strR_size]; omega
  have D2 := Lib.hid (decV_none hd)
  have E2 := Lib.hid back_zero
  have hi : In64 0 := in64_of (by decide)
  clear hd h9
  go_enter Tryd.func5, Tryd.ntmps5
  go_wp2_with fail
  refine (shown_any w aU aS hG).mono ?_
  rintro e w1 ⟨rfl, b1⟩
  have g1 := hG.below b1
  go_wp2_with fail
  refine (encode_any a ha w1 aU aS g1).mono ?_
  rintro e w2 ⟨rfl, c2⟩
  have g2 := g1.below c2
  have b2 := b1.trans (c2.mono b1.size)
  rw [E1.out]
  go_wp2_with fail
  refine (cut_any s w2).mono ?_
  rintro e w3 ⟨rfl, rfl⟩
  go_wp2_with fail
  refine (decode_any _ w2 aU aS g2).mono ?_
  rintro e w3 ⟨rfl, c3⟩
  have g3 := g2.below c3
  have b3 := b2.trans (c3.mono b2.size)
  rw [D1.out]
  go_wp2_with fail
  refine (right_any a ha w3).mono ?_
  rintro e w4 ⟨rfl, c4⟩
  have g4 := g3.below c4
  have b4 := b3.trans (c4.mono b3.size)
  rw [hr]
  go_wp2_with fail
  refine (cut_any s w4).mono ?_
  rintro e w5 ⟨rfl, rfl⟩
  go_wp2_with fail
  refine (decode_any _ w4 aU aS g4).mono ?_
  rintro e w5 ⟨rfl, c5⟩
  have g5 := g4.below c5
  have b5 := b4.trans (c5.mono b4.size)
  rw [D2.out]
  go_wp2_with fail
  refine (encode_any _ hi w5 aU aS g5).mono ?_
  rintro e w6 ⟨rfl, c6⟩
  have b6 := b5.trans (c6.mono b5.size)
  rw [E2.out]
  go_wp2
  go_ret
  exact ⟨rfl, b6⟩
set_option maxRecDepth 100000 in
set_option maxHeartbeats 1000000 in
theorem back_no_some (a : Int) (ha : In64 a) (s : ByteArray) (w : World) (aU aS : Addr) (hG : Glob w aU aS) (h9 : ¬ rowR a < 9) {r k : Nat} (hd : decL (cutS s).data.toList = some (r, k)) :
    Calls Tryd.prog 5 #[.int .i64 a, .string s] w fun e w' => e = .returned (.bool true) ∧ Below w.heap.size w w' := by
  have E1 := Lib.hid (encV_no h9)
  have D1 := Lib.hid ((back_empty (cutS s)).trans (decV_some hd))
  have hr : decide (rowR a < 9) = false := decide_eq_false h9
  have hroom : (cutS s).size ≤ 600 := by have := cutS_size s; omega
  have D2 := Lib.hid (decV_some hd)
  have E2 := Lib.hid (back_enc hd)
  have hi : In64 (r : Nat) := back_in64 hd
  have hl := decL_len hd
  have hk : k ≤ (cutS s).size := by simpa using hl.2.2
  have k0 : 0 < k := by omega
  have kn : ¬ k = 0 := by omega
  have hmin : min k (cutS s).size = k := Nat.min_eq_left hk
  clear hl hd h9
  go_enter Tryd.func5, Tryd.ntmps5
  go_wp2_with fail
  refine (shown_any w aU aS hG).mono ?_
  rintro e w1 ⟨rfl, b1⟩
  have g1 := hG.below b1
  go_wp2_with fail
  refine (encode_any a ha w1 aU aS g1).mono ?_
  rintro e w2 ⟨rfl, c2⟩
  have g2 := g1.below c2
  have b2 := b1.trans (c2.mono b1.size)
  rw [E1.out]
  go_wp2_with fail
  refine (cut_any s w2).mono ?_
  rintro e w3 ⟨rfl, rfl⟩
  go_wp2_with fail
  refine (decode_any _ w2 aU aS g2).mono ?_
  rintro e w3 ⟨rfl, c3⟩
  have g3 := g2.below c3
  have b3 := b2.trans (c3.mono b2.size)
  rw [D1.out]
  go_wp2_with fail
  refine (right_any a ha w3).mono ?_
  rintro e w4 ⟨rfl, c4⟩
  have g4 := g3.below c4
  have b4 := b3.trans (c4.mono b3.size)
  rw [hr]
  go_wp2_with fail
  refine (cut_any s w4).mono ?_
  rintro e w5 ⟨rfl, rfl⟩
  go_wp2_with fail
  refine (decode_any _ w4 aU aS g4).mono ?_
  rintro e w5 ⟨rfl, c5⟩
  have g5 := g4.below c5
  have b5 := b4.trans (c5.mono b4.size)
  rw [D2.out]
  go_wp2_with fail
  refine (encode_any _ hi w5 aU aS g5).mono ?_
  rintro e w6 ⟨rfl, c6⟩
  have b6 := b5.trans (c6.mono b5.size)
  rw [E2.out]
  go_wp2_with fail
  refine (cut_any s w6).mono ?_
  rintro e w7 ⟨rfl, rfl⟩
  go_wp2_with fail
  refine (cut_any s w6).mono ?_
  rintro e w7 ⟨rfl, rfl⟩
  go_wp2
  go_ret
  exact ⟨rfl, b6⟩
set_option maxRecDepth 100000 in
set_option maxHeartbeats 1000000 in
theorem back_no_none (a : Int) (ha : In64 a) (s : ByteArray) (w : World) (aU aS : Addr) (hG : Glob w aU aS) (h9 : ¬ rowR a < 9) (hd : decL (cutS s).data.toList = none) :
    Calls Tryd.prog 5 #[.int .i64 a, .string s] w fun e w' => e = .returned (.bool true) ∧ Below w.heap.size w w' := by
  have E1 := Lib.hid (encV_no h9)
  have D1 := Lib.hid ((back_empty (cutS s)).trans (decV_none hd))
  have hr : decide (rowR a < 9) = false := decide_eq_false h9
  have hroom : (cutS s).size ≤ 600 := by have := cutS_size s; omega
  have D2 := Lib.hid (decV_none hd)
  have E2 := Lib.hid back_zero
  have hi : In64 0 := in64_of (by decide)
  clear hd h9
  go_enter Tryd.func5, Tryd.ntmps5
  go_wp2_with fail
  refine (shown_any w aU aS hG).mono ?_
  rintro e w1 ⟨rfl, b1⟩
  have g1 := hG.below b1
  go_wp2_with fail
  refine (encode_any a ha w1 aU aS g1).mono ?_
  rintro e w2 ⟨rfl, c2⟩
  have g2 := g1.below c2
  have b2 := b1.trans (c2.mono b1.size)
  rw [E1.out]
  go_wp2_with fail
  refine (cut_any s w2).mono ?_
  rintro e w3 ⟨rfl, rfl⟩
  go_wp2_with fail
  refine (decode_any _ w2 aU aS g2).mono ?_
  rintro e w3 ⟨rfl, c3⟩
  have g3 := g2.below c3
  have b3 := b2.trans (c3.mono b2.size)
  rw [D1.out]
  go_wp2_with fail
  refine (right_any a ha w3).mono ?_
  rintro e w4 ⟨rfl, c4⟩
  have g4 := g3.below c4
  have b4 := b3.trans (c4.mono b3.size)
  rw [hr]
  go_wp2_with fail
  refine (cut_any s w4).mono ?_
  rintro e w5 ⟨rfl, rfl⟩
  go_wp2_with fail
  refine (decode_any _ w4 aU aS g4).mono ?_
  rintro e w5 ⟨rfl, c5⟩
  have g5 := g4.below c5
  have b5 := b4.trans (c5.mono b4.size)
  rw [D2.out]
  go_wp2_with fail
  refine (encode_any _ hi w5 aU aS g5).mono ?_
  rintro e w6 ⟨rfl, c6⟩
  have b6 := b5.trans (c6.mono b5.size)
  rw [E2.out]
  go_wp2
  go_ret
  exact ⟨rfl, b6⟩
theorem back_any (a : Int) (s : ByteArray) (ha : In64 a) (w : World) (aU aS : Addr) (hG : Glob w aU aS) :
    Calls Tryd.prog 5 #[.int .i64 a, .string s] w fun e w' => e = .returned (.bool true) ∧ Below w.heap.size w w' := by
  by_cases h9 : rowR a < 9
  · cases hd : decL (cutS s).data.toList with
    | none => exact back_yes_none a ha s w aU aS hG h9 hd
    | some x => exact back_yes_some a ha s w aU aS hG h9 (r := x.1) (k := x.2) hd
  · cases hd : decL (cutS s).data.toList with
    | none => exact back_no_none a ha s w aU aS hG h9 hd
    | some x => exact back_no_some a ha s w aU aS hG h9 (r := x.1) (k := x.2) hd
end Go.Proofs.YtlfaahclcmljhaaDoor
