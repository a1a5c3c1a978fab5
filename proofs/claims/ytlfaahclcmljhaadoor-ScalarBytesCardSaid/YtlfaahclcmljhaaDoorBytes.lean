/- ScalarBytes. -/
import Derived.Test.YtlfaahclcmljhaaDoorOrder
import Derived.Test.YtlfaahclcmljhaaDoorCut
import Derived.Test.YtlfaahclcmljhaaDoorNe
import Derived.Test.YtlfaahclcmljhaaDoorRef
import Derived.Test.YtlfaahclcmljhaaDoorRefDecode
namespace Go.Proofs.YtlfaahclcmljhaaDoor
open Go.RowKit

set_option maxRecDepth 100000 in
set_option maxHeartbeats 1000000 in
theorem bytes_yes_some (a : Int) (ha : In64 a) (s : ByteArray) (w : World) (aU aS : Addr) (hG : Glob w aU aS) (h9 : rowR a < 9) {r k : Nat} (hd : decL (cutS s).data.toList = some (r, k)) :
    Calls Tryd.prog 3 #[.int .i64 a, .string s] w fun e w' => e = .returned (.bool true) ∧ Below w.heap.size w w' := by
  have E1 := Lib.hid (encV_yes h9)
  have D1 := Lib.hid (decV_some hd)
  have hr : decide (rowR a < 9) = true := decide_eq_true h9
  clear hd h9
  go_enter Tryd.func3, Tryd.ntmps3
  go_wp2_with fail
  refine (shown_any w aU aS hG).mono ?_
  rintro e w1 ⟨rfl, b1⟩
  have g1 := hG.below b1
  go_wp2_with fail
  refine (encode_any a ha w1 aU aS g1).mono ?_
  rintro e w2 ⟨rfl, c2⟩
  have g2 := g1.below c2
  have b2 := b1.trans (c2.mono b1.size)
  rw [E1.out]
  go_wp2_with fail
  refine (refEncode_any a w2).mono ?_
  rintro e w3 ⟨rfl, c3⟩
  have g3 := g2.below c3
  have b3 := b2.trans (c3.mono b2.size)
  rw [E1.out]
  go_wp2_with fail
  refine (cut_any s w3).mono ?_
  rintro e w4 ⟨rfl, rfl⟩
  go_wp2_with fail
  refine (decode_any _ w3 aU aS g3).mono ?_
  rintro e w4 ⟨rfl, c4⟩
  have b4 := b3.trans (c4.mono b3.size)
  rw [D1.out]
  go_wp2_with fail
  refine (cut_any s w4).mono ?_
  rintro e w5 ⟨rfl, rfl⟩
  go_wp2_with fail
  refine (refDecode_any _ w4).mono ?_
  rintro e w5 ⟨rfl, rfl⟩
  rw [D1.out]
  go_wp2_with fail
  refine (right_any a ha w4).mono ?_
  rintro e w5 ⟨rfl, c5⟩
  have b5 := b4.trans (c5.mono b4.size)
  rw [hr]
  go_wp2_with fail
  refine (refRight_any a w5).mono ?_
  rintro e w6 ⟨rfl, rfl⟩
  rw [hr]
  go_wp2
  go_ret
  exact ⟨rfl, b5⟩
set_option maxRecDepth 100000 in
set_option maxHeartbeats 1000000 in
theorem bytes_yes_none (a : Int) (ha : In64 a) (s : ByteArray) (w : World) (aU aS : Addr) (hG : Glob w aU aS) (h9 : rowR a < 9) (hd : decL (cutS s).data.toList = none) :
    Calls Tryd.prog 3 #[.int .i64 a, .string s] w fun e w' => e = .returned (.bool true) ∧ Below w.heap.size w w' := by
  have E1 := Lib.hid (encV_yes h9)
  have D1 := Lib.hid (decV_none hd)
  have hr : decide (rowR a < 9) = true := decide_eq_true h9
  clear hd h9
  go_enter Tryd.func3, Tryd.ntmps3
  go_wp2_with fail
  refine (shown_any w aU aS hG).mono ?_
  rintro e w1 ⟨rfl, b1⟩
  have g1 := hG.below b1
  go_wp2_with fail
  refine (encode_any a ha w1 aU aS g1).mono ?_
  rintro e w2 ⟨rfl, c2⟩
  have g2 := g1.below c2
  have b2 := b1.trans (c2.mono b1.size)
  rw [E1.out]
  go_wp2_with fail
  refine (refEncode_any a w2).mono ?_
  rintro e w3 ⟨rfl, c3⟩
  have g3 := g2.below c3
  have b3 := b2.trans (c3.mono b2.size)
  rw [E1.out]
  go_wp2_with fail
  refine (cut_any s w3).mono ?_
  rintro e w4 ⟨rfl, rfl⟩
  go_wp2_with fail
  refine (decode_any _ w3 aU aS g3).mono ?_
  rintro e w4 ⟨rfl, c4⟩
  have b4 := b3.trans (c4.mono b3.size)
  rw [D1.out]
  go_wp2_with fail
  refine (cut_any s w4).mono ?_
  rintro e w5 ⟨rfl, rfl⟩
  go_wp2_with fail
  refine (refDecode_any _ w4).mono ?_
  rintro e w5 ⟨rfl, rfl⟩
  rw [D1.out]
  go_wp2_with fail
  refine (right_any a ha w4).mono ?_
  rintro e w5 ⟨rfl, c5⟩
  have b5 := b4.trans (c5.mono b4.size)
  rw [hr]
  go_wp2_with fail
  refine (refRight_any a w5).mono ?_
  rintro e w6 ⟨rfl, rfl⟩
  rw [hr]
  go_wp2
  go_ret
  exact ⟨rfl, b5⟩
set_option maxRecDepth 100000 in
set_option maxHeartbeats 1000000 in
theorem bytes_no_some (a : Int) (ha : In64 a) (s : ByteArray) (w : World) (aU aS : Addr) (hG : Glob w aU aS) (h9 : ¬ rowR a < 9) {r k : Nat} (hd : decL (cutS s).data.toList = some (r, k)) :
    Calls Tryd.prog 3 #[.int .i64 a, .string s] w fun e w' => e = .returned (.bool true) ∧ Below w.heap.size w w' := by
  have E1 := Lib.hid (encV_no h9)
  have D1 := Lib.hid (decV_some hd)
  have hr : decide (rowR a < 9) = false := decide_eq_false h9
  clear hd h9
  go_enter Tryd.func3, Tryd.ntmps3
  go_wp2_with fail
  refine (shown_any w aU aS hG).mono ?_
  rintro e w1 ⟨rfl, b1⟩
  have g1 := hG.below b1
  go_wp2_with fail
  refine (encode_any a ha w1 aU aS g1).mono ?_
  rintro e w2 ⟨rfl, c2⟩
  have g2 := g1.below c2
  have b2 := b1.trans (c2.mono b1.size)
  rw [E1.out]
  go_wp2_with fail
  refine (refEncode_any a w2).mono ?_
  rintro e w3 ⟨rfl, c3⟩
  have g3 := g2.below c3
  have b3 := b2.trans (c3.mono b2.size)
  rw [E1.out]
  go_wp2_with fail
  refine (cut_any s w3).mono ?_
  rintro e w4 ⟨rfl, rfl⟩
  go_wp2_with fail
  refine (decode_any _ w3 aU aS g3).mono ?_
  rintro e w4 ⟨rfl, c4⟩
  have b4 := b3.trans (c4.mono b3.size)
  rw [D1.out]
  go_wp2_with fail
  refine (cut_any s w4).mono ?_
  rintro e w5 ⟨rfl, rfl⟩
  go_wp2_with fail
  refine (refDecode_any _ w4).mono ?_
  rintro e w5 ⟨rfl, rfl⟩
  rw [D1.out]
  go_wp2_with fail
  refine (right_any a ha w4).mono ?_
  rintro e w5 ⟨rfl, c5⟩
  have b5 := b4.trans (c5.mono b4.size)
  rw [hr]
  go_wp2_with fail
  refine (refRight_any a w5).mono ?_
  rintro e w6 ⟨rfl, rfl⟩
  rw [hr]
  go_wp2
  go_ret
  exact ⟨rfl, b5⟩
set_option maxRecDepth 100000 in
set_option maxHeartbeats 1000000 in
theorem bytes_no_none (a : Int) (ha : In64 a) (s : ByteArray) (w : World) (aU aS : Addr) (hG : Glob w aU aS) (h9 : ¬ rowR a < 9) (hd : decL (cutS s).data.toList = none) :
    Calls Tryd.prog 3 #[.int .i64 a, .string s] w fun e w' => e = .returned (.bool true) ∧ Below w.heap.size w w' := by
  have E1 := Lib.hid (encV_no h9)
  have D1 := Lib.hid (decV_none hd)
  have hr : decide (rowR a < 9) = false := decide_eq_false h9
  clear hd h9
  go_enter Tryd.func3, Tryd.ntmps3
  go_wp2_with fail
  refine (shown_any w aU aS hG).mono ?_
  rintro e w1 ⟨rfl, b1⟩
  have g1 := hG.below b1
  go_wp2_with fail
  refine (encode_any a ha w1 aU aS g1).mono ?_
  rintro e w2 ⟨rfl, c2⟩
  have g2 := g1.below c2
  have b2 := b1.trans (c2.mono b1.size)
  rw [E1.out]
  go_wp2_with fail
  refine (refEncode_any a w2).mono ?_
  rintro e w3 ⟨rfl, c3⟩
  have g3 := g2.below c3
  have b3 := b2.trans (c3.mono b2.size)
  rw [E1.out]
  go_wp2_with fail
  refine (cut_any s w3).mono ?_
  rintro e w4 ⟨rfl, rfl⟩
  go_wp2_with fail
  refine (decode_any _ w3 aU aS g3).mono ?_
  rintro e w4 ⟨rfl, c4⟩
  have b4 := b3.trans (c4.mono b3.size)
  rw [D1.out]
  go_wp2_with fail
  refine (cut_any s w4).mono ?_
  rintro e w5 ⟨rfl, rfl⟩
  go_wp2_with fail
  refine (refDecode_any _ w4).mono ?_
  rintro e w5 ⟨rfl, rfl⟩
  rw [D1.out]
  go_wp2_with fail
  refine (right_any a ha w4).mono ?_
  rintro e w5 ⟨rfl, c5⟩
  have b5 := b4.trans (c5.mono b4.size)
  rw [hr]
  go_wp2_with fail
  refine (refRight_any a w5).mono ?_
  rintro e w6 ⟨rfl, rfl⟩
  rw [hr]
  go_wp2
  go_ret
  exact ⟨rfl, b5⟩
theorem bytes_any (a : Int) (s : ByteArray) (ha : In64 a) (w : World) (aU aS : Addr) (hG : Glob w aU aS) :
    Calls Tryd.prog 3 #[.int .i64 a, .string s] w fun e w' => e = .returned (.bool true) ∧ Below w.heap.size w w' := by
  by_cases h9 : rowR a < 9
  · cases hd : decL (cutS s).data.toList with
    | none => exact bytes_yes_none a ha s w aU aS hG h9 hd
    | some x => exact bytes_yes_some a ha s w aU aS hG h9 (r := x.1) (k := x.2) hd
  · cases hd : decL (cutS s).data.toList with
    | none => exact bytes_no_none a ha s w aU aS hG h9 hd
    | some x => exact bytes_no_some a ha s w aU aS hG h9 (r := x.1) (k := x.2) hd
end Go.Proofs.YtlfaahclcmljhaaDoor
