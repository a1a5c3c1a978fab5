/- ScalarJoins. -/
import Derived.Test.YtlfaahclcmljhaaDoorCut
import Derived.Test.YtlfaahclcmljhaaDoorWell
namespace Go.Proofs.YtlfaahclcmljhaaDoor
open Go.RowKit

theorem append_list (s t : ByteArray) : (s ++ t).data.toList = s.data.toList ++ t.data.toList := by
  rw [ByteArray.data_append, Array.toList_append]
theorem joins_back (s t : ByteArray) (h : validL s.data.toList = true) : validL (s ++ t).data.toList = validL t.data.toList := by
  rw [append_list]; exact validL_append _ _ _ (Nat.le_refl _) h
theorem joins_front (s t : ByteArray) (h : validL t.data.toList = true) : validL (s ++ t).data.toList = validL s.data.toList := by
  rw [append_list]; exact validL_front _ _ _ (Nat.le_refl _) h
theorem valid_empty : validL (⟨#[]⟩ : ByteArray).data.toList = true := validL_nil

set_option maxRecDepth 100000 in
set_option maxHeartbeats 1000000 in
theorem joins_tt (s t : ByteArray) (w : World) (aU aS : Addr) (hG : Glob w aU aS) (hs : Hid (validL (cutS s).data.toList = true)) (ht : Hid (validL (cutS t).data.toList = true)) (hst : Hid (validL (cutS s ++ cutS t).data.toList = true)) :
    Calls Tryd.prog 7 #[.string s, .string t] w fun e w' => e = .returned (.bool true) ∧ Below w.heap.size w w' := by
  have hroom : (cutS s).size + (cutS t).size ≤ 600 := by have := cutS_size s; have := cutS_size t; omega
  go_enter Tryd.func7, Tryd.ntmps7
  go_wp2_with fail
  refine (shown_any w aU aS hG).mono ?_
  rintro e w1 ⟨rfl, b1⟩
  have g1 := hG.below b1
  go_wp2_with fail
  refine (cut_any s w1).mono ?_
  rintro e w2 ⟨rfl, rfl⟩
  go_wp2_with fail
  refine (cut_any t w1).mono ?_
  rintro e w2 ⟨rfl, rfl⟩
  generalize cutS s = s at *
  generalize cutS t = t at *
  go_wp2_with fail
  refine (valid_any _ w1 aU aS g1).mono ?_
  rintro e w2 ⟨rfl, c2⟩
  have g2 := g1.below c2
  have b2 := b1.trans (c2.mono b1.size)
  rw [hs.out]
  go_wp2_with fail
  refine (valid_any _ w2 aU aS g2).mono ?_
  rintro e w3 ⟨rfl, c3⟩
  have g3 := g2.below c3
  have b3 := b2.trans (c3.mono b2.size)
  rw [hst.out]
  go_wp2_with fail
  refine (valid_any _ w3 aU aS g3).mono ?_
  rintro e w4 ⟨rfl, c4⟩
  have g4 := g3.below c4
  have b4 := b3.trans (c4.mono b3.size)
  rw [ht.out]
  go_wp2_with fail
  refine (valid_any _ w4 aU aS g4).mono ?_
  rintro e w5 ⟨rfl, c5⟩
  have g5 := g4.below c5
  have b5 := b4.trans (c5.mono b4.size)
  rw [ht.out]
  go_wp2_with fail
  refine (valid_any _ w5 aU aS g5).mono ?_
  rintro e w6 ⟨rfl, c6⟩
  have g6 := g5.below c6
  have b6 := b5.trans (c6.mono b5.size)
  rw [hst.out]
  go_wp2_with fail
  refine (valid_any _ w6 aU aS g6).mono ?_
  rintro e w7 ⟨rfl, c7⟩
  have g7 := g6.below c7
  have b7 := b6.trans (c7.mono b6.size)
  rw [hs.out]
  go_wp2_with fail
  refine (valid_any _ w7 aU aS g7).mono ?_
  rintro e w8 ⟨rfl, c8⟩
  have g8 := g7.below c8
  have b8 := b7.trans (c8.mono b7.size)
  rw [valid_empty]
  go_wp2
  go_ret
  exact ⟨rfl, b8⟩
set_option maxRecDepth 100000 in
set_option maxHeartbeats 1000000 in
theorem joins_tf (s t : ByteArray) (w : World) (aU aS : Addr) (hG : Glob w aU aS) (hs : Hid (validL (cutS s).data.toList = true)) (ht : Hid (validL (cutS t).data.toList = false)) (hst : Hid (validL (cutS s ++ cutS t).data.toList = false)) :
    Calls Tryd.prog 7 #[.string s, .string t] w fun e w' => e = .returned (.bool true) ∧ Below w.heap.size w w' := by
  have hroom : (cutS s).size + (cutS t).size ≤ 600 := by have := cutS_size s; have := cutS_size t; omega
  go_enter Tryd.func7, Tryd.ntmps7
  go_wp2_with fail
  refine (shown_any w aU aS hG).mono ?_
  rintro e w1 ⟨rfl, b1⟩
  have g1 := hG.below b1
  go_wp2_with fail
  refine (cut_any s w1).mono ?_
  rintro e w2 ⟨rfl, rfl⟩
  go_wp2_with fail
  refine (cut_any t w1).mono ?_
  rintro e w2 ⟨rfl, rfl⟩
  generalize cutS s = s at *
  generalize cutS t = t at *
  go_wp2_with fail
  refine (valid_any _ w1 aU aS g1).mono ?_
  rintro e w2 ⟨rfl, c2⟩
  have g2 := g1.below c2
  have b2 := b1.trans (c2.mono b1.size)
  rw [hs.out]
  go_wp2_with fail
  refine (valid_any _ w2 aU aS g2).mono ?_
  rintro e w3 ⟨rfl, c3⟩
  have g3 := g2.below c3
  have b3 := b2.trans (c3.mono b2.size)
  rw [hst.out]
  go_wp2_with fail
  refine (valid_any _ w3 aU aS g3).mono ?_
  rintro e w4 ⟨rfl, c4⟩
  have g4 := g3.below c4
  have b4 := b3.trans (c4.mono b3.size)
  rw [ht.out]
  go_wp2_with fail
  refine (valid_any _ w4 aU aS g4).mono ?_
  rintro e w5 ⟨rfl, c5⟩
  have g5 := g4.below c5
  have b5 := b4.trans (c5.mono b4.size)
  rw [ht.out]
  go_wp2_with fail
  refine (valid_any _ w5 aU aS g5).mono ?_
  rintro e w6 ⟨rfl, c6⟩
  have g6 := g5.below c6
  have b6 := b5.trans (c6.mono b5.size)
  rw [valid_empty]
  go_wp2
  go_ret
  exact ⟨rfl, b6⟩
set_option maxRecDepth 100000 in
set_option maxHeartbeats 1000000 in
theorem joins_ft (s t : ByteArray) (w : World) (aU aS : Addr) (hG : Glob w aU aS) (hs : Hid (validL (cutS s).data.toList = false)) (ht : Hid (validL (cutS t).data.toList = true)) (hst : Hid (validL (cutS s ++ cutS t).data.toList = false)) :
    Calls Tryd.prog 7 #[.string s, .string t] w fun e w' => e = .returned (.bool true) ∧ Below w.heap.size w w' := by
  have hroom : (cutS s).size + (cutS t).size ≤ 600 := by have := cutS_size s; have := cutS_size t; omega
  go_enter Tryd.func7, Tryd.ntmps7
  go_wp2_with fail
  refine (shown_any w aU aS hG).mono ?_
  rintro e w1 ⟨rfl, b1⟩
  have g1 := hG.below b1
  go_wp2_with fail
  refine (cut_any s w1).mono ?_
  rintro e w2 ⟨rfl, rfl⟩
  go_wp2_with fail
  refine (cut_any t w1).mono ?_
  rintro e w2 ⟨rfl, rfl⟩
  generalize cutS s = s at *
  generalize cutS t = t at *
  go_wp2_with fail
  refine (valid_any _ w1 aU aS g1).mono ?_
  rintro e w2 ⟨rfl, c2⟩
  have g2 := g1.below c2
  have b2 := b1.trans (c2.mono b1.size)
  rw [hs.out]
  go_wp2_with fail
  refine (valid_any _ w2 aU aS g2).mono ?_
  rintro e w3 ⟨rfl, c3⟩
  have g3 := g2.below c3
  have b3 := b2.trans (c3.mono b2.size)
  rw [ht.out]
  go_wp2_with fail
  refine (valid_any _ w3 aU aS g3).mono ?_
  rintro e w4 ⟨rfl, c4⟩
  have g4 := g3.below c4
  have b4 := b3.trans (c4.mono b3.size)
  rw [hst.out]
  go_wp2_with fail
  refine (valid_any _ w4 aU aS g4).mono ?_
  rintro e w5 ⟨rfl, c5⟩
  have g5 := g4.below c5
  have b5 := b4.trans (c5.mono b4.size)
  rw [hs.out]
  go_wp2_with fail
  refine (valid_any _ w5 aU aS g5).mono ?_
  rintro e w6 ⟨rfl, c6⟩
  have g6 := g5.below c6
  have b6 := b5.trans (c6.mono b5.size)
  rw [valid_empty]
  go_wp2
  go_ret
  exact ⟨rfl, b6⟩
set_option maxRecDepth 100000 in
set_option maxHeartbeats 1000000 in
theorem joins_ff (s t : ByteArray) (w : World) (aU aS : Addr) (hG : Glob w aU aS) (hs : Hid (validL (cutS s).data.toList = false)) (ht : Hid (validL (cutS t).data.toList = false)) :
    Calls Tryd.prog 7 #[.string s, .string t] w fun e w' => e = .returned (.bool true) ∧ Below w.heap.size w w' := by
  have hroom : (cutS s).size + (cutS t).size ≤ 600 := by have := cutS_size s; have := cutS_size t; omega
  go_enter Tryd.func7, Tryd.ntmps7
  go_wp2_with fail
  refine (shown_any w aU aS hG).mono ?_
  rintro e w1 ⟨rfl, b1⟩
  have g1 := hG.below b1
  go_wp2_with fail
  refine (cut_any s w1).mono ?_
  rintro e w2 ⟨rfl, rfl⟩
  go_wp2_with fail
  refine (cut_any t w1).mono ?_
  rintro e w2 ⟨rfl, rfl⟩
  generalize cutS s = s at *
  generalize cutS t = t at *
  go_wp2_with fail
  refine (valid_any _ w1 aU aS g1).mono ?_
  rintro e w2 ⟨rfl, c2⟩
  have g2 := g1.below c2
  have b2 := b1.trans (c2.mono b1.size)
  rw [hs.out]
  go_wp2_with fail
  refine (valid_any _ w2 aU aS g2).mono ?_
  rintro e w3 ⟨rfl, c3⟩
  have g3 := g2.below c3
  have b3 := b2.trans (c3.mono b2.size)
  rw [ht.out]
  go_wp2_with fail
  refine (valid_any _ w3 aU aS g3).mono ?_
  rintro e w4 ⟨rfl, c4⟩
  have g4 := g3.below c4
  have b4 := b3.trans (c4.mono b3.size)
  rw [valid_empty]
  go_wp2
  go_ret
  exact ⟨rfl, b4⟩
theorem joins_any (s t : ByteArray) (w : World) (aU aS : Addr) (hG : Glob w aU aS) :
    Calls Tryd.prog 7 #[.string s, .string t] w fun e w' => e = .returned (.bool true) ∧ Below w.heap.size w w' := by
  cases hs : validL (cutS s).data.toList with
  | true =>
    cases ht : validL (cutS t).data.toList with
    | true => exact joins_tt s t w aU aS hG (Lib.hid hs) (Lib.hid ht) (Lib.hid ((joins_back _ _ hs).trans ht))
    | false => exact joins_tf s t w aU aS hG (Lib.hid hs) (Lib.hid ht) (Lib.hid ((joins_back _ _ hs).trans ht))
  | false =>
    cases ht : validL (cutS t).data.toList with
    | true => exact joins_ft s t w aU aS hG (Lib.hid hs) (Lib.hid ht) (Lib.hid ((joins_front _ _ ht).trans hs))
    | false => exact joins_ff s t w aU aS hG (Lib.hid hs) (Lib.hid ht)
end Go.Proofs.YtlfaahclcmljhaaDoor
