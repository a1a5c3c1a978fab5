/- ScalarTexts: the walk. -/
import Derived.Test.YtcdgmamlmapbcaaDoorRefText
import Derived.Test.YtcdgmamlmapbcaaDoorCut
namespace Go.Proofs.YtcdgmamlmapbcaaDoor
open Go.RowKit

theorem textV_form (xs : List Int) : ∃ t g, textV xs = .tuple #[.string t, .int .i64 g] := by
  unfold textV
  split <;> exact ⟨_, _, rfl⟩
theorem in64_scalars (l : List UInt8) (h : l.length ≤ 1000000) : (toI (scL l)).length ≤ 1000000 := by
  rw [List.length_map]
  unfold scL
  split
  · have := evs_length l
    rw [List.length_map]; omega
  · exact Nat.zero_le _

set_option maxRecDepth 100000 in
set_option maxHeartbeats 2000000 in
theorem texts_true (s : ByteArray) (l v : Value) (xs : List Int) (hx : ∀ r ∈ xs, In64 r) (hlen : xs.length ≤ 100) (w : World) (hl : IsInts w v xs) (hf : ∀ W, Calls Tryd.prog 13 #[l] W fun e W' => e = .returned v ∧ W = W') (aU aS : Addr) (hG : Glob w aU aS) (HQ : Hid (validL (cutS s).data.toList = true)) :
    Calls Tryd.prog 3 #[.string s, l] w fun e w' => e = .returned (.bool true) ∧ Below w.heap.size w w' := by
  have hz : (cutS s).size ≤ 300 := cutS_size s
  have hll : (cutS s).data.toList.length = (cutS s).size := by simp
  have HL := Lib.hid (in64_scalars (cutS s).data.toList (by omega))
  obtain ⟨t, g, ht⟩ := textV_form xs
  have HT := Lib.hid ht
  clear hll ht
  go_enter Tryd.func3, Tryd.ntmps3
  go_wp2_with fail
  refine (shown_any w aU aS hG).mono ?_
  rintro e w1 ⟨rfl, b1⟩
  have g1 := hG.below b1
  go_wp2_with fail
  refine (cut_any s w1).mono ?_
  rintro e w2 ⟨rfl, rfl⟩
  go_wp2_with fail
  refine (hf w1).mono ?_
  rintro e w2 ⟨rfl, rfl⟩
  go_wp2_with fail
  refine (scalars_f_any (cutS s) (by omega) w1 aU aS g1).mono ?_
  rintro e w2 ⟨va, rfl, oa, c2⟩
  have g2 := g1.below c2
  have b2 := b1.trans (c2.mono b1.size)
  obtain ⟨ia, po, pc, rfl⟩ := ints_own oa
  clear oa
  rw [HQ.out]
  simp only [if_true]
  go_wp2_with fail
  refine (refScalars_any (cutS s) (by omega) w2).mono ?_
  rintro e w3 ⟨vb, rfl, ob, c3⟩
  have g3 := g2.below c3
  have b3 := b2.trans (c3.mono b2.size)
  obtain ⟨ib, qo, qc, rfl⟩ := ints_own ob
  clear ob
  rw [HQ.out]
  simp only [if_true]
  go_wp2_with fail
  refine (text_any xs hx (by omega) v w3 (hl.below b3) aU aS g3).mono ?_
  rintro e w4 ⟨rfl, c4⟩
  have g4 := g3.below c4
  have b4 := b3.trans (c4.mono b3.size)
  rw [HT.out]
  go_wp2_with fail
  refine (refText_any xs (by omega) v w4 (hl.below b4)).mono ?_
  rintro e w5 ⟨rfl, c5⟩
  have g5 := g4.below c5
  have b5 := b4.trans (c5.mono b4.size)
  rw [HT.out]
  go_wp2_with fail
  refine (valid_any (cutS s) w5 aU aS g5).mono ?_
  rintro e w6 ⟨rfl, c6⟩
  have b6 := b5.trans (c6.mono b5.size)
  rw [HQ.out]
  go_wp2_with fail
  refine (refValid_any (cutS s) (by omega) w6).mono ?_
  rintro e w7 ⟨rfl, c7⟩
  have b7 := b6.trans (c7.mono b6.size)
  rw [HQ.out]
  go_wp2_with fail
  refine (ints_any _ HL.out _ _ w7 (ia.below (c3.trans ((c4.trans ((c5.trans ((c6.trans (c7.mono c6.size)).mono c5.size)).mono c4.size)).mono c3.size))) (ib.below (c4.trans ((c5.trans ((c6.trans (c7.mono c6.size)).mono c5.size)).mono c4.size)))).mono ?_
  rintro e w8 ⟨rfl, c8⟩
  have b8 := b7.trans (c8.mono b7.size)
  go_wp2
  go_ret
  exact ⟨rfl, b8⟩
set_option maxRecDepth 100000 in
set_option maxHeartbeats 2000000 in
theorem texts_false (s : ByteArray) (l v : Value) (xs : List Int) (hx : ∀ r ∈ xs, In64 r) (hlen : xs.length ≤ 100) (w : World) (hl : IsInts w v xs) (hf : ∀ W, Calls Tryd.prog 13 #[l] W fun e W' => e = .returned v ∧ W = W') (aU aS : Addr) (hG : Glob w aU aS) (HQ : Hid (validL (cutS s).data.toList = false)) :
    Calls Tryd.prog 3 #[.string s, l] w fun e w' => e = .returned (.bool true) ∧ Below w.heap.size w w' := by
  have hz : (cutS s).size ≤ 300 := cutS_size s
  have hll : (cutS s).data.toList.length = (cutS s).size := by simp
  have HL := Lib.hid (in64_scalars (cutS s).data.toList (by omega))
  obtain ⟨t, g, ht⟩ := textV_form xs
  have HT := Lib.hid ht
  clear hll ht
  go_enter Tryd.func3, Tryd.ntmps3
  go_wp2_with fail
  refine (shown_any w aU aS hG).mono ?_
  rintro e w1 ⟨rfl, b1⟩
  have g1 := hG.below b1
  go_wp2_with fail
  refine (cut_any s w1).mono ?_
  rintro e w2 ⟨rfl, rfl⟩
  go_wp2_with fail
  refine (hf w1).mono ?_
  rintro e w2 ⟨rfl, rfl⟩
  go_wp2_with fail
  refine (scalars_f_any (cutS s) (by omega) w1 aU aS g1).mono ?_
  rintro e w2 ⟨va, rfl, oa, c2⟩
  have g2 := g1.below c2
  have b2 := b1.trans (c2.mono b1.size)
  obtain ⟨ia, po, pc, rfl⟩ := ints_own oa
  clear oa
  rw [HQ.out]
  simp only [Bool.false_eq_true, if_false]
  go_wp2_with fail
  refine (refScalars_any (cutS s) (by omega) w2).mono ?_
  rintro e w3 ⟨vb, rfl, ob, c3⟩
  have g3 := g2.below c3
  have b3 := b2.trans (c3.mono b2.size)
  obtain ⟨ib, qo, qc, rfl⟩ := ints_own ob
  clear ob
  rw [HQ.out]
  simp only [Bool.false_eq_true, if_false]
  go_wp2_with fail
  refine (text_any xs hx (by omega) v w3 (hl.below b3) aU aS g3).mono ?_
  rintro e w4 ⟨rfl, c4⟩
  have g4 := g3.below c4
  have b4 := b3.trans (c4.mono b3.size)
  rw [HT.out]
  go_wp2_with fail
  refine (refText_any xs (by omega) v w4 (hl.below b4)).mono ?_
  rintro e w5 ⟨rfl, c5⟩
  have g5 := g4.below c5
  have b5 := b4.trans (c5.mono b4.size)
  rw [HT.out]
  go_wp2_with fail
  refine (valid_any (cutS s) w5 aU aS g5).mono ?_
  rintro e w6 ⟨rfl, c6⟩
  have b6 := b5.trans (c6.mono b5.size)
  rw [HQ.out]
  go_wp2_with fail
  refine (refValid_any (cutS s) (by omega) w6).mono ?_
  rintro e w7 ⟨rfl, c7⟩
  have b7 := b6.trans (c7.mono b6.size)
  rw [HQ.out]
  go_wp2_with fail
  refine (ints_any _ HL.out _ _ w7 (ia.below (c3.trans ((c4.trans ((c5.trans ((c6.trans (c7.mono c6.size)).mono c5.size)).mono c4.size)).mono c3.size))) (ib.below (c4.trans ((c5.trans ((c6.trans (c7.mono c6.size)).mono c5.size)).mono c4.size)))).mono ?_
  rintro e w8 ⟨rfl, c8⟩
  have b8 := b7.trans (c8.mono b7.size)
  go_wp2
  go_ret
  exact ⟨rfl, b8⟩
theorem texts_any (s : ByteArray) (l v : Value) (xs : List Int) (hx : ∀ r ∈ xs, In64 r) (hlen : xs.length ≤ 100) (w : World) (hl : IsInts w v xs) (hf : ∀ W, Calls Tryd.prog 13 #[l] W fun e W' => e = .returned v ∧ W = W') (aU aS : Addr) (hG : Glob w aU aS) :
    Calls Tryd.prog 3 #[.string s, l] w fun e w' => e = .returned (.bool true) ∧ Below w.heap.size w w' := by
  cases hq : validL (cutS s).data.toList with
  | true => exact texts_true s l v xs hx hlen w hl hf aU aS hG (Lib.hid hq)
  | false => exact texts_false s l v xs hx hlen w hl hf aU aS hG (Lib.hid hq)
end Go.Proofs.YtcdgmamlmapbcaaDoor
