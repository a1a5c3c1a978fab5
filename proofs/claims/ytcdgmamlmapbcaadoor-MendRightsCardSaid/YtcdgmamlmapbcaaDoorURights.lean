/- MendRights: the walk. -/
import Derived.Test.YtcdgmamlmapbcaaDoorBunUMet
namespace Go.Proofs.YtcdgmamlmapbcaaDoor
open Go.RowKit

set_option maxRecDepth 100000 in
set_option maxHeartbeats 2000000 in
theorem rights_yes (s : ByteArray) (w : World) (aU aS aP : Addr) (hG : Glob w aU aS) (hP : Place w aP) (HV : Hid (validL (cutS s).data.toList = true)) :
    Calls Tryd.prog 5 #[.string s] w fun e w' => e = .returned (.bool true) ∧ Below w.heap.size w w' := by
  have hz : (cutS s).size ≤ 300 := cutS_size s
  have HR := Lib.hid (repS_valid HV.out)
  have HB := Lib.hid ((bads_iff _).2 HV.out)
  go_enter Tryd.func5, Tryd.ntmps5
  go_wp2_with fail
  refine (shown2_any w aU aS aP hG hP).mono ?_
  rintro e w1 ⟨rfl, b1⟩
  have g1 := hG.below b1
  go_wp2_with fail
  refine (cut2_any s w1).mono ?_
  rintro e w2 ⟨rfl, rfl⟩
  go_wp2_with fail
  refine (repair_s (cutS s) (by omega) w1 aU aS g1).mono ?_
  rintro e w2 ⟨rfl, c2⟩
  have b2 := b1.trans (c2.mono b1.size)
  have g2 := hG.below b2
  rw [HR.out]
  go_wp2_with fail
  refine (valid_any (cutS s) w2 aU aS g2).mono ?_
  rintro e w3 ⟨rfl, c3⟩
  have b3 := b2.trans (c3.mono b2.size)
  have g3 := hG.below b3
  rw [HV.out]
  go_wp2_with fail
  refine (repair_s (cutS s) (by omega) w3 aU aS g3).mono ?_
  rintro e w4 ⟨rfl, c4⟩
  have b4 := b3.trans (c4.mono b3.size)
  have g4 := hG.below b4
  rw [HR.out]
  go_wp2_with fail
  refine (valid_any (cutS s) w4 aU aS g4).mono ?_
  rintro e w5 ⟨rfl, c5⟩
  have b5 := b4.trans (c5.mono b4.size)
  have g5 := hG.below b5
  rw [HV.out]
  go_wp2_with fail
  refine (bad_any (cutS s) (by omega) w5 aU aS g5).mono ?_
  rintro e w6 ⟨rfl, c6⟩
  have b6 := b5.trans (c6.mono b5.size)
  have g6 := hG.below b6
  rw [HB.out]
  go_wp2_with fail
  refine (valid_any (cutS s) w6 aU aS g6).mono ?_
  rintro e w7 ⟨rfl, c7⟩
  have b7 := b6.trans (c7.mono b6.size)
  have g7 := hG.below b7
  rw [HV.out]
  go_wp2_with fail
  refine (bad_any (cutS s) (by omega) w7 aU aS g7).mono ?_
  rintro e w8 ⟨rfl, c8⟩
  have b8 := b7.trans (c8.mono b7.size)
  rw [HB.out]
  go_wp2
  go_ret
  exact ⟨rfl, b8⟩
set_option maxRecDepth 100000 in
set_option maxHeartbeats 2000000 in
theorem rights_no (s : ByteArray) (w : World) (aU aS aP : Addr) (hG : Glob w aU aS) (hP : Place w aP) (HV : Hid (validL (cutS s).data.toList = false)) :
    Calls Tryd.prog 5 #[.string s] w fun e w' => e = .returned (.bool true) ∧ Below w.heap.size w w' := by
  have hz : (cutS s).size ≤ 300 := cutS_size s
  have hne := toList_ne (repS_bad HV.out)
  obtain ⟨bn, hbn⟩ : ∃ bn, badsL (cutS s).data.toList = bn := ⟨_, rfl⟩
  have hb0 : (((bn : Nat) : Int) == 0) = false := by
    rw [beq_eq_false_iff_ne]
    intro e
    have : bn = 0 := by omega
    rw [this] at hbn
    have := (bads_iff _).1 hbn
    rw [HV.out] at this
    cases this
  have HBN := Lib.hid hbn
  have HVT := Lib.hid (repS_is (cutS s))
  have hzt := repS_size (cutS s)
  have HRT := Lib.hid (repS_repS (cutS s))
  have HBT : Hid (badsL (repS (cutS s)).data.toList = 0) := Lib.hid ((bads_iff _).2 (repS_is (cutS s)))
  obtain ⟨T, hT⟩ : ∃ T, repS (cutS s) = T := ⟨_, rfl⟩
  have HT := Lib.hid hT
  rw [hT] at HVT hzt HRT HBT hne
  clear hT hbn
  go_enter Tryd.func5, Tryd.ntmps5
  go_wp2_with fail
  refine (shown2_any w aU aS aP hG hP).mono ?_
  rintro e w1 ⟨rfl, b1⟩
  have g1 := hG.below b1
  go_wp2_with fail
  refine (cut2_any s w1).mono ?_
  rintro e w2 ⟨rfl, rfl⟩
  go_wp2_with fail
  refine (repair_s (cutS s) (by omega) w1 aU aS g1).mono ?_
  rintro e w2 ⟨rfl, c2⟩
  have b2 := b1.trans (c2.mono b1.size)
  have g2 := hG.below b2
  rw [HT.out]
  go_wp2_with fail
  refine (valid_any T w2 aU aS g2).mono ?_
  rintro e w3 ⟨rfl, c3⟩
  have b3 := b2.trans (c3.mono b2.size)
  have g3 := hG.below b3
  rw [HVT.out]
  go_wp2_with fail
  refine (repair_s T (by omega) w3 aU aS g3).mono ?_
  rintro e w4 ⟨rfl, c4⟩
  have b4 := b3.trans (c4.mono b3.size)
  have g4 := hG.below b4
  rw [HRT.out]
  go_wp2_with fail
  refine (valid_any (cutS s) w4 aU aS g4).mono ?_
  rintro e w5 ⟨rfl, c5⟩
  have b5 := b4.trans (c5.mono b4.size)
  have g5 := hG.below b5
  rw [HV.out]
  go_wp2_with fail
  refine (bad_any (cutS s) (by omega) w5 aU aS g5).mono ?_
  rintro e w6 ⟨rfl, c6⟩
  have b6 := b5.trans (c6.mono b5.size)
  have g6 := hG.below b6
  rw [HBN.out]
  go_wp2_with fail
  refine (valid_any (cutS s) w6 aU aS g6).mono ?_
  rintro e w7 ⟨rfl, c7⟩
  have b7 := b6.trans (c7.mono b6.size)
  have g7 := hG.below b7
  rw [HV.out]
  go_wp2_with fail
  refine (bad_any T (by omega) w7 aU aS g7).mono ?_
  rintro e w8 ⟨rfl, c8⟩
  have b8 := b7.trans (c8.mono b7.size)
  rw [HBT.out]
  go_wp2
  go_ret
  exact ⟨rfl, b8⟩
theorem rights_any (s : ByteArray) (w : World) (aU aS aP : Addr) (hG : Glob w aU aS) (hP : Place w aP) :
    Calls Tryd.prog 5 #[.string s] w fun e w' => e = .returned (.bool true) ∧ Below w.heap.size w w' := by
  cases h : validL (cutS s).data.toList with
  | true => exact rights_yes s w aU aS aP hG hP (Lib.hid h)
  | false => exact rights_no s w aU aS aP hG hP (Lib.hid h)
end Go.Proofs.YtcdgmamlmapbcaaDoor
