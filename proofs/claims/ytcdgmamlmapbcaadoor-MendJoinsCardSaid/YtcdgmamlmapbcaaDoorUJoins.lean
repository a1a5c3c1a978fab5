/- MendJoins: behind a well-formed text a text is mended as it is alone. -/
import Derived.Test.YtcdgmamlmapbcaaDoorBunUMet
namespace Go.Proofs.YtcdgmamlmapbcaaDoor
open Go.RowKit

theorem placesN_length (l : List UInt8) : (placesL l).length = (uevs 0 l).length + 1 := by unfold placesL; simp
theorem joins_places (s t : List UInt8) (h : validL s = true) : (placesL (s ++ t)).length = (uevs 0 s).length + (placesL t).length ∧ (placesL (s ++ t)).getD (uevs 0 s).length 0 = s.length := by
  have he := uevs_append t 0 s h
  rw [Nat.zero_add] at he
  constructor
  · rw [placesN_length, placesN_length, he, List.length_append, uevs_zero s.length, List.length_map]
    omega
  · unfold placesL
    rw [he, List.map_append, List.append_assoc]
    simp only [List.getD]
    rw [List.getElem?_append_right (by simp), List.length_map, Nat.sub_self]
    by_cases h0 : t = []
    · subst h0; rw [uevs_nil]; simp
    · rw [uevs_cons _ h0]; simp
theorem join_rep (S T : ByteArray) (h : validL S.data.toList = true) : repS (S ++ T) = S ++ repS T := bytes_of (by rw [repS_list, append_list, append_list, repS_list, rep_append _ _ h])

set_option maxRecDepth 100000 in
set_option maxHeartbeats 2000000 in
theorem mjoins_any (s t : ByteArray) (w : World) (aU aS aP : Addr) (hG : Glob w aU aS) (hP : Place w aP) :
    Calls Tryd.prog 9 #[.string s, .string t] w fun e w' => e = .returned (.bool true) ∧ Below w.heap.size w w' := by
  have hz : (cutS s).size ≤ 300 := cutS_size s
  have hzt : (cutS t).size ≤ 300 := cutS_size t
  obtain ⟨T, hT⟩ : ∃ T, cutS t = T := ⟨_, rfl⟩
  have HT := Lib.hid hT
  rw [hT] at hzt
  have hzS := repS_size (cutS s)
  have hvS := repS_is (cutS s)
  obtain ⟨S, hS⟩ : ∃ S, repS (cutS s) = S := ⟨_, rfl⟩
  have HS := Lib.hid hS
  rw [hS] at hzS hvS
  have hzR := repS_size T
  have hjr := join_rep S T hvS
  have hjb := bads_append S.data.toList T.data.toList hvS
  obtain ⟨hj1, hj2⟩ := joins_places S.data.toList T.data.toList hvS
  have hlS : S.data.toList.length = S.size := Array.length_toList
  have hpS := placesN_length S.data.toList
  have hpT := placesN_length T.data.toList
  obtain ⟨R, hR⟩ : ∃ R, repS T = R := ⟨_, rfl⟩
  have HR := Lib.hid hR
  rw [hR] at hzR hjr
  obtain ⟨n, hn⟩ : ∃ n, (uevs 0 S.data.toList).length = n := ⟨_, rfl⟩
  obtain ⟨m, hm⟩ : ∃ m, (placesL T.data.toList).length = m := ⟨_, rfl⟩
  have hnn := uevs_length 0 S.data.toList
  rw [hn] at hj1 hj2 hpS hnn
  rw [hm] at hpT hj1
  have hm0 : 0 < m := by omega
  have hm1 : m ≤ 301 := by have := uevs_length 0 T.data.toList; have h2 : T.data.toList.length = T.size := Array.length_toList; omega
  rw [hlS] at hj2 hnn
  have HJR := Lib.hid hjr
  have hjb' : badsL (S ++ T).data.toList = badsL T.data.toList := by rw [append_list]; exact hjb
  have HJB := Lib.hid hjb'
  have hj1' : (placesL (S ++ T).data.toList).length = n + m := by rw [append_list]; exact hj1
  have HJ1 := Lib.hid hj1'
  have hj2' : (placesL (S ++ T).data.toList).getD n 0 = S.size := by rw [append_list]; exact hj2
  have HJ2 := Lib.hid hj2'
  have HPS := Lib.hid hpS
  have HPT := Lib.hid hm
  have hroom : S.size + T.size ≤ 1500 := by omega
  have hroomR : S.size + R.size ≤ 2400 := by omega
  have hcz : (S ++ T).size ≤ 1500 := by rw [ByteArray.size_append]; omega
  have HCZ := Lib.hid hcz
  clear hT hS hR hn hm hjr hjb hjb' hj1 hj1' hj2 hj2' hpS hpT hlS hvS hcz
  go_enter Tryd.func9, Tryd.ntmps9
  go_wp2_with fail
  refine (shown2_any w aU aS aP hG hP).mono ?_
  rintro e w1 ⟨rfl, b1⟩
  have g1 := hG.below b1
  go_wp2_with fail
  refine (cut2_any s w1).mono ?_
  rintro e w2 ⟨rfl, rfl⟩
  go_wp2_with fail
  refine (repair_s (cutS s) (by omega) w1 aU aS g1).mono ?_
  rintro e w2 ⟨rfl, c2⟩
  have b2 := b1.trans (c2.mono b1.size)
  have g2 := hG.below b2
  rw [HS.out]
  go_wp2_with fail
  refine (cut2_any t w2).mono ?_
  rintro e w3 ⟨rfl, rfl⟩
  rw [HT.out]
  go_wp2_with fail
  refine (units_list (S ++ T) (by have := HCZ.out; omega) w2 aU aS g2).mono ?_
  rintro e w3 ⟨a, rfl, ha, c3⟩
  have b3 := b2.trans (c3.mono b2.size)
  have g3 := hG.below b3
  have hcn := ha n (by rw [HJ1.out]; omega)
  rw [HJ2.out] at hcn
  rw [HJ1.out]
  have HCN := Lib.hid hcn
  clear ha hcn
  go_wp2_with fail
  refine (units_list S (by omega) w3 aU aS g3).mono ?_
  rintro e w4 ⟨a4, rfl, _, c4⟩
  have b4 := b3.trans (c4.mono b3.size)
  have g4 := hG.below b4
  rw [HPS.out]
  go_wp2_with fail
  refine (repair_s (S ++ T) (by have := HCZ.out; omega) w4 aU aS g4).mono ?_
  rintro e w5 ⟨rfl, c5⟩
  have b5 := b4.trans (c5.mono b4.size)
  have g5 := hG.below b5
  rw [HJR.out]
  go_wp2_with fail
  refine (repair_s T (by omega) w5 aU aS g5).mono ?_
  rintro e w6 ⟨rfl, c6⟩
  have b6 := b5.trans (c6.mono b5.size)
  have g6 := hG.below b6
  rw [HR.out]
  go_wp2_with fail
  refine (bad_any (S ++ T) (by have := HCZ.out; omega) w6 aU aS g6).mono ?_
  rintro e w7 ⟨rfl, c7⟩
  have b7 := b6.trans (c7.mono b6.size)
  have g7 := hG.below b7
  rw [HJB.out]
  go_wp2_with fail
  refine (bad_any T (by omega) w7 aU aS g7).mono ?_
  rintro e w8 ⟨rfl, c8⟩
  have b8 := b7.trans (c8.mono b7.size)
  have g8 := hG.below b8
  go_wp2_with fail
  refine (units_list T (by omega) w8 aU aS g8).mono ?_
  rintro e w9 ⟨a9, rfl, _, c9⟩
  have b9 := b8.trans (c9.mono b8.size)
  rw [HPT.out]
  have c39 : Below w3.heap.size w3 w9 := c4.trans ((c5.trans ((c6.trans ((c7.trans ((c8.trans (c9.mono c8.size)).mono c7.size)).mono c6.size)).mono c5.size)).mono c4.size)
  have hcn9 := (c39.cell (World.block_lt_of_cell? w3 _ HCN.out)).trans HCN.out
  go_wp2
  go_ret
  exact ⟨rfl, b9⟩
end Go.Proofs.YtcdgmamlmapbcaaDoor
