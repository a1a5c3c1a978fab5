/- PackSums: two texts' sum. -/
import Derived.Test.YtcnbcaljpgdcpaaDoorBunA16
namespace Go.Proofs.YtcnbcaljpgdcpaaDoor
open Go.RowKit Go.Shelf Go.Maps
attribute [local go_sem] Oper.semAt_some

theorem sumA_append (a b : List UInt8) : sumA (a ++ b) = (sumA a + sumA b) % 65536 := by
  unfold sumA
  rw [List.map_append, List.sum_append]
  omega
theorem cut_size (s : ByteArray) : (s.extract 0 (min s.size 600)).size ≤ 600 := by
  rw [size_list, take_ext, List.length_take]
  omega
set_option maxRecDepth 100000 in
set_option maxHeartbeats 4000000 in
theorem sums_anyL (s t : ByteArray) (w : World) (hG : EGlob w) :
    Calls Tryd.prog 9 #[.string s, .string t] w fun e w' => e = .returned (.bool true) ∧ Below w.heap.size w w' := by
  have HS := Lib.hid (shownA_any w hG)
  obtain ⟨P, hP⟩ : ∃ P, (fun (e : Ending) w' => e = .returned (.bool true) ∧ Below w.heap.size w w') = P := ⟨_, rfl⟩
  have HP := Lib.hid hP
  rw [hP]
  have HC1 := Lib.hid (cut_any s)
  have HC2 := Lib.hid (cut_any t)
  have hs := cut_size s
  have ht := cut_size t
  obtain ⟨S, hS⟩ : ∃ S, s.extract 0 (min s.size 600) = S := ⟨_, rfl⟩
  obtain ⟨T, hT⟩ : ∃ S, t.extract 0 (min t.size 600) = S := ⟨_, rfl⟩
  rw [hS] at HC1 hs
  rw [hT] at HC2 ht
  have h1 := sum_any (S ++ T) (by rw [ByteArray.size_append]; omega)
  have h2 := sum_any S (by omega)
  have h3 := sum_any T (by omega)
  have h4 := sum_any (T ++ S) (by rw [ByteArray.size_append]; omega)
  have h5 := sum_any ⟨#[]⟩ (by decide)
  rw [ByteArray.data_append, Array.toList_append, sumA_append] at h1 h4
  obtain ⟨a, ha⟩ : ∃ a, sumA S.data.toList = a := ⟨_, rfl⟩
  obtain ⟨b, hb⟩ : ∃ a, sumA T.data.toList = a := ⟨_, rfl⟩
  rw [ha, hb] at h1 h4
  rw [ha] at h2
  rw [hb] at h3
  rw [show sumA (⟨#[]⟩ : ByteArray).data.toList = 0 from rfl] at h5
  have hal : a < 65536 := by rw [← ha]; exact sumA_lt _
  have hbl : b < 65536 := by rw [← hb]; exact sumA_lt _
  obtain ⟨c, hc⟩ : ∃ c, (a + b) % 65536 = c := ⟨_, rfl⟩
  rw [hc] at h1
  rw [Nat.add_comm b a, hc] at h4
  have hw : IntKind.i64.wrap (((a : Nat) : Int) + ((b : Nat) : Int)) = ((a + b : Nat) : Int) := by rw [show ((a : Nat) : Int) + ((b : Nat) : Int) = ((a + b : Nat) : Int) from by omega]; exact wrap_id (by omega) (by omega)
  have hm : (((a + b : Nat) : Int)).tmod 65536 = ((c : Nat) : Int) := by rw [Int.tmod_eq_emod_of_nonneg (by omega)]; omega
  have hm2 : (((a : Nat) : Int) + ((b : Nat) : Int)) % 65536 = ((c : Nat) : Int) := by omega
  have hcc : (((c : Nat) : Int) == ((c : Nat) : Int)) = true := by simp
  have H1 := Lib.hid h1
  have H2 := Lib.hid h2
  have H3 := Lib.hid h3
  have H4 := Lib.hid h4
  have H5 := Lib.hid h5
  clear hP hG hS hT ha hb hc h1 h2 h3 h4 h5
  go_enter Tryd.func9, Tryd.ntmps9
  go_wp2_with fail
  refine HS.out.mono ?_
  rintro e w1 ⟨rfl, b1⟩
  have HPP : Hid (P (.returned (.bool true)) w1) := by rw [← HP.out]; exact Lib.hid ⟨rfl, b1⟩
  clear b1 HS
  go_wp2_with fail
  refine (HC1.out w1).mono ?_
  rintro e w2 ⟨rfl, rfl⟩
  go_wp2_with fail
  refine (HC2.out w1).mono ?_
  rintro e w2 ⟨rfl, rfl⟩
  go_wp2_with fail
  refine (H1.out w1).mono ?_
  rintro e w2 ⟨rfl, rfl⟩
  go_wp2_with fail
  refine (H2.out w1).mono ?_
  rintro e w2 ⟨rfl, rfl⟩
  go_wp2_with fail
  refine (H3.out w1).mono ?_
  rintro e w2 ⟨rfl, rfl⟩
  go_wp2_with fail
  refine (H4.out w1).mono ?_
  rintro e w2 ⟨rfl, rfl⟩
  go_wp2_with fail
  refine (H5.out w1).mono ?_
  rintro e w2 ⟨rfl, rfl⟩
  go_wp2
  exact HPP.out
end Go.Proofs.YtcnbcaljpgdcpaaDoor
