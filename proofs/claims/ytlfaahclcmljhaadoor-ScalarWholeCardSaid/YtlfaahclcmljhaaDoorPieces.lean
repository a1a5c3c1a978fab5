/- ScalarPieces. -/
import Derived.Test.YtlfaahclcmljhaaDoorOrder
import Derived.Test.YtlfaahclcmljhaaDoorWell
import Derived.Deep.LoopGhost
namespace Go.Proofs.YtlfaahclcmljhaaDoor
open Go.RowKit

theorem strR_list (r : Int) : (strR r).data.toList = encB r.toNat := rfl
theorem strR_size (r : Int) : (strR r).size = (encB r.toNat).length := by simp [strR, ByteArray.size]
theorem rowR_toNat {r : Int} (h : rowR r < 9) : rowR ((r.toNat : Nat) : Int) < 9 := by have := scalar_lt h; rwa [Int.toNat_of_nonneg this.1]
theorem piece_take {r : Int} (h : rowR r < 9) {i : Nat} (h0 : 0 < i) (hi : i < (strR r).size) : validL ((strR r).extract 0 i).data.toList = false := by
  rw [Lib.extract_data, strR_list]
  rw [strR_size] at hi
  simpa using validL_take (rowR_toNat h) h0 hi
theorem piece_drop {r : Int} (h : rowR r < 9) {i : Nat} (h0 : 0 < i) (hi : i < (strR r).size) : validL ((strR r).extract i (strR r).size).data.toList = false := by
  rw [drop_toList, strR_list]
  rw [strR_size] at hi
  exact validL_drop (rowR_toNat h) h0 hi
theorem strR_ne {r : Int} : (strR r).toList.isEmpty = false := by
  rw [Lib.toList_data, strR_list]
  have := encB_length r.toNat
  cases h : encB r.toNat with
  | nil => rw [h] at this; simp at this
  | cons b t => rfl

set_option maxRecDepth 100000 in
set_option maxHeartbeats 1000000 in
theorem pieces_any (a : Int) (ha : In64 a) (w : World) (aU aS : Addr) (hG : Glob w aU aS) :
    Calls Tryd.prog 10 #[.int .i64 a] w fun e w' => e = .returned (.bool true) ∧ Below w.heap.size w w' := by
  by_cases h1 : rowR a < 9
  · have E1 := Lib.hid (encV_yes h1)
    have P1 := Lib.hid (fun i (h0 : 0 < i) hi => piece_take h1 (i := i) h0 hi)
    have P2 := Lib.hid (fun i (h0 : 0 < i) hi => piece_drop h1 (i := i) h0 hi)
    have N1 := strR_ne (r := a)
    have hsz : 1 ≤ (strR a).size ∧ (strR a).size ≤ 4 := by rw [strR_size]; exact encB_length _
    clear h1
    go_enter Tryd.func10, Tryd.ntmps10
    go_wp2_with fail
    refine (shown_any w aU aS hG).mono ?_
    rintro e w1 ⟨rfl, b1⟩
    have g1 := hG.below b1
    go_wp2_with fail
    refine (encode_any a ha w1 aU aS g1).mono ?_
    rintro e w2 ⟨rfl, b2⟩
    have g2 := g1.below b2
    have b12 := b1.trans (b2.mono b1.size)
    rw [E1.out]
    go_wp2_with fail
    go_loopg [6] ((strR a).size - 1) (fun k v wr => ∃ i : Nat, v = .int .i64 (i : Nat) ∧ 1 ≤ i ∧ i ≤ (strR a).size ∧ k = (strR a).size - i ∧ Below w.heap.size w wr ∧ Glob wr aU aS)
    case atStart => exact ⟨1, rfl, Nat.le_refl _, hsz.1, rfl, b12, g2⟩
    case round =>
      obtain ⟨i, rfl, hi1, hi2, rfl, hb, hg⟩ := hrel
      rcases Nat.lt_or_ge i (strR a).size with hlt | hge
      · have e0 : decide (((i : Nat) : Int) < (((strR a).size : Nat) : Int)) = true := by simp only [decide_eq_true_eq]; omega
        have e1 := P1.out i hi1 hlt
        have e2 := P2.out i hi1 hlt
        have hle : i ≤ (strR a).size := hi2
        go_wp2_with fail
        refine (valid_any _ wr aU aS hg).mono ?_
        rintro e w3 ⟨rfl, b3⟩
        have g3 := hg.below b3
        have b13 := hb.trans (b3.mono hb.size)
        rw [e1]
        go_wp2_with fail
        refine (valid_any _ w3 aU aS g3).mono ?_
        rintro e w4 ⟨rfl, b4⟩
        have g4 := g3.below b4
        have b14 := b13.trans (b4.mono b13.size)
        rw [e2]
        go_wp2
        go_roundg ((strR a).size - (i + 1))
        case measure => omega
        case rel => exact ⟨i + 1, by simp, by omega, by omega, rfl, b14, g4⟩
      · have e0 : decide (((i : Nat) : Int) < (((strR a).size : Nat) : Int)) = false := by simp only [decide_eq_false_iff_not]; omega
        go_wp2
        go_ret
        exact ⟨rfl, hb⟩
  · have E1 := Lib.hid (encV_no h1)
    clear h1
    go_enter Tryd.func10, Tryd.ntmps10
    go_wp2_with fail
    refine (shown_any w aU aS hG).mono ?_
    rintro e w1 ⟨rfl, b1⟩
    have g1 := hG.below b1
    go_wp2_with fail
    refine (encode_any a ha w1 aU aS g1).mono ?_
    rintro e w2 ⟨rfl, b2⟩
    have b12 := b1.trans (b2.mono b1.size)
    rw [E1.out]
    go_wp2_with fail
    refine wp_loop_rounds 1 ?_
    rw [rounds_succ]
    go_wp2
    go_ret
    exact ⟨rfl, b12⟩
end Go.Proofs.YtlfaahclcmljhaaDoor
