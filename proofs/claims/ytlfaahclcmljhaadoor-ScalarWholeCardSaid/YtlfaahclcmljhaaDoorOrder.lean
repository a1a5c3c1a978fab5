/- ScalarOrder. -/
import Derived.Test.YtlfaahclcmljhaaDoorShown
import Derived.Test.YtlfaahclcmljhaaDoorLess
namespace Go.Proofs.YtlfaahclcmljhaaDoor
open Go.RowKit

theorem encV_yes {r : Int} (h : rowR r < 9) : encV r = .tuple #[.string (strR r), .int .i64 0] := by unfold encV; rw [if_pos h]
theorem encV_no {r : Int} (h : ¬ rowR r < 9) : encV r = .tuple #[.string ⟨#[]⟩, .int .i64 10] := by unfold encV; rw [if_neg h]

set_option maxRecDepth 100000 in
set_option maxHeartbeats 1000000 in
theorem order_any (a b : Int) (ha : In64 a) (hb : In64 b) (w : World) (aU aS : Addr) (hG : Glob w aU aS) :
    Calls Tryd.prog 8 #[.int .i64 a, .int .i64 b] w fun e w' => e = .returned (.bool true) ∧ Below w.heap.size w w' := by
  by_cases h1 : rowR a < 9
  · by_cases h2 : rowR b < 9
    · have E1 := Lib.hid (encV_yes h1)
      have E2 := Lib.hid (encV_yes h2)
      have F1 := less_strR h1 h2
      have F2 : decide ((1 : Int) ≤ (((strR a).size : Nat) : Int)) = true := by have := encN_length a.toNat; rw [size_strR]; simp only [decide_eq_true_eq]; omega
      have F3 : decide ((((strR a).size : Nat) : Int) ≤ 4) = true := by have := encN_length a.toNat; rw [size_strR]; simp only [decide_eq_true_eq]; omega
      by_cases hba : b < a
      · have F4 : decide (b < a) = true := by simp only [decide_eq_true_eq]; exact hba
        have F5 : decide (a < b) = false := by simp only [decide_eq_false_iff_not]; omega
        rw [F5] at F1
        clear h1 h2 hba
        go_enter Tryd.func8, Tryd.ntmps8
        go_wp2_with fail
        refine (shown_any w aU aS hG).mono ?_
        rintro e w1 ⟨rfl, b1⟩
        have g1 := hG.below b1
        go_wp2_with fail
        refine (encode_any a ha w1 aU aS g1).mono ?_
        rintro e w2 ⟨rfl, b2⟩
        have g2 := g1.below b2
        have b12 := b1.trans (b2.mono b1.size)
        rw [E1.out]
        go_wp2_with fail
        refine (encode_any b hb w2 aU aS g2).mono ?_
        rintro e w3 ⟨rfl, b3⟩
        have b13 := b12.trans (b3.mono b12.size)
        rw [E2.out]
        go_wp2
        go_ret
        exact ⟨rfl, b13⟩
      · have F4 : decide (b < a) = false := by simp only [decide_eq_false_iff_not]; exact hba
        have F6 : decide ((strR a).size ≤ (strR b).size) = true := decide_eq_true (sizes_strR hba)
        rcases Int.lt_or_le a b with hab | hab
        · have F5 : decide (a < b) = true := by simp only [decide_eq_true_eq]; exact hab
          rw [F5] at F1
          clear h1 h2 hba hab
          go_enter Tryd.func8, Tryd.ntmps8
          go_wp2_with fail
          refine (shown_any w aU aS hG).mono ?_
          rintro e w1 ⟨rfl, b1⟩
          have g1 := hG.below b1
          go_wp2_with fail
          refine (encode_any a ha w1 aU aS g1).mono ?_
          rintro e w2 ⟨rfl, b2⟩
          have g2 := g1.below b2
          have b12 := b1.trans (b2.mono b1.size)
          rw [E1.out]
          go_wp2_with fail
          refine (encode_any b hb w2 aU aS g2).mono ?_
          rintro e w3 ⟨rfl, b3⟩
          have b13 := b12.trans (b3.mono b12.size)
          rw [E2.out]
          go_wp2
          go_ret
          exact ⟨rfl, b13⟩
        · have F5 : decide (a < b) = false := by simp only [decide_eq_false_iff_not]; omega
          rw [F5] at F1
          clear h1 h2 hba hab
          go_enter Tryd.func8, Tryd.ntmps8
          go_wp2_with fail
          refine (shown_any w aU aS hG).mono ?_
          rintro e w1 ⟨rfl, b1⟩
          have g1 := hG.below b1
          go_wp2_with fail
          refine (encode_any a ha w1 aU aS g1).mono ?_
          rintro e w2 ⟨rfl, b2⟩
          have g2 := g1.below b2
          have b12 := b1.trans (b2.mono b1.size)
          rw [E1.out]
          go_wp2_with fail
          refine (encode_any b hb w2 aU aS g2).mono ?_
          rintro e w3 ⟨rfl, b3⟩
          have b13 := b12.trans (b3.mono b12.size)
          rw [E2.out]
          go_wp2
          go_ret
          exact ⟨rfl, b13⟩
    · have E1 := Lib.hid (encV_yes h1)
      have E2 := Lib.hid (encV_no h2)
      clear h1 h2
      go_enter Tryd.func8, Tryd.ntmps8
      go_wp2_with fail
      refine (shown_any w aU aS hG).mono ?_
      rintro e w1 ⟨rfl, b1⟩
      have g1 := hG.below b1
      go_wp2_with fail
      refine (encode_any a ha w1 aU aS g1).mono ?_
      rintro e w2 ⟨rfl, b2⟩
      have g2 := g1.below b2
      have b12 := b1.trans (b2.mono b1.size)
      rw [E1.out]
      go_wp2_with fail
      refine (encode_any b hb w2 aU aS g2).mono ?_
      rintro e w3 ⟨rfl, b3⟩
      have b13 := b12.trans (b3.mono b12.size)
      rw [E2.out]
      go_wp2
      go_ret
      exact ⟨rfl, b13⟩
  · by_cases h2 : rowR b < 9
    · have E1 := Lib.hid (encV_no h1)
      have E2 := Lib.hid (encV_yes h2)
      clear h1 h2
      go_enter Tryd.func8, Tryd.ntmps8
      go_wp2_with fail
      refine (shown_any w aU aS hG).mono ?_
      rintro e w1 ⟨rfl, b1⟩
      have g1 := hG.below b1
      go_wp2_with fail
      refine (encode_any a ha w1 aU aS g1).mono ?_
      rintro e w2 ⟨rfl, b2⟩
      have g2 := g1.below b2
      have b12 := b1.trans (b2.mono b1.size)
      rw [E1.out]
      go_wp2_with fail
      refine (encode_any b hb w2 aU aS g2).mono ?_
      rintro e w3 ⟨rfl, b3⟩
      have b13 := b12.trans (b3.mono b12.size)
      rw [E2.out]
      go_wp2
      go_ret
      exact ⟨rfl, b13⟩
    · have E1 := Lib.hid (encV_no h1)
      have E2 := Lib.hid (encV_no h2)
      clear h1 h2
      go_enter Tryd.func8, Tryd.ntmps8
      go_wp2_with fail
      refine (shown_any w aU aS hG).mono ?_
      rintro e w1 ⟨rfl, b1⟩
      have g1 := hG.below b1
      go_wp2_with fail
      refine (encode_any a ha w1 aU aS g1).mono ?_
      rintro e w2 ⟨rfl, b2⟩
      have g2 := g1.below b2
      have b12 := b1.trans (b2.mono b1.size)
      rw [E1.out]
      go_wp2_with fail
      refine (encode_any b hb w2 aU aS g2).mono ?_
      rintro e w3 ⟨rfl, b3⟩
      have b13 := b12.trans (b3.mono b12.size)
      rw [E2.out]
      go_wp2
      go_ret
      exact ⟨rfl, b13⟩
end Go.Proofs.YtlfaahclcmljhaaDoor
