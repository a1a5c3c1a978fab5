/- A greater scalar has greater bytes, and no fewer. -/
import Derived.Test.YtlfaahclcmljhaaDoorEnc
import Derived.Test.YtlfaahclcmljhaaDoorEncode
import Derived.Lib.Strings
namespace Go.Proofs.YtlfaahclcmljhaaDoor

/-- Which of two lists is less, number by number. -/
def lessN : List Nat → List Nat → Bool
  | _, [] => false
  | [], _ :: _ => true
  | a :: x, b :: y => decide (a < b) || (decide (a = b) && lessN x y)

theorem less_map : ∀ (x y : List Nat), (∀ b ∈ x, b < 256) → (∀ b ∈ y, b < 256) → Op.bytesLess (x.map UInt8.ofNat) (y.map UInt8.ofNat) = lessN x y
  | [], [], _, _ => rfl
  | _ :: _, [], _, _ => rfl
  | [], _ :: _, _, _ => rfl
  | a :: x, b :: y, hx, hy => by
    have ha := hx a (by simp)
    have hb := hy b (by simp)
    have ih := less_map x y (fun c hc => hx c (by simp [hc])) (fun c hc => hy c (by simp [hc]))
    simp only [List.map_cons, Op.bytesLess, lessN, ih]
    have e1 : (UInt8.ofNat a < UInt8.ofNat b) ↔ a < b := by
      rw [UInt8.lt_iff_toNat_lt, UInt8.toNat_ofNat_of_lt' (by simpa using ha), UInt8.toNat_ofNat_of_lt' (by simpa using hb)]
    have e2 : (UInt8.ofNat a = UInt8.ofNat b) ↔ a = b := by
      rw [← UInt8.toNat_inj, UInt8.toNat_ofNat_of_lt' (by simpa using ha), UInt8.toNat_ofNat_of_lt' (by simpa using hb)]
    rw [show (UInt8.ofNat a == UInt8.ofNat b) = decide (a = b) from by rw [Bool.eq_iff_iff]; simp only [beq_iff_eq, decide_eq_true_eq]; exact e2]
    rw [decide_eq_decide.2 e1]

theorem less_enc (a b : Nat) (ha : a < 1114112) (hb : b < 1114112) : lessN (encN a) (encN b) = decide (a < b) := by
  rw [Bool.eq_iff_iff]
  unfold encN
  repeat' split
  all_goals simp only [lessN, Bool.or_eq_true, Bool.and_eq_true, decide_eq_true_eq, Bool.false_eq_true, and_false, or_false]
  all_goals omega
theorem length_enc (a b : Nat) (h : a ≤ b) : (encN a).length ≤ (encN b).length := by
  unfold encN
  repeat' split
  all_goals simp only [List.length_cons, List.length_nil]
  all_goals omega
theorem size_strR (r : Int) : (strR r).size = (encN r.toNat).length := by simp [strR, ByteArray.size, encB]
theorem less_strR {a b : Int} (ha : rowR a < 9) (hb : rowR b < 9) : Op.bytesLess (strR a).toList (strR b).toList = decide (a < b) := by
  have la := scalar_lt ha
  have lb := scalar_lt hb
  rw [Lib.toList_data, Lib.toList_data]
  show Op.bytesLess ((encN a.toNat).map UInt8.ofNat) ((encN b.toNat).map UInt8.ofNat) = _
  rw [less_map _ _ (encN_lt (by omega)) (encN_lt (by omega)), less_enc _ _ (by omega) (by omega)]
  exact decide_eq_decide.2 (by omega)
theorem sizes_strR {a b : Int} (h : ¬ b < a) : (strR a).size ≤ (strR b).size := by
  rw [size_strR, size_strR]
  exact length_enc _ _ (by omega)
end Go.Proofs.YtlfaahclcmljhaaDoor
