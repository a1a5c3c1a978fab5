/- The document's own answers: Right, Encode. -/
import Derived.Test.YtcdgmamlmapbcaaDoorEncode
import Derived.Test.YtcdgmamlmapbcaaDoorTrip
namespace Go.Proofs.YtcdgmamlmapbcaaDoor
open Go.RowKit

theorem encV_some {r : Int} (h : rowR r < 9) : encV r = .tuple #[.string (strR r), .int .i64 0] := by unfold encV; rw [if_pos h]
theorem encV_none {r : Int} (h : ¬ rowR r < 9) : encV r = .tuple #[.string ⟨#[]⟩, .int .i64 10] := by unfold encV; rw [if_neg h]

theorem refRight_of (r : Int) (p q u v : Bool) (hp : decide (0 ≤ r) = p) (hq : decide (r ≤ 1114111) = q) (hu : decide (r < 55296) = u) (hv : decide (57343 < r) = v) (w : World) :
    Calls Tryd.prog 62 #[.int .i64 r] w fun e w' => e = .returned (.bool (p && q && (u || v))) ∧ w = w' := by
  cases p <;> cases q <;> cases u <;> cases v <;>
  · go_enter Tryd.func62, Tryd.ntmps62
    go_wp2
    go_ret
    exact ⟨rfl, rfl⟩
theorem refRight_any (r : Int) (w : World) :
    Calls Tryd.prog 62 #[.int .i64 r] w fun e w' => e = .returned (.bool (decide (rowR r < 9))) ∧ w = w' := by
  have h := refRight_of r _ _ _ _ rfl rfl rfl rfl w
  have e : (decide (0 ≤ r) && decide (r ≤ 1114111) && (decide (r < 55296) || decide (57343 < r))) = decide (rowR r < 9) := by
    rw [Bool.eq_iff_iff]
    simp only [Bool.and_eq_true, Bool.or_eq_true, decide_eq_true_eq]
    have := rowR_cases r
    omega
  rwa [e] at h

theorem string_new (w : World) (t : TypeId) (cs : Array Value) (l : List UInt8) (hcs : cs = (l.map fun b => (.int .u8 (b.toNat : Nat) : Value)).toArray) (n cap : Nat) (hn : n = l.length) :
    (convert 54 9 (.slice (some ⟨w.heap.size, 0, none⟩) n cap)).run Tryd.prog (w.alloc (.cells cs t)) = .ok (.string ⟨l.toArray⟩) (w.alloc (.cells cs t)) := by
  subst hn hcs
  refine run_convert_bytes_back _ 54 9 5 ⟨w.heap.size, 0, none⟩ cap l Tryd.underlying54 Tryd.underlying5 Tryd.underlying9 (fun j hj => ?_)
  have hadd : (⟨w.heap.size, 0, none⟩ : Addr).add j = ⟨w.heap.size, j, none⟩ := by unfold Addr.add; split <;> simp_all
  rw [hadd, cell_of_row _ _ j _ _ _ (heap_alloc_new w _)]
  simp [List.getElem?_eq_getElem hj]

theorem refEncode_no (r : Int) (h9 : ¬ rowR r < 9) (w : World) :
    Calls Tryd.prog 43 #[.int .i64 r] w fun e w' => e = .returned (encV r) ∧ Below w.heap.size w w' := by
  have hR := decide_eq_false h9
  have HV := Lib.hid (encV_none h9)
  clear h9
  rw [HV.out]
  go_enter Tryd.func43, Tryd.ntmps43
  go_wp2_with fail
  refine (refRight_any r w).mono ?_
  rintro e w1 ⟨rfl, rfl⟩
  rw [hR]
  go_wp2
  go_ret2
  exact ⟨rfl, Below.refl _ _⟩
set_option maxRecDepth 100000 in
set_option maxHeartbeats 1000000 in
theorem refEncode1 (r : Nat) (h9 : rowR r < 9) (h : 0 ≤ r) (h' : r < 128) (w : World) :
    Calls Tryd.prog 43 #[.int .i64 (r : Nat)] w fun e w' => e = .returned (.tuple #[.string (strR r), .int .i64 0]) ∧ Below w.heap.size w w' := by
  have hR := decide_eq_true h9
  have d1 : decide (((r : Nat) : Int) < 128) = true := by simp only [decide_eq_true_eq]; omega
  have hcv := string_new w 5 #[.int .u8 (r : Nat)] (encB r) (by rw [← encC_eq (by omega), encC, enc1 h']; simp) 1 1 (by rw [encB, enc1 h']; rfl)
  have hst : strR (r : Nat) = ⟨(encB r).toArray⟩ := rfl
  rw [← hst] at hcv
  clear h9 hst
  go_enter Tryd.func43, Tryd.ntmps43
  go_wp2_with fail
  refine (refRight_any r w).mono ?_
  rintro e w1 ⟨rfl, rfl⟩
  rw [hR]
  go_wp2
  go_ret2
  exact ⟨rfl, (Below.refl _ _).alloc (Nat.le_refl _) _⟩
set_option maxRecDepth 100000 in
set_option maxHeartbeats 1000000 in
theorem refEncode2 (r : Nat) (h9 : rowR r < 9) (h : 128 ≤ r) (h' : r < 2048) (w : World) :
    Calls Tryd.prog 43 #[.int .i64 (r : Nat)] w fun e w' => e = .returned (.tuple #[.string (strR r), .int .i64 0]) ∧ Below w.heap.size w w' := by
  have hR := decide_eq_true h9
  have d1 : decide (((r : Nat) : Int) < 128) = false := by simp only [decide_eq_false_iff_not]; omega
  have d2 : decide (((r : Nat) : Int) < 2048) = true := by simp only [decide_eq_true_eq]; omega
  have hcv := string_new w 5 #[.int .u8 (192 + (r : Nat) / 64), .int .u8 (128 + (r : Nat) % 64)] (encB r) (by rw [← encC_eq (by omega), encC, enc2 h h']; simp) 2 2 (by rw [encB, enc2 h h']; rfl)
  have hst : strR (r : Nat) = ⟨(encB r).toArray⟩ := rfl
  rw [← hst] at hcv
  clear h9 hst
  go_enter Tryd.func43, Tryd.ntmps43
  go_wp2_with fail
  refine (refRight_any r w).mono ?_
  rintro e w1 ⟨rfl, rfl⟩
  rw [hR]
  go_wp2
  go_ret2
  exact ⟨rfl, (Below.refl _ _).alloc (Nat.le_refl _) _⟩
set_option maxRecDepth 100000 in
set_option maxHeartbeats 1000000 in
theorem refEncode3 (r : Nat) (h9 : rowR r < 9) (h : 2048 ≤ r) (h' : r < 65536) (w : World) :
    Calls Tryd.prog 43 #[.int .i64 (r : Nat)] w fun e w' => e = .returned (.tuple #[.string (strR r), .int .i64 0]) ∧ Below w.heap.size w w' := by
  have hR := decide_eq_true h9
  have d1 : decide (((r : Nat) : Int) < 128) = false := by simp only [decide_eq_false_iff_not]; omega
  have d2 : decide (((r : Nat) : Int) < 2048) = false := by simp only [decide_eq_false_iff_not]; omega
  have d3 : decide (((r : Nat) : Int) < 65536) = true := by simp only [decide_eq_true_eq]; omega
  have hcv := string_new w 5 #[.int .u8 (224 + (r : Nat) / 4096), .int .u8 (128 + (r : Nat) / 64 % 64), .int .u8 (128 + (r : Nat) % 64)] (encB r) (by rw [← encC_eq (by omega), encC, enc3 h h']; simp) 3 3 (by rw [encB, enc3 h h']; rfl)
  have hst : strR (r : Nat) = ⟨(encB r).toArray⟩ := rfl
  rw [← hst] at hcv
  clear h9 hst
  go_enter Tryd.func43, Tryd.ntmps43
  go_wp2_with fail
  refine (refRight_any r w).mono ?_
  rintro e w1 ⟨rfl, rfl⟩
  rw [hR]
  go_wp2
  go_ret2
  exact ⟨rfl, (Below.refl _ _).alloc (Nat.le_refl _) _⟩
set_option maxRecDepth 100000 in
set_option maxHeartbeats 1000000 in
theorem refEncode4 (r : Nat) (h9 : rowR r < 9) (h : 65536 ≤ r) (h' : r < 1114112) (w : World) :
    Calls Tryd.prog 43 #[.int .i64 (r : Nat)] w fun e w' => e = .returned (.tuple #[.string (strR r), .int .i64 0]) ∧ Below w.heap.size w w' := by
  have hR := decide_eq_true h9
  have d1 : decide (((r : Nat) : Int) < 128) = false := by simp only [decide_eq_false_iff_not]; omega
  have d2 : decide (((r : Nat) : Int) < 2048) = false := by simp only [decide_eq_false_iff_not]; omega
  have d3 : decide (((r : Nat) : Int) < 65536) = false := by simp only [decide_eq_false_iff_not]; omega
  have hcv := string_new w 5 #[.int .u8 (240 + (r : Nat) / 262144), .int .u8 (128 + (r : Nat) / 4096 % 64), .int .u8 (128 + (r : Nat) / 64 % 64), .int .u8 (128 + (r : Nat) % 64)] (encB r) (by rw [← encC_eq (by omega), encC, enc4 h]; simp) 4 4 (by rw [encB, enc4 h]; rfl)
  have hst : strR (r : Nat) = ⟨(encB r).toArray⟩ := rfl
  rw [← hst] at hcv
  clear h9 hst
  go_enter Tryd.func43, Tryd.ntmps43
  go_wp2_with fail
  refine (refRight_any r w).mono ?_
  rintro e w1 ⟨rfl, rfl⟩
  rw [hR]
  go_wp2
  go_ret2
  exact ⟨rfl, (Below.refl _ _).alloc (Nat.le_refl _) _⟩
theorem refEncode_any (r : Int) (w : World) :
    Calls Tryd.prog 43 #[.int .i64 r] w fun e w' => e = .returned (encV r) ∧ Below w.heap.size w w' := by
  by_cases h9 : rowR r < 9
  · rw [encV_some h9]
    have hl := scalar_lt h9
    obtain ⟨n, rfl⟩ := Int.eq_ofNat_of_zero_le hl.1
    by_cases h1 : n < 128
    · exact refEncode1 n h9 (by omega) h1 w
    · by_cases h2 : n < 2048
      · exact refEncode2 n h9 (by omega) h2 w
      · by_cases h3 : n < 65536
        · exact refEncode3 n h9 (by omega) h3 w
        · exact refEncode4 n h9 (by omega) (by omega) w
  · exact refEncode_no r h9 w
end Go.Proofs.YtcdgmamlmapbcaaDoor
