/- ScalarFirst. -/
import Derived.Test.YtlfaahclcmljhaaDoorCut
import Derived.Test.YtlfaahclcmljhaaDoorJoins
import Derived.Deep.RegionWith
namespace Go.Proofs.YtlfaahclcmljhaaDoor
open Go.RowKit

theorem head_list {s : ByteArray} {r n : Nat} (h : decL s.data.toList = some (r, n)) : (s.extract 0 n).data.toList = encB r := by
  rw [Lib.extract_data]
  simpa using (decL_some h).2.1
theorem first_more {s : ByteArray} {r n : Nat} (h : decL s.data.toList = some (r, n)) (t : ByteArray) : decV (s.extract 0 n ++ t).data.toList = .tuple #[.int .i64 (r : Nat), .int .i64 (n : Nat), .bool true] := by
  obtain ⟨h9, _, hn⟩ := decL_some h
  rw [append_list, head_list h]
  have := decL_enc h9 t.data.toList
  rw [← hn] at this
  exact decV_some this
theorem first_alone {s : ByteArray} {r n : Nat} (h : decL s.data.toList = some (r, n)) : decV (s.extract 0 n).data.toList = .tuple #[.int .i64 (r : Nat), .int .i64 (n : Nat), .bool true] := by
  obtain ⟨h9, _, hn⟩ := decL_some h
  rw [head_list h]
  have := decL_enc h9 []
  rw [← hn, List.append_nil] at this
  exact decV_some this

set_option maxRecDepth 100000 in
set_option maxHeartbeats 1000000 in
theorem first_none (s t : ByteArray) (w : World) (aU aS : Addr) (hG : Glob w aU aS) (hd : Hid (decL (cutS s).data.toList = none)) :
    Calls Tryd.prog 9 #[.string s, .string t] w fun e w' => e = .returned (.bool true) ∧ Below w.heap.size w w' := by
  go_enter Tryd.func9, Tryd.ntmps9
  go_wp2_with fail
  refine (shown_any w aU aS hG).mono ?_
  rintro e w1 ⟨rfl, b1⟩
  have g1 := hG.below b1
  go_wp2_with fail
  refine (cut_any s w1).mono ?_
  rintro e w2 ⟨rfl, rfl⟩
  go_wp2_with fail
  refine (decode_any _ w1 aU aS g1).mono ?_
  rintro e w2 ⟨rfl, b2⟩
  have b12 := b1.trans (b2.mono b1.size)
  rw [decV_none hd.out]
  go_wp2
  go_ret
  exact ⟨rfl, b12⟩

set_option maxRecDepth 100000 in
set_option maxHeartbeats 1000000 in
theorem first_some (s t : ByteArray) (w : World) (aU aS : Addr) (hG : Glob w aU aS) {r n : Nat} (hd : Hid (decL (cutS s).data.toList = some (r, n))) :
    Calls Tryd.prog 9 #[.string s, .string t] w fun e w' => e = .returned (.bool true) ∧ Below w.heap.size w w' := by
  have F1 := Lib.hid (first_more hd.out (cutS t))
  have F2 := Lib.hid (first_alone hd.out)
  have hl := decL_len hd.out
  have hn : n ≤ (cutS s).size := by simpa using hl.2.2
  have h1 : decide (((n : Nat) : Int) < 1) = false := by simp only [decide_eq_false_iff_not]; omega
  have h2 : decide ((((cutS s).size : Nat) : Int) < ((n : Nat) : Int)) = false := by simp only [decide_eq_false_iff_not]; omega
  have h3 : ¬ (cutS s).size < n := by omega
  have h4 : ¬ n < 1 := by omega
  have hmin : min n (cutS s).size = n := Nat.min_eq_left hn
  have hroom : n + (cutS t).size ≤ 600 := by have := cutS_size s; have := cutS_size t; omega
  clear hl
  go_enter Tryd.func9, Tryd.ntmps9
  go_wp2_with fail
  refine (shown_any w aU aS hG).mono ?_
  rintro e w1 ⟨rfl, b1⟩
  have g1 := hG.below b1
  go_wp2_with fail
  refine (cut_any s w1).mono ?_
  rintro e w2 ⟨rfl, rfl⟩
  go_wp2_with fail
  refine (decode_any _ w1 aU aS g1).mono ?_
  rintro e w2 ⟨rfl, b2⟩
  have g2 := g1.below b2
  have b12 := b1.trans (b2.mono b1.size)
  rw [decV_some hd.out]
  go_wp2_with fail
  go_region_with (first | (go_at_call 15; refine (cut_any t _).mono ?_; rintro e w' ⟨rfl, rfl⟩) | (go_at_call 14; refine (decode_any _ _ aU aS g2.drew).mono ?_; rintro e w' ⟨rfl, b3⟩; rw [F1.out]))
  have b13 : Below w.heap.size w w' := b12.drew.trans (b3.mono b12.size)
  have g3 : Glob w' aU aS := g2.drew.below b3
  go_wp2_with fail
  refine (decode_any _ _ aU aS g3).mono ?_
  rintro e w4 ⟨rfl, b4⟩
  have b14 := b13.trans (b4.mono b13.size)
  rw [F2.out]
  go_wp2
  go_ret
  exact ⟨rfl, b14⟩
theorem first_any (s t : ByteArray) (w : World) (aU aS : Addr) (hG : Glob w aU aS) :
    Calls Tryd.prog 9 #[.string s, .string t] w fun e w' => e = .returned (.bool true) ∧ Below w.heap.size w w' := by
  cases hd : decL (cutS s).data.toList with
  | none => exact first_none s t w aU aS hG (Lib.hid hd)
  | some x => exact first_some s t w aU aS hG (r := x.1) (n := x.2) (Lib.hid hd)
end Go.Proofs.YtlfaahclcmljhaaDoor
