/- rowFrom and mark: the row of a first byte, and what is set in a first byte beside the digits. -/
import Derived.Test.YtcdgmamlmapbcaaDoorRowOf
namespace Go.Proofs.YtcdgmamlmapbcaaDoor
open Go.RowKit

theorem rowIx_of {k : Nat} (h : k < 9) {b : Nat} (hh : decide (((fl k : Nat) : Int) ≤ (b : Nat) ∧ ((b : Nat) : Int) ≤ (fh k : Nat)) = true) : rowIx b = k :=
  (rowIx_iff h b).1 (by simpa using hh)
theorem rowIx_ne {k : Nat} (h : k < 9) {b : Nat} (hh : decide (((fl k : Nat) : Int) ≤ (b : Nat) ∧ ((b : Nat) : Int) ≤ (fh k : Nat)) = false) : rowIx b ≠ k := by
  intro e
  have := (rowIx_iff h b).2 e
  simp at hh
  omega

/-- has, its answer given. -/
theorem has_is (a b c : Int) (r : Bool) (hr : decide (a ≤ c ∧ c ≤ b) = r) (w : World) : Calls Tryd.prog 78 #[.agg #[.int .u8 a, .int .u8 b], .int .u8 c] w fun e w' => e = .returned (.bool r) ∧ w.alloc (.cells #[.int .u8 a, .int .u8 b] 90) = w' :=
  hr ▸ has_any a b c w

set_option maxHeartbeats 1000000 in
theorem rowFrom_any (b : Nat) (w : World) : Calls Tryd.prog 76 #[.int .u8 (b : Nat)] w fun e w' => e = .returned (rowV (rowIx b)) ∧ Below w.heap.size w w' := by
  have h9 := rowIx_le b
  go_enter Tryd.func76, Tryd.ntmps76
  go_wp2_with fail
  refine (table_any _).mono ?_
  rintro e w1 ⟨rfl, hb1⟩
  go_wp2_with fail
  go_loopw [6] (fun i wr => ∃ k : Nat, i = .int .i64 k ∧ k ≤ rowIx b ∧ Below (w.heap.size + 1) (w.alloc (.cells zeroV.cells 92)) wr) (fun i _ => 9 - (intOf i).toNat)
  case atStart => exact ⟨0, rfl, by omega, by simp at hb1; exact hb1⟩
  case round =>
    obtain ⟨k, rfl, hk, hbr⟩ := hrel
    have hsz := hbr.size
    simp at hsz
    by_cases hk9 : k < 9
    · have hix := run_tab hk9
      cases hh : decide (((fl k : Nat) : Int) ≤ (b : Nat) ∧ ((b : Nat) : Int) ≤ (fh k : Nat))
      · have hne : k + 1 ≤ rowIx b := by have := rowIx_ne hk9 hh; omega
        have HH := Lib.hid hh
        clear hh
        go_wp2_with fail
        refine (has_is _ _ _ _ HH.out _).mono ?_
        rintro e w2 ⟨rfl, rfl⟩
        go_wp2
        go_roundw
        case rel => exact ⟨k + 1, by go_num, hne, (hbr.alloc (by omega) _).alloc (by simp; omega) _⟩
        case measure => simp [intOf]; omega
      · have E9 := Lib.hid (rowIx_of hk9 hh)
        have HH := Lib.hid hh
        clear hh
        go_wp2_with fail
        refine (has_is _ _ _ _ HH.out _).mono ?_
        rintro e w2 ⟨rfl, rfl⟩
        have hg := ((Below.heap_alloc _ (.cells #[.int .u8 (fl k : Nat), .int .u8 (fh k : Nat)] 90) _ (by simp; omega)).trans ((Below.heap_alloc wr (.cells (rowV k).cells 92) _ (by omega)).trans (later_row hbr)))
        have HG := Lib.hid hg
        clear hg
        go_wp2_with (refine wpList_store_row rfl 92 (.tmp 2) _ rfl w.heap.size (rowV k).cells rfl ?hy 92 _ HG.out ?hi ?hs ?h1 ?_)
        case hy => rfl
        case hi => kernel_rfl
        case hs => rfl
        case h1 => exact rowV_one k
        refine bodyPost_ret (v := rowV k) ?_ rfl ⟨by rw [E9.out], ?_⟩
        · exact results_cell_row rfl _ _ w.heap.size 92 (rowV k).cells (0, 0) _ rfl (setRow_heap _ _ _ _ _ _ HG.out) Tryd.underlying92 rfl (by kernel_rfl)
        · refine below_setRow (Below.alloc (Below.alloc ?_ (by omega) _) (by simp; omega) _) (Nat.le_refl _) _
          exact ((Below.refl _ _).alloc (Nat.le_refl _) _).trans (hbr.mono (by omega))
    · have e9 : rowIx b = 9 := by omega
      have E9 := Lib.hid e9
      clear e9
      go_wp2_with (refine wpList_store_row rfl 92 (.tmp 2) _ rfl w.heap.size zeroV.cells rfl ?hy 92 _ (later_row hbr) ?hi ?hs ?h1 ?_)
      case hy => rfl
      case hi => kernel_rfl
      case hs => rfl
      case h1 => exact zeroV_one
      refine bodyPost_ret (v := zeroV) ?_ rfl ⟨by rw [E9.out]; rfl, ?_⟩
      · exact results_cell_row rfl _ _ w.heap.size 92 zeroV.cells (0, 0) _ rfl (setRow_heap _ _ _ _ _ _ (later_row hbr)) Tryd.underlying92 rfl (by kernel_rfl)
      · refine below_setRow ?_ (Nat.le_refl _) _
        exact ((Below.refl _ _).alloc (Nat.le_refl _) _).trans (hbr.mono (by omega))

/-- mark, of any row. -/
theorem mark_any (k : Nat) (w : World) : Calls Tryd.prog 61 #[rowV k] w fun e w' => e = .returned (.int .u8 (mk k : Nat)) ∧ Below w.heap.size w w' := by
  by_cases h : k < 9
  · rcases below9 h with rfl | rfl | rfl | rfl | rfl | rfl | rfl | rfl | rfl
    all_goals
      go_enter Tryd.func61, Tryd.ntmps61
      simp only [mk]
      go_wp2
      go_ret
      exact ⟨rfl, (Below.refl _ _).alloc (Nat.le_refl _) _⟩
  · have h1 : sz k = 0 := by unfold sz; split <;> first | rfl | omega
    have h2 : mk k = 0 := by unfold mk; split <;> first | rfl | omega
    go_enter Tryd.func61, Tryd.ntmps61
    go_wp2
    go_ret
    exact ⟨by rw [h2]; rfl, (Below.refl _ _).alloc (Nat.le_refl _) _⟩
end Go.Proofs.YtcdgmamlmapbcaaDoor
