/- The walks of the small functions of package scalar that know the table. rowOf, rowFrom, mark: the row of a scalar, the row of a first byte, what is set in a first byte. rowFrom and mark: the row of a first byte, and what is set in a first byte beside the digits. A row held against the row of zeros. Right. fits: are bytes those of one of the row's scalars? rest: left, head, drop. join: the scalar of bytes that fit. -/
import Derived.Test.YthnfekilmiodpaaDoorProg
import Derived.Test.YthnfekilmiodpaaDoorBunPlain
import Derived.BigQuiet
import Derived.Deep.QuietTactic
import Derived.Deep.RegionWith
import Derived.Lib.Strings
namespace Go.Proofs.YthnfekilmiodpaaDoor
open Go.RowKit

theorem tail_any (w : World) : Calls Tryd.prog 55 #[] w fun e w' => e = .returned (.agg #[.int .u8 128, .int .u8 191]) ∧ w.alloc (.cells #[.int .u8 128, .int .u8 191] 86) = w' := by
  go_enter Tryd.func55, Tryd.ntmps55
  go_wp2
  exact bodyPost_ret (v := .agg #[.int .u8 128, .int .u8 191]) (by simp [results, Tryd.results55, go_sem]) rfl ⟨rfl, rfl⟩

theorem has_any (a b c : Int) (w : World) : Calls Tryd.prog 56 #[.agg #[.int .u8 a, .int .u8 b], .int .u8 c] w fun e w' => e = .returned (.bool (decide (a ≤ c ∧ c ≤ b))) ∧ w.alloc (.cells #[.int .u8 a, .int .u8 b] 86) = w' := by
  by_cases h1 : a ≤ c <;> by_cases h2 : c ≤ b
  all_goals
    go_enter Tryd.func56, Tryd.ntmps56
    go_wp2
    go_ret
    exact ⟨by simp [h1, h2], rfl⟩

/-- The whole table, as an array's value. -/
def tabV : Array Value := ((List.range 9).flatMap fun k => (rowV k).cells.toList).toArray

theorem heap5 (w : World) (A B C D E : Obj) : (((((w.alloc A).alloc B).alloc C).alloc D).alloc E).heap[w.heap.size]? = some A := by
  rw [Below.heap_alloc _ _ _ (by simp; omega), Below.heap_alloc _ _ _ (by simp; omega), Below.heap_alloc _ _ _ (by simp; omega), Below.heap_alloc _ _ _ (by simp), heap_alloc_new]

set_option maxHeartbeats 1000000 in
theorem table_any (w : World) : Calls Tryd.prog 57 #[] w fun e w' => e = .returned (.agg tabV) ∧ Below w.heap.size w w' := by
  go_enter Tryd.func57, Tryd.ntmps57
  go_wp2_with fail
  refine (tail_any _).mono ?_
  rintro e w1 ⟨rfl, rfl⟩
  go_wp2_with fail
  refine (tail_any _).mono ?_
  rintro e w1 ⟨rfl, rfl⟩
  go_wp2_with fail
  refine (tail_any _).mono ?_
  rintro e w1 ⟨rfl, rfl⟩
  go_wp2_with fail
  refine (tail_any _).mono ?_
  rintro e w1 ⟨rfl, rfl⟩
  go_wp2_with (refine wpList_store_row rfl 111 _ _ rfl w.heap.size tabV rfl ?hy 111 _ (heap5 w _ _ _ _ _) ?hi ?hs ?h1 ?_)
  case hy => rfl
  case hi => kernel_rfl
  case hs => rfl
  case h1 => kernel_rfl
  refine bodyPost_ret (v := .agg tabV) ?_ rfl ⟨rfl, ?_⟩
  · exact results_cell_row rfl _ _ w.heap.size 111 tabV (0, 0) _ rfl (setRow_heap _ _ _ _ _ _ (heap5 w _ _ _ _ _)) Tryd.underlying111 rfl (by kernel_rfl)
  · exact below_setRow (((((((Below.refl _ _).alloc (Nat.le_refl _) _).alloc (by simp) _).alloc (by simp; omega) _).alloc (by simp; omega) _).alloc (by simp; omega) _)) (Nat.le_refl _) _
end Go.Proofs.YthnfekilmiodpaaDoor

namespace Go.Proofs.YthnfekilmiodpaaDoor
open Go.RowKit

theorem isInt_lob (k : Nat) : IsInt (Ieee.double.read (lob k)) (lo k : Nat) := by
  by_cases h : k < 9
  · rcases below9 h with rfl | rfl | rfl | rfl | rfl | rfl | rfl | rfl | rfl
    · exact ⟨false, 0, -1074, by decide +kernel, by omega, by have h0 : ∀ z : Int, Ieee.signed false 0 0 = ((lo 0 : Nat) : Int) * z := (fun z => by rw [show ((lo 0 : Nat) : Int) = 0 from rfl, Int.zero_mul]; rfl); exact h0 _⟩
    all_goals exact ⟨false, _, _, rfl, by decide +kernel, by decide +kernel⟩
  · have h1 : lob k = 0 := by unfold lob; split <;> first | rfl | omega
    have h2 : lo k = 0 := by unfold lo; split <;> first | rfl | omega
    rw [h1, h2]
    exact ⟨false, 0, -1074, by decide +kernel, by omega, by have h0 : ∀ z : Int, Ieee.signed false 0 0 = ((0 : Nat) : Int) * z := (fun z => by rw [show ((0 : Nat) : Int) = 0 from rfl, Int.zero_mul]; rfl); exact h0 _⟩
theorem isInt_hib {k : Nat} (h : k < 9) : IsInt (Ieee.double.read (hib k)) (hi k : Nat) := by
  rcases below9 h with rfl | rfl | rfl | rfl | rfl | rfl | rfl | rfl | rfl
  all_goals exact ⟨false, _, _, rfl, by decide +kernel, by decide +kernel⟩
theorem lo_lt (k : Nat) : lo k < 0x110000 := by unfold lo; split <;> omega
theorem hi_lt (k : Nat) : hi k < 0x110000 := by unfold hi; split <;> omega
theorem leq_lo (k : Nat) (r : Int) (h1 : -(2 ^ 63) ≤ r) (h2 : r < 2 ^ 63) : (FloatKind.f64.format.order (lob k) (floatOfInt .f64 r) == some .lt || FloatKind.f64.format.order (lob k) (floatOfInt .f64 r) == some .eq) = decide ((lo k : Int) ≤ r) := by
  have hl := lo_lt k
  rw [order_nearest (isInt_lob k) (by omega) (by omega) h1 h2]
  simp only [compare, compareOfLessAndEq]
  by_cases ha : (lo k : Int) < r
  · rw [if_pos ha]; simp; omega
  · by_cases hb : (lo k : Int) = r
    · rw [if_neg ha, if_pos hb]; simp; omega
    · rw [if_neg ha, if_neg hb]; simp; omega
theorem order_hib {k : Nat} (h : k < 9) (r : Int) (h1 : -(2 ^ 63) ≤ r) (h2 : r < 2 ^ 63) : (FloatKind.f64.format.order (floatOfInt .f64 r) (hib k) == some .lt || FloatKind.f64.format.order (floatOfInt .f64 r) (hib k) == some .eq) = decide (r ≤ (hi k : Int)) := by
  have hl := hi_lt k
  rw [nearest_order (isInt_hib h) (by omega) (by omega) h1 h2]
  simp only [compare, compareOfLessAndEq]
  by_cases ha : r < (hi k : Int)
  · rw [if_pos ha]; simp; omega
  · by_cases hb : r = (hi k : Int)
    · rw [if_neg ha, if_pos hb]; simp; omega
    · rw [if_neg ha, if_neg hb]; simp; omega

/-- The bounds of 64 bits, behind a name. -/
def In64 (r : Int) : Prop := -(2 ^ 63) ≤ r ∧ r < 2 ^ 63

theorem t_lo {r : Int} (h : In64 r) {k : Nat} {b : Bool} (hb : decide ((lo k : Int) ≤ r) = b) :
    (FloatKind.f64.format.order (lob k) (floatOfInt .f64 r) == some .lt || FloatKind.f64.format.order (lob k) (floatOfInt .f64 r) == some .eq) = b := by
  rw [leq_lo k r h.1 h.2, hb]
theorem t_hi {r : Int} (h : In64 r) {k : Nat} (hk : k < 9) {b : Bool} (hb : decide (r ≤ (hi k : Int)) = b) :
    (FloatKind.f64.format.order (floatOfInt .f64 r) (hib k) == some .lt || FloatKind.f64.format.order (floatOfInt .f64 r) (hib k) == some .eq) = b := by
  rw [order_hib hk r h.1 h.2, hb]

theorem run_tab {k : Nat} (h : k < 9) (w : World) : (Instr.index 111 (.agg tabV) (.int .i64 (k : Nat))).run Tryd.prog w = .ok (rowV k) w := by
  rcases below9 h with rfl | rfl | rfl | rfl | rfl | rfl | rfl | rfl | rfl <;> kernel_rfl

theorem rowR_of {k : Nat} (h : k < 9) {r : Int} (h1 : (lo k : Int) ≤ r) (h2 : r ≤ (hi k : Int)) : rowR r = k := (rowR_iff h r).1 ⟨h1, h2⟩
theorem rowR_ne {k : Nat} (h : k < 9) {r : Int} (h1 : ¬ ((lo k : Int) ≤ r ∧ r ≤ (hi k : Int))) : rowR r ≠ k := fun e => h1 ((rowR_iff h r).2 e)

theorem rowV_one (k : Nat) : ((rowV k).cells.all fun x => x.oneCell') = true := by simp [Value.cells, Value.oneCell']
theorem zeroV_one : (zeroV.cells.all fun x => x.oneCell') = true := rowV_one 9

set_option maxHeartbeats 1000000 in
theorem rowOf_any (r : Int) (hr : In64 r) (w : World) : Calls Tryd.prog 52 #[.int .i64 r] w fun e w' => e = .returned (rowV (rowR r)) ∧ Below w.heap.size w w' := by
  have h9 := rowR_le r
  go_enter Tryd.func52, Tryd.ntmps52
  go_wp2_with fail
  refine (table_any _).mono ?_
  rintro e w1 ⟨rfl, hb1⟩
  go_wp2_with fail
  go_loopw [6] (fun i wr => ∃ k : Nat, i = .int .i64 k ∧ k ≤ rowR r ∧ Below (w.heap.size + 1) (w.alloc (.cells zeroV.cells 88)) wr) (fun i _ => 9 - (intOf i).toNat)
  case atStart => exact ⟨0, rfl, by omega, by simp at hb1; exact hb1⟩
  case round =>
    obtain ⟨k, rfl, hk, hbr⟩ := hrel
    have hsz := hbr.size
    simp at hsz
    by_cases hk9 : k < 9
    · have hix := run_tab hk9
      by_cases c1 : (lo k : Int) ≤ r
      · have t1 := t_lo hr (decide_eq_true c1)
        by_cases c2 : r ≤ (hi k : Int)
        · have t2 := t_hi hr hk9 (decide_eq_true c2)
          have E9 := Lib.hid (rowR_of hk9 c1 c2)
          clear c1 c2
          go_wp2_with (refine wpList_store_row rfl 88 (.tmp 2) _ rfl w.heap.size (rowV k).cells rfl ?hy 88 _ ((Below.heap_alloc _ _ _ ?hlt).trans (later_row hbr)) ?hi ?hs ?h1 ?_)
          case hy => rfl
          case hlt => omega
          case hi => kernel_rfl
          case hs => rfl
          case h1 => exact rowV_one k
          refine bodyPost_ret (v := rowV k) ?_ rfl ⟨by rw [E9.out], ?_⟩
          · exact results_cell_row rfl _ _ w.heap.size 88 (rowV k).cells (0, 0) _ rfl (setRow_heap _ _ _ _ _ _ ((Below.heap_alloc _ _ _ (by omega)).trans (later_row hbr))) Tryd.underlying88 rfl (by kernel_rfl)
          · refine below_setRow (Below.alloc ?_ (by omega) _) (Nat.le_refl _) _
            exact ((Below.refl _ _).alloc (Nat.le_refl _) _).trans (hbr.mono (by omega))
        · have t2 := t_hi hr hk9 (decide_eq_false c2)
          have hne : k + 1 ≤ rowR r := by have := rowR_ne hk9 (fun h => c2 h.2); omega
          clear c1 c2
          go_wp2
          go_roundw
          case rel => exact ⟨k + 1, by go_num, hne, hbr.alloc (by omega) _⟩
          case measure => simp [intOf]; omega
      · have t1 := t_lo hr (decide_eq_false c1)
        have hne : k + 1 ≤ rowR r := by have := rowR_ne hk9 (fun h => c1 h.1); omega
        clear c1
        go_wp2
        go_roundw
        case rel => exact ⟨k + 1, by go_num, hne, hbr.alloc (by omega) _⟩
        case measure => simp [intOf]; omega
    · have e9 : rowR r = 9 := by omega
      have E9 := Lib.hid e9
      clear e9
      go_wp2_with (refine wpList_store_row rfl 88 (.tmp 2) _ rfl w.heap.size zeroV.cells rfl ?hy 88 _ (later_row hbr) ?hi ?hs ?h1 ?_)
      case hy => rfl
      case hi => kernel_rfl
      case hs => rfl
      case h1 => exact zeroV_one
      refine bodyPost_ret (v := zeroV) ?_ rfl ⟨by rw [E9.out]; rfl, ?_⟩
      · exact results_cell_row rfl _ _ w.heap.size 88 zeroV.cells (0, 0) _ rfl (setRow_heap _ _ _ _ _ _ (later_row hbr)) Tryd.underlying88 rfl (by kernel_rfl)
      · refine below_setRow ?_ (Nat.le_refl _) _
        exact ((Below.refl _ _).alloc (Nat.le_refl _) _).trans (hbr.mono (by omega))
end Go.Proofs.YthnfekilmiodpaaDoor

namespace Go.Proofs.YthnfekilmiodpaaDoor
open Go.RowKit

theorem rowIx_of {k : Nat} (h : k < 9) {b : Nat} (hh : decide (((fl k : Nat) : Int) ≤ (b : Nat) ∧ ((b : Nat) : Int) ≤ (fh k : Nat)) = true) : rowIx b = k :=
  (rowIx_iff h b).1 (by simpa using hh)
theorem rowIx_ne {k : Nat} (h : k < 9) {b : Nat} (hh : decide (((fl k : Nat) : Int) ≤ (b : Nat) ∧ ((b : Nat) : Int) ≤ (fh k : Nat)) = false) : rowIx b ≠ k := by
  intro e
  have := (rowIx_iff h b).2 e
  simp at hh
  omega

/-- has, its answer given. -/
theorem has_is (a b c : Int) (r : Bool) (hr : decide (a ≤ c ∧ c ≤ b) = r) (w : World) : Calls Tryd.prog 56 #[.agg #[.int .u8 a, .int .u8 b], .int .u8 c] w fun e w' => e = .returned (.bool r) ∧ w.alloc (.cells #[.int .u8 a, .int .u8 b] 86) = w' :=
  hr ▸ has_any a b c w

set_option maxHeartbeats 1000000 in
theorem rowFrom_any (b : Nat) (w : World) : Calls Tryd.prog 54 #[.int .u8 (b : Nat)] w fun e w' => e = .returned (rowV (rowIx b)) ∧ Below w.heap.size w w' := by
  have h9 := rowIx_le b
  go_enter Tryd.func54, Tryd.ntmps54
  go_wp2_with fail
  refine (table_any _).mono ?_
  rintro e w1 ⟨rfl, hb1⟩
  go_wp2_with fail
  go_loopw [6] (fun i wr => ∃ k : Nat, i = .int .i64 k ∧ k ≤ rowIx b ∧ Below (w.heap.size + 1) (w.alloc (.cells zeroV.cells 88)) wr) (fun i _ => 9 - (intOf i).toNat)
  case atStart => exact ⟨0, rfl, by omega, by simp at hb1; exact hb1⟩
  case round =>
    obtain ⟨k, rfl, hk, hbr⟩ := hrel
    have hsz := hbr.size
    simp at hsz
    by_cases hk9 : k < 9
    · have hix := run_tab hk9
      cases hh : decide (((fl k : Nat) : Int) ≤ (b : Nat) ∧ ((b : Nat) : Int) ≤ (fh k : Nat))
      · have hne : k + 1 ≤ rowIx b := by have := rowIx_ne hk9 hh; omega
        have HH := Lib.hid hh
        clear hh
        go_wp2_with fail
        refine (has_is _ _ _ _ HH.out _).mono ?_
        rintro e w2 ⟨rfl, rfl⟩
        go_wp2
        go_roundw
        case rel => exact ⟨k + 1, by go_num, hne, (hbr.alloc (by omega) _).alloc (by simp; omega) _⟩
        case measure => simp [intOf]; omega
      · have E9 := Lib.hid (rowIx_of hk9 hh)
        have HH := Lib.hid hh
        clear hh
        go_wp2_with fail
        refine (has_is _ _ _ _ HH.out _).mono ?_
        rintro e w2 ⟨rfl, rfl⟩
        have hg := ((Below.heap_alloc _ (.cells #[.int .u8 (fl k : Nat), .int .u8 (fh k : Nat)] 86) _ (by simp; omega)).trans ((Below.heap_alloc wr (.cells (rowV k).cells 88) _ (by omega)).trans (later_row hbr)))
        have HG := Lib.hid hg
        clear hg
        go_wp2_with (refine wpList_store_row rfl 88 (.tmp 2) _ rfl w.heap.size (rowV k).cells rfl ?hy 88 _ HG.out ?hi ?hs ?h1 ?_)
        case hy => rfl
        case hi => kernel_rfl
        case hs => rfl
        case h1 => exact rowV_one k
        refine bodyPost_ret (v := rowV k) ?_ rfl ⟨by rw [E9.out], ?_⟩
        · exact results_cell_row rfl _ _ w.heap.size 88 (rowV k).cells (0, 0) _ rfl (setRow_heap _ _ _ _ _ _ HG.out) Tryd.underlying88 rfl (by kernel_rfl)
        · refine below_setRow (Below.alloc (Below.alloc ?_ (by omega) _) (by simp; omega) _) (Nat.le_refl _) _
          exact ((Below.refl _ _).alloc (Nat.le_refl _) _).trans (hbr.mono (by omega))
    · have e9 : rowIx b = 9 := by omega
      have E9 := Lib.hid e9
      clear e9
      go_wp2_with (refine wpList_store_row rfl 88 (.tmp 2) _ rfl w.heap.size zeroV.cells rfl ?hy 88 _ (later_row hbr) ?hi ?hs ?h1 ?_)
      case hy => rfl
      case hi => kernel_rfl
      case hs => rfl
      case h1 => exact zeroV_one
      refine bodyPost_ret (v := zeroV) ?_ rfl ⟨by rw [E9.out]; rfl, ?_⟩
      · exact results_cell_row rfl _ _ w.heap.size 88 zeroV.cells (0, 0) _ rfl (setRow_heap _ _ _ _ _ _ (later_row hbr)) Tryd.underlying88 rfl (by kernel_rfl)
      · refine below_setRow ?_ (Nat.le_refl _) _
        exact ((Below.refl _ _).alloc (Nat.le_refl _) _).trans (hbr.mono (by omega))

/-- mark, of any row. -/
theorem mark_any (k : Nat) (w : World) : Calls Tryd.prog 53 #[rowV k] w fun e w' => e = .returned (.int .u8 (mk k : Nat)) ∧ Below w.heap.size w w' := by
  by_cases h : k < 9
  · rcases below9 h with rfl | rfl | rfl | rfl | rfl | rfl | rfl | rfl | rfl
    all_goals
      go_enter Tryd.func53, Tryd.ntmps53
      simp only [mk]
      go_wp2
      go_ret
      exact ⟨rfl, (Below.refl _ _).alloc (Nat.le_refl _) _⟩
  · have h1 : sz k = 0 := by unfold sz; split <;> first | rfl | omega
    have h2 : mk k = 0 := by unfold mk; split <;> first | rfl | omega
    go_enter Tryd.func53, Tryd.ntmps53
    go_wp2
    go_ret
    exact ⟨by rw [h2]; rfl, (Below.refl _ _).alloc (Nat.le_refl _) _⟩
end Go.Proofs.YthnfekilmiodpaaDoor

namespace Go.Proofs.YthnfekilmiodpaaDoor
open Go.RowKit

theorem ne_row {k : Nat} (h : k < 9) (w : World) : (binOp .neq 88 (rowV k) zeroV).run Tryd.prog w = .ok (.bool true) w := by
  rcases below9 h with rfl | rfl | rfl | rfl | rfl | rfl | rfl | rfl | rfl <;> kernel_rfl
theorem eq_row {k : Nat} (h : k < 9) (w : World) : (binOp .eql 88 (rowV k) zeroV).run Tryd.prog w = .ok (.bool false) w := by
  rcases below9 h with rfl | rfl | rfl | rfl | rfl | rfl | rfl | rfl | rfl <;> kernel_rfl
theorem ne_zero (w : World) : (binOp .neq 88 zeroV zeroV).run Tryd.prog w = .ok (.bool false) w := by kernel_rfl
theorem eq_zero (w : World) : (binOp .eql 88 zeroV zeroV).run Tryd.prog w = .ok (.bool true) w := by kernel_rfl
end Go.Proofs.YthnfekilmiodpaaDoor

namespace Go.Proofs.YthnfekilmiodpaaDoor
open Go.RowKit

theorem okB0 {k b : Nat} {r : Bool} (h : okB k 0 b = r) : decide (((fl k : Nat) : Int) ≤ (b : Nat) ∧ ((b : Nat) : Int) ≤ (fh k : Nat)) = r := by
  rw [← h]; simp [okB]
theorem okB1 {k b : Nat} {r : Bool} (h : okB k 1 b = r) : decide (((sl k : Nat) : Int) ≤ (b : Nat) ∧ ((b : Nat) : Int) ≤ (sh k : Nat)) = r := by
  rw [← h]; simp [okB]
theorem okB2 {k i b : Nat} (hi : 2 ≤ i) {r : Bool} (h : okB k i b = r) : decide ((128 : Int) ≤ (b : Nat) ∧ ((b : Nat) : Int) ≤ 191) = r := by
  obtain ⟨j, rfl⟩ : ∃ j, i = j + 2 := ⟨i - 2, by omega⟩
  rw [← h, okB_more]
  congr 1
  exact propext ⟨fun h => by omega, fun h => by omega⟩

/-- What holds at each round's head. -/
def FitsRel (k : Nat) (bs : List UInt8) (w : World) (i : Value) (wr : World) : Prop :=
  ∃ j : Nat, i = .int .i64 (j : Nat) ∧ j ≤ bs.length ∧ allB k bs j = true ∧ Below (w.heap.size + 1) (w.alloc (.cells (rowV k).cells 88)) wr

theorem below0 {w wr : World} {o : Obj} (hbr : Below (w.heap.size + 1) (w.alloc o) wr) : Below w.heap.size w wr :=
  ((Below.refl w.heap.size w).alloc (Nat.le_refl _) _).trans (hbr.mono (by omega))
theorem below3 {w wr : World} {o A B C : Obj} (hbr : Below (w.heap.size + 1) (w.alloc o) wr) (h : w.heap.size < wr.heap.size) : Below w.heap.size w (((wr.alloc A).alloc B).alloc C) :=
  (((below0 hbr).alloc (by omega) _).alloc (by simp; omega) _).alloc (by simp; omega) _

set_option maxHeartbeats 2000000 in
theorem fits_any (k : Nat) (bs : List UInt8) (g cap : Nat) (w : World) (hc : ∀ i, i < bs.length → w.cell? ⟨g, i, none⟩ = some (.int .u8 ((bs.getD i 0).toNat : Nat))) (hl : bs.length ≤ 4) :
    Calls Tryd.prog 49 #[rowV k, .slice (some ⟨g, 0, none⟩) bs.length cap] w fun e w' => e = .returned (.bool (fitsB k bs)) ∧ Below w.heap.size w w' := by
  go_enter Tryd.func49, Tryd.ntmps49
  go_wp2_with fail
  go_loopw [10] (FitsRel k bs w) (fun i _ => 9 - (intOf i).toNat)
  case atStart => exact ⟨0, rfl, by omega, rfl, Below.refl _ _⟩
  case round =>
    obtain ⟨j, rfl, hj, ha, hbr⟩ := hrel
    have hsz := hbr.size
    simp at hsz
    have z0 : w.heap.size < wr.heap.size := by omega
    have z1 : w.heap.size < wr.heap.size + 1 := by omega
    have z2 : w.heap.size < wr.heap.size + 1 + 1 := by omega
    have HA := Lib.hid ha
    clear ha
    by_cases hjl : j < bs.length
    · have hlt : g < w.heap.size := block_lt_of_cell (hc j hjl)
      have hcj : wr.cell? ⟨g, j, none⟩ = some (.int .u8 ((bs.getD j 0).toNat : Nat)) := (hbr.cell (p := ⟨g, j, none⟩) (by show g < _; omega)).trans ((World.cell?_alloc_lt w _ ⟨g, j, none⟩ hlt).trans (hc j hjl))
      have hg := later_row hbr
      have HG := Lib.hid hg
      have d2 : wr.cell? ⟨w.heap.size, 2, none⟩ = some (.int .u8 (fl k : Nat)) := by rw [cell_of_row _ _ 2 _ _ _ hg]; rfl
      have d3 : wr.cell? ⟨w.heap.size, 3, none⟩ = some (.int .u8 (fh k : Nat)) := by rw [cell_of_row _ _ 3 _ _ _ hg]; rfl
      have d4 : wr.cell? ⟨w.heap.size, 4, none⟩ = some (.int .u8 (sl k : Nat)) := by rw [cell_of_row _ _ 4 _ _ _ hg]; rfl
      have d5 : wr.cell? ⟨w.heap.size, 5, none⟩ = some (.int .u8 (sh k : Nat)) := by rw [cell_of_row _ _ 5 _ _ _ hg]; rfl
      clear hg
      generalize hb : (bs.getD j 0).toNat = b at hcj
      have HB := Lib.hid hb
      clear hb
      cases ho : okB k j b
      · have hf : fitsB k bs = false := by
          unfold fitsB
          rw [allB_false (i := j) (by rw [HB.out]; exact ho) hjl]; rfl
        have HF := Lib.hid hf
        have HO := Lib.hid ho
        clear ho hf
        by_cases h0 : j = 0
        · subst h0
          go_wp2_with (first | (go_at_call 55; refine (tail_any _).mono ?_; rintro e w' ⟨rfl, rfl⟩) | (go_at_call 56; refine (has_is _ _ _ _ (okB0 HO.out) _).mono ?_; rintro e w' ⟨rfl, rfl⟩))
          go_ret
          exact ⟨by rw [HF.out]; rfl, below3 hbr z0⟩
        by_cases h1 : j = 1
        · subst h1
          go_wp2_with (first | (go_at_call 55; refine (tail_any _).mono ?_; rintro e w' ⟨rfl, rfl⟩) | (go_at_call 56; refine (has_is _ _ _ _ (okB1 HO.out) _).mono ?_; rintro e w' ⟨rfl, rfl⟩))
          go_ret
          exact ⟨by rw [HF.out]; rfl, below3 hbr z0⟩
        · have e0 : (((j : Nat) : Int) == 0) = false := by simpa using h0
          have e1 : (((j : Nat) : Int) == 1) = false := by simp; omega
          have h2 : 2 ≤ j := by omega
          clear h0 h1
          go_wp2_with (first | (go_at_call 55; refine (tail_any _).mono ?_; rintro e w' ⟨rfl, rfl⟩) | (go_at_call 56; refine (has_is _ _ _ _ (okB2 h2 HO.out) _).mono ?_; rintro e w' ⟨rfl, rfl⟩))
          go_ret
          exact ⟨by rw [HF.out]; rfl, below3 hbr z0⟩
      · have hf : allB k bs (j + 1) = true := by
          unfold allB
          rw [HA.out, HB.out, ho]; rfl
        have HF := Lib.hid hf
        have HO := Lib.hid ho
        clear ho hf
        by_cases h0 : j = 0
        · subst h0
          go_wp2_with (first | (go_at_call 55; refine (tail_any _).mono ?_; rintro e w' ⟨rfl, rfl⟩) | (go_at_call 56; refine (has_is _ _ _ _ (okB0 HO.out) _).mono ?_; rintro e w' ⟨rfl, rfl⟩))
          go_roundw
          case rel => exact ⟨0 + 1, by go_num, hjl, HF.out, ((hbr.alloc (by omega) _).alloc (by simp; omega) _).alloc (by simp; omega) _⟩
          case measure => simp [intOf]
        by_cases h1 : j = 1
        · subst h1
          go_wp2_with (first | (go_at_call 55; refine (tail_any _).mono ?_; rintro e w' ⟨rfl, rfl⟩) | (go_at_call 56; refine (has_is _ _ _ _ (okB1 HO.out) _).mono ?_; rintro e w' ⟨rfl, rfl⟩))
          go_roundw
          case rel => exact ⟨1 + 1, by go_num, hjl, HF.out, ((hbr.alloc (by omega) _).alloc (by simp; omega) _).alloc (by simp; omega) _⟩
          case measure => simp [intOf]
        · have e0 : (((j : Nat) : Int) == 0) = false := by simpa using h0
          have e1 : (((j : Nat) : Int) == 1) = false := by simp; omega
          have h2 : 2 ≤ j := by omega
          clear h0 h1
          go_wp2_with (first | (go_at_call 55; refine (tail_any _).mono ?_; rintro e w' ⟨rfl, rfl⟩) | (go_at_call 56; refine (has_is _ _ _ _ (okB2 h2 HO.out) _).mono ?_; rintro e w' ⟨rfl, rfl⟩))
          go_roundw
          case rel => exact ⟨j + 1, by go_num, hjl, HF.out, ((hbr.alloc (by omega) _).alloc (by simp; omega) _).alloc (by simp; omega) _⟩
          case measure => simp [intOf]; omega
    · obtain rfl : j = bs.length := by omega
      have hg := later_row hbr
      have d1 : wr.cell? ⟨w.heap.size, 1, none⟩ = some (.int .i64 (sz k : Nat)) := by rw [cell_of_row _ _ 1 _ _ _ hg]; rfl
      clear hg
      by_cases hs : bs.length = sz k
      · have hf : fitsB k bs = true := by
          unfold fitsB
          rw [HA.out, decide_eq_true hs]; rfl
        have HF := Lib.hid hf
        have e1 : (((bs.length : Nat) : Int) == (sz k : Nat)) = true := by simp; omega
        clear hf hs
        go_wp2
        go_ret
        exact ⟨by rw [HF.out]; rfl, below0 hbr⟩
      · have hf : fitsB k bs = false := by
          unfold fitsB
          rw [decide_eq_false hs]; simp
        have HF := Lib.hid hf
        have e1 : (((bs.length : Nat) : Int) == (sz k : Nat)) = false := by simp; omega
        clear hf hs
        go_wp2
        go_ret
        exact ⟨by rw [HF.out]; rfl, below0 hbr⟩
end Go.Proofs.YthnfekilmiodpaaDoor

namespace Go.Proofs.YthnfekilmiodpaaDoor
open Go.RowKit

theorem left_any (p : Nat) (s : ByteArray) (w : World) (hc : w.cell? ⟨p, 0, none⟩ = some (.string s)) :
    Calls Tryd.prog 46 #[.pointer (some ⟨p, 0, none⟩)] w fun e w' => e = .returned (.int .i64 s.size) ∧ w = w' := by
  go_enter Tryd.func46, Tryd.ntmps46
  go_wp2
  go_ret
  exact ⟨rfl, rfl⟩

/-- v is a slice of just the bytes bs. -/
def IsBytes (w : World) (v : Value) (bs : List UInt8) : Prop :=
  ∃ g cap, v = .slice (some ⟨g, 0, none⟩) bs.length cap ∧ ∀ i, i < bs.length → w.cell? ⟨g, i, none⟩ = some (.int .u8 ((bs.getD i 0).toNat : Nat))

theorem isBytes_row (w : World) (x : ByteArray) (t : TypeId) (cap : Nat) (fr : Nat × Nat) {bs : List UInt8} (hx : x.data.toList = bs) {n : Nat} (hn : n = bs.length) :
    IsBytes ((w.alloc (.cells (bytesRow x cap) t fr)).drew.drew) (.slice (some ⟨w.heap.size, 0, none⟩) n cap) bs := by
  subst hn
  refine ⟨w.heap.size, cap, rfl, fun i hi => ?_⟩
  have hb : ((w.alloc (.cells (bytesRow x cap) t fr)).drew.drew).heap[w.heap.size]? = some (.cells (bytesRow x cap) t fr) := heap_alloc_new w _
  rw [cell_of_row _ _ i _ t fr hb]
  subst hx
  have hi' : i < x.data.size := by simpa using hi
  simp only [bytesRow, Array.getElem?_append, Array.size_map, hi', if_true, Array.getElem?_map, Array.getElem?_eq_getElem hi', Option.map_some, List.getD, Array.getElem?_toList, Option.getD_some]
theorem below_row (w : World) (o : Obj) : Below w.heap.size w ((w.alloc o).drew.drew) := ((Below.refl _ _).alloc (Nat.le_refl _) _).drew.drew

set_option maxHeartbeats 400000 in
theorem head_any (p : Nat) (s : ByteArray) (n : Nat) (w : World) (hc : w.cell? ⟨p, 0, none⟩ = some (.string s)) :
    Calls Tryd.prog 48 #[.pointer (some ⟨p, 0, none⟩), .int .i64 (n : Nat)] w fun e w' => (∃ v, e = .returned v ∧ IsBytes w' v (s.data.toList.take n)) ∧ Below w.heap.size w w' := by
  have hcv := fun (W : World) (x : ByteArray) => run_bytes_of_string (P := Tryd.prog) W 9 57 5 x Tryd.underlying9 Tryd.underlying57 Tryd.underlying5
  by_cases h : n ≤ s.size
  · have h1 : ¬ s.size < n := by omega
    go_enter Tryd.func48, Tryd.ntmps48
    go_wp2
    go_region_with (go_at_call 46; refine Calls.mono (left_any p s _ (by exact hc)) ?_; rintro e w' ⟨rfl, rfl⟩)
    all_goals
      go_wp2
      go_ret
      exact ⟨⟨_, rfl, isBytes_row w _ _ _ _ (by rw [Lib.extract_data]; simp) (by simp; omega)⟩, below_row _ _⟩
  · have h1 : s.size < n := by omega
    go_enter Tryd.func48, Tryd.ntmps48
    go_wp2
    go_region_with (go_at_call 46; refine Calls.mono (left_any p s _ (by exact hc)) ?_; rintro e w' ⟨rfl, rfl⟩)
    all_goals
      go_wp2
      go_ret
      exact ⟨⟨_, rfl, isBytes_row w _ _ _ _ (List.take_of_length_le (by simp; omega)).symm (by simp; omega)⟩, below_row _ _⟩
end Go.Proofs.YthnfekilmiodpaaDoor

namespace Go.Proofs.YthnfekilmiodpaaDoor
open Go.RowKit

theorem joinTo_succ {k : Nat} {bs : List UInt8} {n : Nat} (h : ¬ n = 0) : joinTo k bs (n + 1) = joinTo k bs n * 64 + ((bs.getD n 0).toNat - 128) := by
  rw [joinTo, if_neg h]

def JoinRel (k : Nat) (bs : List UInt8) (w : World) (r i : Value) (wr : World) : Prop :=
  ∃ j : Nat, i = .int .i64 (j : Nat) ∧ j ≤ bs.length ∧ r = .int .i64 (joinTo k bs j : Nat) ∧ Below (w.heap.size + 1) (w.alloc (.cells (rowV k).cells 88)) wr

set_option maxHeartbeats 2000000 in
theorem join_any (k : Nat) (bs : List UInt8) (g cap : Nat) (w : World) (hc : ∀ i, i < bs.length → w.cell? ⟨g, i, none⟩ = some (.int .u8 ((bs.getD i 0).toNat : Nat))) (hl : bs.length ≤ 4) (hk : k < 9) (hf : fitsB k bs = true) :
    Calls Tryd.prog 50 #[rowV k, .slice (some ⟨g, 0, none⟩) bs.length cap] w fun e w' => e = .returned (.int .i64 (joinB k bs : Nat)) ∧ Below w.heap.size w w' := by
  have HF := Lib.hid hf
  clear hf
  go_enter Tryd.func50, Tryd.ntmps50
  go_wp2_with fail
  go_loopw [5, 10] (JoinRel k bs w) (fun _ i _ => 9 - (intOf i).toNat)
  case atStart => exact ⟨0, rfl, by omega, rfl, Below.refl _ _⟩
  case round =>
    obtain ⟨j, rfl, hj, rfl, hbr⟩ := hrel
    have hsz := hbr.size
    simp at hsz
    have z0 : w.heap.size < wr.heap.size := by omega
    have z1 : w.heap.size < wr.heap.size + 1 := by omega
    by_cases hjl : j < bs.length
    · have hlt : g < w.heap.size := block_lt_of_cell (hc j hjl)
      have hcj : wr.cell? ⟨g, j, none⟩ = some (.int .u8 ((bs.getD j 0).toNat : Nat)) := (hbr.cell (p := ⟨g, j, none⟩) (by show g < _; omega)).trans ((World.cell?_alloc_lt w _ ⟨g, j, none⟩ hlt).trans (hc j hjl))
      have hg := later_row hbr
      have HG := Lib.hid hg
      have d0 : wr.cell? ⟨w.heap.size, 0, none⟩ = some (.complex .f64 (lob k) (hib k)) := by rw [cell_of_row _ _ 0 _ _ _ hg]; rfl
      have d1 : wr.cell? ⟨w.heap.size, 1, none⟩ = some (.int .i64 (sz k : Nat)) := by rw [cell_of_row _ _ 1 _ _ _ hg]; rfl
      have d2 : wr.cell? ⟨w.heap.size, 2, none⟩ = some (.int .u8 (fl k : Nat)) := by rw [cell_of_row _ _ 2 _ _ _ hg]; rfl
      have d3 : wr.cell? ⟨w.heap.size, 3, none⟩ = some (.int .u8 (fh k : Nat)) := by rw [cell_of_row _ _ 3 _ _ _ hg]; rfl
      have d4 : wr.cell? ⟨w.heap.size, 4, none⟩ = some (.int .u8 (sl k : Nat)) := by rw [cell_of_row _ _ 4 _ _ _ hg]; rfl
      have d5 : wr.cell? ⟨w.heap.size, 5, none⟩ = some (.int .u8 (sh k : Nat)) := by rw [cell_of_row _ _ 5 _ _ _ hg]; rfl
      clear hg
      by_cases h0 : j = 0
      · subst h0
        have hh := head_of_fits HF.out hjl
        have hm := mk_le hk
        generalize hb : (bs.getD 0 0).toNat = b at hcj hh
        have HB := Lib.hid hb
        clear hb
        have b1 : mk k ≤ b := by omega
        have b2 : b < 256 := by rw [← HB.out]; exact (bs.getD 0 0).toNat_lt
        clear hm hh
        go_wp2_with fail
        refine (mark_any k _).mono ?_
        rintro e w2 ⟨rfl, hb2⟩
        go_wp2
        go_roundw
        case rel => exact ⟨0 + 1, by go_num, hjl, by rw [show joinTo k bs (0 + 1) = (bs.getD 0 0).toNat - mk k from rfl, HB.out]; congr 1; omega, hbr.trans (hb2.mono (by omega))⟩
        case measure => simp [intOf]
      · have e0 : (((j : Nat) : Int) == 0) = false := by simpa using h0
        have ht := tail_of_fits hk HF.out (i := j) (by omega) hjl
        have hlt := joinTo_lt hk HF.out j hj
        have hx : 128 * 64 ^ j ≤ 128 * 64 ^ 3 := Nat.mul_le_mul_left _ (Nat.pow_le_pow_right (by omega) (by omega))
        generalize hb : (bs.getD j 0).toNat = b at hcj ht
        generalize hq : joinTo k bs j = q at *
        have HB := Lib.hid hb
        have HQ := Lib.hid hq
        have q1 : q < 33554432 := by omega
        have b1 : 128 ≤ b := ht.1
        have b2 : b ≤ 191 := ht.2
        have hj0 := Lib.hid h0
        clear hb hq hlt hx ht h0
        have ho : bits .or .i64 ((q : Int) * 64) ((b : Int) - 128) = ((q * 64 + (b - 128) : Nat) : Int) := by
          have := or_join q (b - 128) (by omega) (by omega)
          rw [← this]; congr 1; omega
        have HO := Lib.hid ho
        clear ho
        go_wp2
        go_roundw
        case rel => exact ⟨j + 1, by go_num, hjl, by rw [HO.out, joinTo_succ hj0.out, HQ.out, HB.out], hbr⟩
        case measure => simp [intOf]; omega
    · obtain rfl : j = bs.length := by omega
      go_wp2
      go_ret
      exact ⟨rfl, below0 hbr⟩
end Go.Proofs.YthnfekilmiodpaaDoor

