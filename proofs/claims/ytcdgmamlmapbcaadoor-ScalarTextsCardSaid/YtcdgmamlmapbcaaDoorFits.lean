/- fits: are bytes those of one of the row's scalars? -/
import Derived.Test.YtcdgmamlmapbcaaDoorRowFrom
import Derived.Test.YtcdgmamlmapbcaaDoorRest
import Derived.Test.YtcdgmamlmapbcaaDoorSpec
namespace Go.Proofs.YtcdgmamlmapbcaaDoor
open Go.RowKit

theorem okB0 {k b : Nat} {r : Bool} (h : okB k 0 b = r) : decide (((fl k : Nat) : Int) ≤ (b : Nat) ∧ ((b : Nat) : Int) ≤ (fh k : Nat)) = r := by
  rw [← h]; simp [okB]
theorem okB1 {k b : Nat} {r : Bool} (h : okB k 1 b = r) : decide (((sl k : Nat) : Int) ≤ (b : Nat) ∧ ((b : Nat) : Int) ≤ (sh k : Nat)) = r := by
  rw [← h]; simp [okB]
theorem okB2 {k i b : Nat} (hi : 2 ≤ i) {r : Bool} (h : okB k i b = r) : decide ((128 : Int) ≤ (b : Nat) ∧ ((b : Nat) : Int) ≤ 191) = r := by
  obtain ⟨j, rfl⟩ : ∃ j, i = j + 2 := ⟨i - 2, by omega⟩
  rw [← h, okB_more]
  congr 1
  exact propext ⟨fun h => by omega, fun h => by omega⟩

/-- What holds at each round's head. -/
def FitsRel (k : Nat) (bs : List UInt8) (w : World) (i : Value) (wr : World) : Prop :=
  ∃ j : Nat, i = .int .i64 (j : Nat) ∧ j ≤ bs.length ∧ allB k bs j = true ∧ Below (w.heap.size + 1) (w.alloc (.cells (rowV k).cells 92)) wr

theorem below0 {w wr : World} {o : Obj} (hbr : Below (w.heap.size + 1) (w.alloc o) wr) : Below w.heap.size w wr :=
  ((Below.refl w.heap.size w).alloc (Nat.le_refl _) _).trans (hbr.mono (by omega))
theorem below3 {w wr : World} {o A B C : Obj} (hbr : Below (w.heap.size + 1) (w.alloc o) wr) (h : w.heap.size < wr.heap.size) : Below w.heap.size w (((wr.alloc A).alloc B).alloc C) :=
  (((below0 hbr).alloc (by omega) _).alloc (by simp; omega) _).alloc (by simp; omega) _

set_option maxHeartbeats 2000000 in
theorem fits_any (k : Nat) (bs : List UInt8) (g cap : Nat) (w : World) (hc : ∀ i, i < bs.length → w.cell? ⟨g, i, none⟩ = some (.int .u8 ((bs.getD i 0).toNat : Nat))) (hl : bs.length ≤ 4) :
    Calls Tryd.prog 71 #[rowV k, .slice (some ⟨g, 0, none⟩) bs.length cap] w fun e w' => e = .returned (.bool (fitsB k bs)) ∧ Below w.heap.size w w' := by
  go_enter Tryd.func71, Tryd.ntmps71
  go_wp2_with fail
  go_loopw [10] (FitsRel k bs w) (fun i _ => 9 - (intOf i).toNat)
  case atStart => exact ⟨0, rfl, by omega, rfl, Below.refl _ _⟩
  case round =>
    obtain ⟨j, rfl, hj, ha, hbr⟩ := hrel
    have hsz := hbr.size
    simp at hsz
    have z0 : w.heap.size < wr.heap.size := by omega
    have z1 : w.heap.size < wr.heap.size + 1 := by omega
    have z2 : w.heap.size < wr.heap.size + 1 + 1 := by omega
    have HA := Lib.hid ha
    clear ha
    by_cases hjl : j < bs.length
    · have hlt : g < w.heap.size := block_lt_of_cell (hc j hjl)
      have hcj : wr.cell? ⟨g, j, none⟩ = some (.int .u8 ((bs.getD j 0).toNat : Nat)) := (hbr.cell (p := ⟨g, j, none⟩) (by show g < _; omega)).trans ((World.cell?_alloc_lt w _ ⟨g, j, none⟩ hlt).trans (hc j hjl))
      have hg := later_row hbr
      have HG := Lib.hid hg
      have d2 : wr.cell? ⟨w.heap.size, 2, none⟩ = some (.int .u8 (fl k : Nat)) := by rw [cell_of_row _ _ 2 _ _ _ hg]; rfl
      have d3 : wr.cell? ⟨w.heap.size, 3, none⟩ = some (.int .u8 (fh k : Nat)) := by rw [cell_of_row _ _ 3 _ _ _ hg]; rfl
      have d4 : wr.cell? ⟨w.heap.size, 4, none⟩ = some (.int .u8 (sl k : Nat)) := by rw [cell_of_row _ _ 4 _ _ _ hg]; rfl
      have d5 : wr.cell? ⟨w.heap.size, 5, none⟩ = some (.int .u8 (sh k : Nat)) := by rw [cell_of_row _ _ 5 _ _ _ hg]; rfl
      clear hg
      generalize hb : (bs.getD j 0).toNat = b at hcj
      have HB := Lib.hid hb
      clear hb
      cases ho : okB k j b
      · have hf : fitsB k bs = false := by
          unfold fitsB
          rw [allB_false (i := j) (by rw [HB.out]; exact ho) hjl]; rfl
        have HF := Lib.hid hf
        have HO := Lib.hid ho
        clear ho hf
        by_cases h0 : j = 0
        · subst h0
          go_wp2_with (first | (go_at_call 77; refine (tail_any _).mono ?_; rintro e w' ⟨rfl, rfl⟩) | (go_at_call 78; refine (has_is _ _ _ _ (okB0 HO.out) _).mono ?_; rintro e w' ⟨rfl, rfl⟩))
          go_ret
          exact ⟨by rw [HF.out]; rfl, below3 hbr z0⟩
        by_cases h1 : j = 1
        · subst h1
          go_wp2_with (first | (go_at_call 77; refine (tail_any _).mono ?_; rintro e w' ⟨rfl, rfl⟩) | (go_at_call 78; refine (has_is _ _ _ _ (okB1 HO.out) _).mono ?_; rintro e w' ⟨rfl, rfl⟩))
          go_ret
          exact ⟨by rw [HF.out]; rfl, below3 hbr z0⟩
        · have e0 : (((j : Nat) : Int) == 0) = false := by simpa using h0
          have e1 : (((j : Nat) : Int) == 1) = false := by simp; omega
          have h2 : 2 ≤ j := by omega
          clear h0 h1
          go_wp2_with (first | (go_at_call 77; refine (tail_any _).mono ?_; rintro e w' ⟨rfl, rfl⟩) | (go_at_call 78; refine (has_is _ _ _ _ (okB2 h2 HO.out) _).mono ?_; rintro e w' ⟨rfl, rfl⟩))
          go_ret
          exact ⟨by rw [HF.out]; rfl, below3 hbr z0⟩
      · have hf : allB k bs (j + 1) = true := by
          unfold allB
          rw [HA.out, HB.out, ho]; rfl
        have HF := Lib.hid hf
        have HO := Lib.hid ho
        clear ho hf
        by_cases h0 : j = 0
        · subst h0
          go_wp2_with (first | (go_at_call 77; refine (tail_any _).mono ?_; rintro e w' ⟨rfl, rfl⟩) | (go_at_call 78; refine (has_is _ _ _ _ (okB0 HO.out) _).mono ?_; rintro e w' ⟨rfl, rfl⟩))
          go_roundw
          case rel => exact ⟨0 + 1, by go_num, hjl, HF.out, ((hbr.alloc (by omega) _).alloc (by simp; omega) _).alloc (by simp; omega) _⟩
          case measure => simp [intOf]
        by_cases h1 : j = 1
        · subst h1
          go_wp2_with (first | (go_at_call 77; refine (tail_any _).mono ?_; rintro e w' ⟨rfl, rfl⟩) | (go_at_call 78; refine (has_is _ _ _ _ (okB1 HO.out) _).mono ?_; rintro e w' ⟨rfl, rfl⟩))
          go_roundw
          case rel => exact ⟨1 + 1, by go_num, hjl, HF.out, ((hbr.alloc (by omega) _).alloc (by simp; omega) _).alloc (by simp; omega) _⟩
          case measure => simp [intOf]
        · have e0 : (((j : Nat) : Int) == 0) = false := by simpa using h0
          have e1 : (((j : Nat) : Int) == 1) = false := by simp; omega
          have h2 : 2 ≤ j := by omega
          clear h0 h1
          go_wp2_with (first | (go_at_call 77; refine (tail_any _).mono ?_; rintro e w' ⟨rfl, rfl⟩) | (go_at_call 78; refine (has_is _ _ _ _ (okB2 h2 HO.out) _).mono ?_; rintro e w' ⟨rfl, rfl⟩))
          go_roundw
          case rel => exact ⟨j + 1, by go_num, hjl, HF.out, ((hbr.alloc (by omega) _).alloc (by simp; omega) _).alloc (by simp; omega) _⟩
          case measure => simp [intOf]; omega
    · obtain rfl : j = bs.length := by omega
      have hg := later_row hbr
      have d1 : wr.cell? ⟨w.heap.size, 1, none⟩ = some (.int .i64 (sz k : Nat)) := by rw [cell_of_row _ _ 1 _ _ _ hg]; rfl
      clear hg
      by_cases hs : bs.length = sz k
      · have hf : fitsB k bs = true := by
          unfold fitsB
          rw [HA.out, decide_eq_true hs]; rfl
        have HF := Lib.hid hf
        have e1 : (((bs.length : Nat) : Int) == (sz k : Nat)) = true := by simp; omega
        clear hf hs
        go_wp2
        go_ret
        exact ⟨by rw [HF.out]; rfl, below0 hbr⟩
      · have hf : fitsB k bs = false := by
          unfold fitsB
          rw [decide_eq_false hs]; simp
        have HF := Lib.hid hf
        have e1 : (((bs.length : Nat) : Int) == (sz k : Nat)) = false := by simp; omega
        clear hf hs
        go_wp2
        go_ret
        exact ⟨by rw [HF.out]; rfl, below0 hbr⟩
end Go.Proofs.YtcdgmamlmapbcaaDoor
