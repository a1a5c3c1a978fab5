/- join: the scalar of bytes that fit. -/
import Derived.Test.YtcdgmamlmapbcaaDoorFits
import Derived.Test.YtcdgmamlmapbcaaDoorBits
namespace Go.Proofs.YtcdgmamlmapbcaaDoor
open Go.RowKit

theorem joinTo_succ {k : Nat} {bs : List UInt8} {n : Nat} (h : ¬ n = 0) : joinTo k bs (n + 1) = joinTo k bs n * 64 + ((bs.getD n 0).toNat - 128) := by
  rw [joinTo, if_neg h]

def JoinRel (k : Nat) (bs : List UInt8) (w : World) (r i : Value) (wr : World) : Prop :=
  ∃ j : Nat, i = .int .i64 (j : Nat) ∧ j ≤ bs.length ∧ r = .int .i64 (joinTo k bs j : Nat) ∧ Below (w.heap.size + 1) (w.alloc (.cells (rowV k).cells 92)) wr

set_option maxHeartbeats 2000000 in
theorem join_any (k : Nat) (bs : List UInt8) (g cap : Nat) (w : World) (hc : ∀ i, i < bs.length → w.cell? ⟨g, i, none⟩ = some (.int .u8 ((bs.getD i 0).toNat : Nat))) (hl : bs.length ≤ 4) (hk : k < 9) (hf : fitsB k bs = true) :
    Calls Tryd.prog 72 #[rowV k, .slice (some ⟨g, 0, none⟩) bs.length cap] w fun e w' => e = .returned (.int .i64 (joinB k bs : Nat)) ∧ Below w.heap.size w w' := by
  have HF := Lib.hid hf
  clear hf
  go_enter Tryd.func72, Tryd.ntmps72
  go_wp2_with fail
  go_loopw [5, 10] (JoinRel k bs w) (fun _ i _ => 9 - (intOf i).toNat)
  case atStart => exact ⟨0, rfl, by omega, rfl, Below.refl _ _⟩
  case round =>
    obtain ⟨j, rfl, hj, rfl, hbr⟩ := hrel
    have hsz := hbr.size
    simp at hsz
    have z0 : w.heap.size < wr.heap.size := by omega
    have z1 : w.heap.size < wr.heap.size + 1 := by omega
    by_cases hjl : j < bs.length
    · have hlt : g < w.heap.size := block_lt_of_cell (hc j hjl)
      have hcj : wr.cell? ⟨g, j, none⟩ = some (.int .u8 ((bs.getD j 0).toNat : Nat)) := (hbr.cell (p := ⟨g, j, none⟩) (by show g < _; omega)).trans ((World.cell?_alloc_lt w _ ⟨g, j, none⟩ hlt).trans (hc j hjl))
      have hg := later_row hbr
      have HG := Lib.hid hg
      have d0 : wr.cell? ⟨w.heap.size, 0, none⟩ = some (.complex .f64 (lob k) (hib k)) := by rw [cell_of_row _ _ 0 _ _ _ hg]; rfl
      have d1 : wr.cell? ⟨w.heap.size, 1, none⟩ = some (.int .i64 (sz k : Nat)) := by rw [cell_of_row _ _ 1 _ _ _ hg]; rfl
      have d2 : wr.cell? ⟨w.heap.size, 2, none⟩ = some (.int .u8 (fl k : Nat)) := by rw [cell_of_row _ _ 2 _ _ _ hg]; rfl
      have d3 : wr.cell? ⟨w.heap.size, 3, none⟩ = some (.int .u8 (fh k : Nat)) := by rw [cell_of_row _ _ 3 _ _ _ hg]; rfl
      have d4 : wr.cell? ⟨w.heap.size, 4, none⟩ = some (.int .u8 (sl k : Nat)) := by rw [cell_of_row _ _ 4 _ _ _ hg]; rfl
      have d5 : wr.cell? ⟨w.heap.size, 5, none⟩ = some (.int .u8 (sh k : Nat)) := by rw [cell_of_row _ _ 5 _ _ _ hg]; rfl
      clear hg
      by_cases h0 : j = 0
      · subst h0
        have hh := head_of_fits HF.out hjl
        have hm := mk_le hk
        generalize hb : (bs.getD 0 0).toNat = b at hcj hh
        have HB := Lib.hid hb
        clear hb
        have b1 : mk k ≤ b := by omega
        have b2 : b < 256 := by rw [← HB.out]; exact (bs.getD 0 0).toNat_lt
        clear hm hh
        go_wp2_with fail
        refine (mark_any k _).mono ?_
        rintro e w2 ⟨rfl, hb2⟩
        go_wp2
        go_roundw
        case rel => exact ⟨0 + 1, by go_num, hjl, by rw [show joinTo k bs (0 + 1) = (bs.getD 0 0).toNat - mk k from rfl, HB.out]; congr 1; omega, hbr.trans (hb2.mono (by omega))⟩
        case measure => simp [intOf]
      · have e0 : (((j : Nat) : Int) == 0) = false := by simpa using h0
        have ht := tail_of_fits hk HF.out (i := j) (by omega) hjl
        have hlt := joinTo_lt hk HF.out j hj
        have hx : 128 * 64 ^ j ≤ 128 * 64 ^ 3 := Nat.mul_le_mul_left _ (Nat.pow_le_pow_right (by omega) (by omega))
        generalize hb : (bs.getD j 0).toNat = b at hcj ht
        generalize hq : joinTo k bs j = q at *
        have HB := Lib.hid hb
        have HQ := Lib.hid hq
        have q1 : q < 33554432 := by omega
        have b1 : 128 ≤ b := ht.1
        have b2 : b ≤ 191 := ht.2
        have hj0 := Lib.hid h0
        clear hb hq hlt hx ht h0
        have ho : bits .or .i64 ((q : Int) * 64) ((b : Int) - 128) = ((q * 64 + (b - 128) : Nat) : Int) := by
          have := or_join q (b - 128) (by omega) (by omega)
          rw [← this]; congr 1; omega
        have HO := Lib.hid ho
        clear ho
        go_wp2
        go_roundw
        case rel => exact ⟨j + 1, by go_num, hjl, by rw [HO.out, joinTo_succ hj0.out, HQ.out, HB.out], hbr⟩
        case measure => simp [intOf]; omega
    · obtain rfl : j = bs.length := by omega
      go_wp2
      go_ret
      exact ⟨rfl, below0 hbr⟩
end Go.Proofs.YtcdgmamlmapbcaaDoor
