/- The document's block: a row of a map. -/
import Derived.Test.YtlmkefmfhdjmmaaDoorBunA11
import Derived.Laws.MakeOwn
namespace Go.Proofs.YtlmkefmfhdjmmaaDoor
open Go.RowKit Go.Shelf Go.Maps
attribute [local go_sem] Oper.semAt_some

abbrev intO (c : List Int) : Obj := .cells (cellsI c) 3 (0, 0)
theorem int_cell {w : World} {B p : Nat} {g : Nat → Int} (h : w.heap[B]? = some (intO (rowF g))) (hp : p < 256) : w.cell? ⟨B, p, none⟩ = some (.int .i64 (g p)) := by
  rw [cell_of_row _ _ p _ _ _ h, cellsI_get (rowF_get g hp)]
theorem int_set {w : World} {B p : Nat} {g : Nat → Int} (v : Int) (h : w.heap[B]? = some (intO (rowF g))) (hp : p < 256) : (w.setCell ⟨B, p, none⟩ (.int .i64 v)).heap[B]? = some (intO (rowF fun q => if q = p then v else g q)) := by
  have hlt : B < w.heap.size := (Array.getElem?_eq_some_iff.1 h).1
  have hv : w.heap[B] = intO (rowF g) := (Array.getElem?_eq_some_iff.1 h).2
  rw [show intO (rowF fun q => if q = p then v else g q) = .cells ((cellsI (rowF g)).setIfInBounds p (.int .i64 v)) 3 (0, 0) by rw [cellsI_set, rowF_set g p v hp]]
  unfold World.setCell
  simp only
  rw [Array.getElem?_eq_getElem (by rw [Array.size_modify]; exact hlt), Array.getElem_modify_self, hv]
  simp only [Option.isSome_none, Bool.false_eq_true, if_false]
theorem made256 : madeCells (Value.int .i64 0).cells 256 = cellsI (rowF fun _ => 0) := by kernel_rfl
theorem make256 (w : World) : (Instr.makeSlice 25 (.int .i64 256) (.int .i64 256)).run Tryd.prog w = .ok (.slice (some ⟨w.heap.size, 0, none⟩) 256 256) (w.alloc (.cells (cellsI (rowF fun _ => 0)) 3)) := by
  obtain ⟨i0, hi0, hz0, hz1, hz2⟩ := info_parts infoIntT
  have := run_makeSlice (P := Tryd.prog) w 25 3 i0 (.int .i64 0) Tryd.underlying25 hi0 hz0 .i64 .i64 256 256 (by omega) (by omega) (by rw [hz1]; decide) (by rw [hz2]; decide) (by omega)
  rw [hz1] at this
  rw [← made256]
  exact this
set_option maxRecDepth 100000 in
set_option maxHeartbeats 4000000 in
theorem refBlock_any (o : Option Addr) (l : List Rng) (cap : Nat) (i : Nat) (hi : i < 4352) (hm : mapL l) (hl : l.length ≤ 1000) (w : World) (hA : AtR w o l) :
    Calls Tryd.prog 32 #[.slice o l.length cap, .int .i64 (i : Nat)] w fun e w' => e = .returned (.slice (some ⟨w.heap.size, 0, none⟩) 256 256) ∧ w'.heap[w.heap.size]? = some (intO (rowM l i)) ∧ Below w.heap.size w w' := by
  obtain ⟨P, hP⟩ : ∃ P, (fun (e : Ending) (w' : World) => e = .returned (.slice (some ⟨w.heap.size, 0, none⟩) 256 256) ∧ w'.heap[w.heap.size]? = some (intO (rowM l i)) ∧ Below w.heap.size w w') = P := ⟨_, rfl⟩
  have HP := Lib.hid hP
  rw [hP]
  obtain ⟨n, hn⟩ : ∃ n, l.length = n := ⟨_, rfl⟩
  have HN := Lib.hid hn
  have HM := Lib.hid hm
  have HA := Lib.hid hA
  rw [hn] at hl ⊢
  obtain ⟨f, hf⟩ : ∃ f, 256 * i = f := ⟨_, rfl⟩
  have HF := Lib.hid hf
  have hff : f ≤ 1113856 := by omega
  have hw1 : IntKind.i64.wrap (((i : Nat) : Int) * 256) = ((f : Nat) : Int) := by rw [show ((i : Nat) : Int) * 256 = ((f : Nat) : Int) from by omega]; exact wrap_id (by omega) (by omega)
  clear hP hn hm hA hf
  go_enter Tryd.func32, Tryd.ntmps32
  have hmk := make256 w
  obtain ⟨W, hW⟩ : ∃ W, w.alloc (.cells (cellsI (rowF fun _ => 0)) 3) = W := ⟨_, rfl⟩
  have A1 : Below w.heap.size w W := by rw [← hW]; exact (Below.refl _ _).alloc (Nat.le_refl _) _
  have r1 : W.heap[w.heap.size]? = some (intO (rowF fun _ => 0)) := by rw [← hW]; exact heap_alloc_new _ _
  rw [hW] at hmk
  have HB0 := Lib.hid A1
  have HR0 : Hid (W.heap[w.heap.size]? = some (intO (rowF (hitG (l.take 0) f)))) := Lib.hid r1
  clear hW A1 r1
  go_wp2_with fail
  go_loopg [7] n (fun d v7 wr => ∃ (j : Nat), v7 = .int .i64 (j : Nat) ∧ j ≤ n ∧ n - j = d ∧ Hid (wr.heap[w.heap.size]? = some (intO (rowF (hitG (l.take j) f)))) ∧ Hid (Below w.heap.size w wr))
  case atStart => exact ⟨0, rfl, Nat.zero_le _, rfl, HR0, HB0⟩
  case round =>
    obtain ⟨j, rfl, hj, rfl, HR, HB⟩ := hrel
    have hwj : IntKind.i64.wrap (((j : Nat) : Int) + 1) = (j : Nat) + 1 := wrap_id (by omega) (by omega)
    rcases Nat.lt_or_ge j n with hlt | hge
    · have hj1 : j < 1000000 := by omega
      obtain ⟨x, hx⟩ : ∃ x, l[j]? = some x := ⟨_, List.getElem?_eq_getElem (by rw [HN.out]; exact hlt)⟩
      have hok := HM.out.1 x (List.mem_of_getElem? hx)
      obtain ⟨g, off, rfl, hcc⟩ := HA.out (by rw [HN.out]; omega)
      obtain ⟨d0, d1, d2⟩ := hcc j x hx
      have HD0 := Lib.hid d0
      have HD1 := Lib.hid d1
      have HD2 := Lib.hid d2
      have HX := Lib.hid hx
      obtain ⟨xa', xb', xv⟩ := x
      unfold okR at hok
      simp only at hok HD0 HD1 HD2 d0 d1 d2
      obtain ⟨xa, rfl⟩ := Int.eq_ofNat_of_zero_le hok.1
      obtain ⟨xb, rfl⟩ := Int.eq_ofNat_of_zero_le (show 0 ≤ xb' by omega)
      have hxx : xa ≤ xb := by omega
      have hxt : xb ≤ 1114111 := by omega
      have e0 := cell_keepT HB.out d0
      have hgg := World.block_lt_of_cell? _ _ e0
      obtain ⟨wo, hwo⟩ : ∃ wo, wo = wr := ⟨_, rfl⟩
      clear hcc hx hok d0 d1 d2
      go_wp2_with fail
      all_goals
        go_loopg [8] (min xb (f + 255) + 1 - max xa f) (fun d v8 wr2 => ∃ r : Nat, v8 = .int .i64 (r : Nat) ∧ max xa f ≤ r ∧ r ≤ max (max xa f) (min xb (f + 255) + 1) ∧ (min xb (f + 255) + 1 - r) = d ∧ Hid (wr2.heap[w.heap.size]? = some (intO (rowF (midG (((xa : Nat) : Int), ((xb : Nat) : Int), xv) f r (hitG (l.take j) f))))) ∧ Hid (Below w.heap.size w wr2))
        case atStart => exact ⟨max xa f, by congr 1; omega, Nat.le_refl _, by omega, rfl, by rw [mid_start _ _ _ _ (fun p => by simp only; omega)]; exact HR, HB⟩
        case round =>
          clear HR HB e0 hgg
          obtain ⟨r, rfl, hr0, hr1, rfl, HR, HB⟩ := hrel
          have e0 := cell_keepT HB.out HD0.out
          have e1 := cell_keepT HB.out HD1.out
          have e2 := cell_keepT HB.out HD2.out
          have hgg := World.block_lt_of_cell? _ _ e0
          by_cases hrm : r ≤ min xb (f + 255)
          · have hc1 : ((r : Nat) : Int) ≤ ((f : Nat) : Int) + 256 - 1 := by omega
            have hc2 : ((r : Nat) : Int) ≤ ((xb : Nat) : Int) := by omega
            have hp : r - f < 256 := by omega
            have k0 := int_cell HR.out hp
            have fz : wr.frozen? ⟨w.heap.size, r - f, none⟩ = false := frozen_of_row _ _ _ _ _ HR.out
            have hlt2 : w.heap.size < wr.heap.size := (Array.getElem?_eq_some_iff.1 HR.out).1
            have HRN : Hid ((wr.setCell ⟨w.heap.size, r - f, none⟩ (.int .i64 xv)).heap[w.heap.size]? = some (intO (rowF (midG (((xa : Nat) : Int), ((xb : Nat) : Int), xv) f (r + 1) (hitG (l.take j) f))))) := Lib.hid (by
              rw [int_set xv HR.out hp, ← mid_step _ f r (r - f) _ (by omega) (by simp only; omega)])
            have HBN : Hid (Below w.heap.size w (wr.setCell ⟨w.heap.size, r - f, none⟩ (.int .i64 xv))) := Lib.hid (HB.out.setCell (Nat.le_refl _) _)
            have hs1 : ((r : Nat) : Int) - ((f : Nat) : Int) = ((r - f : Nat) : Int) := by omega
            have hwr : IntKind.i64.wrap (((r : Nat) : Int) + 1) = ((r : Nat) : Int) + 1 := wrap_id (by omega) (by omega)
            have hws : IntKind.i64.wrap (((r - f : Nat) : Int)) = ((r - f : Nat) : Int) := wrap_id (by omega) (by omega)
            clear HR
            by_cases hmn : ((f : Nat) : Int) + 256 - 1 < ((xb : Nat) : Int)
            all_goals
              go_wp2
              go_roundg (min xb (f + 255) + 1 - (r + 1))
              case measure => omega
              case rel => exact ⟨r + 1, by simp, by omega, by omega, rfl, HRN, HBN⟩
          · have HROW : Hid (wr.heap[w.heap.size]? = some (intO (rowF (hitG (l.take (j + 1)) f)))) := Lib.hid (by
              rw [HR.out, mid_end HM.out HX.out f r (fun p hp => by simp only; omega)])
            clear HR
            by_cases hmn : ((f : Nat) : Int) + 256 - 1 < ((xb : Nat) : Int)
            · have hrx : ¬ ((r : Nat) : Int) ≤ ((f : Nat) : Int) + 256 - 1 := by omega
              go_wp2
              go_roundg (n - (j + 1))
              case measure => omega
              case rel => exact ⟨j + 1, by simp, by omega, rfl, HROW, HB⟩
            · have hrx : ¬ ((r : Nat) : Int) ≤ ((xb : Nat) : Int) := by omega
              go_wp2
              go_roundg (n - (j + 1))
              case measure => omega
              case rel => exact ⟨j + 1, by simp, by omega, rfl, HROW, HB⟩
    · obtain rfl : j = n := by omega
      have hall : l.take j = l := List.take_of_length_le (by rw [HN.out]; exact Nat.le_refl _)
      have HPP : Hid (P (.returned (.slice (some ⟨w.heap.size, 0, none⟩) 256 256)) wr) := by
        rw [← HP.out]
        refine Lib.hid ⟨rfl, ?_, HB.out⟩
        rw [HR.out, hall, ← HF.out, rowM_hit]
      clear hall
      go_wp2_with fail
      exact HPP.out
end Go.Proofs.YtlmkefmfhdjmmaaDoor
