/- shown, of the laws of field. -/
import Derived.Test.YtapbedefahbilaaGreatDoorFLaw0
namespace Go.Proofs.YtapbedefahbilaaGreatDoor
open Go.RowKit Go.Shelf Go.Maps

theorem sh_line : lineL [48, 48, 52, 49, 46, 46, 48, 48, 53, 65, 32, 59, 32, 85, 112, 112, 101, 114, 32, 35, 32, 65, 32, 116, 111, 32, 90] = .good 65 90 [[85, 112, 112, 101, 114]] := by kernel_rfl
theorem sh_parse1 : parseL [10, 35, 32, 110, 111, 10, 49, 70, 54, 48, 48, 32, 59, 32, 97, 32, 59, 32, 98, 10, 120] = ([], .line 4 21) := by kernel_rfl
theorem sh_parse2 : parseL [48, 48, 52, 49, 59, 97, 10, 48, 48, 52, 50, 46, 46, 48, 48, 52, 49, 59, 98] = ([], .line 2 22) := by kernel_rfl
theorem sh_codes : codesL [48, 48, 53, 51, 32, 48, 48, 55, 51] = some [83, 115] := by kernel_rfl
theorem sh_print : printX [(0, 65, 90, [bytes1 [85, 112, 112, 101, 114]])] = [48, 48, 52, 49, 46, 46, 48, 48, 53, 65, 59, 85, 112, 112, 101, 114, 10] := by
  have h1 : digitsL 65 = [52, 49] := by rw [digitsL_big (by omega), digitsL_small (by omega)]; rfl
  have h2 : digitsL 90 = [53, 97] := by rw [digitsL_big (by omega), digitsL_small (by omega)]; rfl
  have e1 : putL 65 = [48, 48, 52, 49] := by
    have := putL_nat 65 (by omega)
    rw [show ((65 : Nat) : Int) = 65 from rfl] at this
    rw [this]; unfold padL upL; rw [h1]; rfl
  have e2 : putL 90 = [48, 48, 53, 65] := by
    have := putL_nat 90 (by omega)
    rw [show ((90 : Nat) : Int) = 90 from rfl] at this
    rw [this]; unfold padL upL; rw [h2]; rfl
  unfold printX
  simp only [List.flatMap_cons, List.flatMap_nil, lineB, headB, e1, e2]
  rfl

set_option maxRecDepth 100000 in
set_option maxHeartbeats 2000000 in
theorem shown_any (w : World) {m : Int} (hG : FGlob w m) :
    Calls Tryz.prog 10 #[] w fun e w' => e = .returned (.bool true) ∧ Below w.heap.size w w' := by
  go_enter Tryz.func10, Tryz.ntmps10
  go_wp2_with fail
  refine (line_any ⟨#[48, 48, 52, 49, 46, 46, 48, 48, 53, 65, 32, 59, 32, 85, 112, 112, 101, 114, 32, 35, 32, 65, 32, 116, 111, 32, 90]⟩ w hG (by decide)).mono ?_
  rintro e w1 h1
  rw [sh_line] at h1
  obtain ⟨v, rfl, ho, b1⟩ := h1
  have hG1 := hG.below b1
  obtain ⟨o, cap, rfl, hF⟩ := fields_own ho
  have n1 : (w1.alloc (recO 0 0 0 (.slice none 0 0))).heap[w1.heap.size]? = some (recO 0 0 0 (.slice none 0 0)) := heap_alloc_new _ _
  obtain ⟨w2, hw2⟩ : ∃ w2, (w1.alloc (recO 0 0 0 (.slice none 0 0))).setRow w1.heap.size (recC 0 65 90 (.slice o 1 cap)) = w2 := ⟨_, rfl⟩
  have b2 : Below w1.heap.size w1 w2 := by rw [← hw2]; exact below_setRow ((Below.refl _ _).alloc (Nat.le_refl _) _) (Nat.le_refl _) _
  have q2 : w2.heap[w1.heap.size]? = some (recO 0 65 90 (.slice o 1 cap)) := by rw [← hw2]; exact setRow_heap _ _ _ _ _ _ (heap_alloc_new _ _)
  have B2 := b1.trans (b2.mono b1.size)
  have hF2 := hF.below b2
  have hG2 := hG1.below b2
  have N1 := Lib.hid n1
  have HW2 := Lib.hid hw2
  have Q2 := Lib.hid q2
  have BB2 := Lib.hid B2
  have HF2 := Lib.hid hF2
  clear n1 hw2 q2 b2 B2 hF hF2 ho b1
  go_wp2_with (first | (refine store_rec rfl (.tmp 1) (.tmp 14) rfl w1.heap.size (recC 0 65 90 (.slice o 1 cap)) rfl rfl _ N1.out ⟨rfl, rfl⟩ (by simp [Value.oneCell']) HW2.out ?_) | fail)
  refine (parse_any ⟨#[10, 35, 32, 110, 111, 10, 49, 70, 54, 48, 48, 32, 59, 32, 97, 32, 59, 32, 98, 10, 120]⟩ w2 hG2 (by decide)).mono ?_
  rintro e w3 h3
  rw [sh_parse1] at h3
  obtain ⟨v3, cs3, rfl, ho3, _, b3⟩ := h3
  obtain ⟨o3, cap3, rfl⟩ := own_form ho3
  have hG3 := hG2.below b3
  have Q3 := Lib.hid (row_below Q2.out b3)
  have BB3 := Lib.hid (BB2.out.trans (b3.mono BB2.out.size))
  have HF3 := Lib.hid (HF2.out.below b3)
  clear b3 ho3
  go_wp2_with fail
  refine (codes_f_any ⟨#[48, 48, 53, 51, 32, 48, 48, 55, 51]⟩ w3 (by decide)).mono ?_
  rintro e w4 h4
  unfold CodesPost at h4
  rw [sh_codes] at h4
  obtain ⟨v4, rfl, ho4, b4⟩ := h4
  have hG4 := hG3.below b4
  have i4 := ints_own ho4
  have Q4 := Lib.hid (row_below Q3.out b4)
  have BB4 := Lib.hid (BB3.out.trans (b4.mono BB3.out.size))
  have HF4 := Lib.hid (HF3.out.below b4)
  have I4 := Lib.hid i4
  clear b4 ho4 i4
  go_wp2_with fail
  refine (parse_any ⟨#[48, 48, 52, 49, 59, 97, 10, 48, 48, 52, 50, 46, 46, 48, 48, 52, 49, 59, 98]⟩ w4 hG4 (by decide)).mono ?_
  rintro e w5 h5
  rw [sh_parse2] at h5
  unfold ParsePost at h5
  simp only [toldL, toldE] at h5
  obtain ⟨v5, cs5, rfl, ho5, _, b5⟩ := h5
  have hG5 := hG4.below b5
  have Q5 := Lib.hid (row_below Q4.out b5)
  have BB5 := Lib.hid (BB4.out.trans (b5.mono BB4.out.size))
  have HF5 := Lib.hid (HF4.out.below b5)
  have I5 := Lib.hid (I4.out.below b5)
  obtain ⟨k0, k1, k2, k3, k4⟩ := rec_cells Q5.out
  obtain ⟨g, hg, hcell⟩ := HF5.out (by simp)
  obtain rfl := hg
  have k5 := hcell 0 (by simp)
  have k5' : w5.cell? ⟨g, 0, none⟩ = some (.string ⟨#[85, 112, 112, 101, 114]⟩) := k5
  have A5 : Below w5.heap.size w5 (w5.alloc (.cells #[.int .i64 83, .int .i64 115] 3)) := (Below.refl _ _).alloc (Nat.le_refl _) _
  have J5 : Hid (IsInts (w5.alloc (.cells #[.int .i64 83, .int .i64 115] 3)) (.slice (some ⟨w5.heap.size, 0, none⟩) 2 2) [83, 115]) := by
    refine Lib.hid (.inr ⟨_, 2, rfl, fun i hi => ?_⟩)
    rw [addr_at, cell_of_row _ _ i _ _ _ (heap_alloc_new w5 _)]
    have hi2 : i < 2 := hi
    rcases (by omega : i = 0 ∨ i = 1) with rfl | rfl <;> rfl
  have K5 := Lib.hid (I5.out.below A5)
  have HA5 := Lib.hid A5
  clear b5 ho5 hcell k5 A5
  go_wp2_with fail
  refine (ints_any [83, 115] (by decide) v4 _ _ K5.out J5.out).mono ?_
  rintro e w6 ⟨rfl, b6⟩
  have C56 := HA5.out.trans (b6.mono HA5.out.size)
  have Q6 := Lib.hid (row_below Q5.out C56)
  have BB6 := Lib.hid (BB5.out.trans (C56.mono BB5.out.size))
  have HF6 := Lib.hid (HF5.out.below C56)
  have hG6 := hG5.below C56
  clear k0 k1 k2 k3 k4 k5' b6 C56
  obtain ⟨k0, k1, k2, k3, k4⟩ := rec_cells Q6.out
  have A6 : Below w6.heap.size w6 (w6.alloc (.cells #[.int .i64 0, .int .i64 65, .int .i64 90, .slice (some ⟨g, 0, none⟩) 1 cap] 31)) := (Below.refl _ _).alloc (Nat.le_refl _) _
  have O6 := World.ownsRow_lit (base := w6.heap.size) (e := 31) (size := 4) w6 #[.int .i64 0, .int .i64 65, .int .i64 90, .slice (some ⟨g, 0, none⟩) 1 cap] 1 (Nat.le_refl _) (by unfold maxLen; omega) rfl
  have hpr := print_any [(0, 65, 90, [bytes1 [85, 112, 112, 101, 114]])] (by intro x hx; rw [List.mem_singleton.1 hx]; exact ⟨(by unfold In64; omega : In64 65), (by unfold In64; omega : In64 90)⟩) (by rw [sh_print]; decide) _ _ 1 _ _ (hG6.below A6) O6 ⟨_, cap, [], rfl, (HF6.out.below A6).at, rfl⟩ (by decide)
  rw [sh_print] at hpr
  have HPR := Lib.hid hpr
  have BA6 := Lib.hid (BB6.out.trans (A6.mono BB6.out.size))
  clear hpr A6 O6
  go_wp2_with fail
  refine HPR.out.mono ?_
  rintro e w7 ⟨rfl, b7⟩
  have BB7 := Lib.hid (BA6.out.trans (b7.mono BA6.out.size))
  clear k0 k1 k2 k3 k4 b7
  go_wp2
  go_ret
  exact ⟨rfl, BB7.out⟩
end Go.Proofs.YtapbedefahbilaaGreatDoor
