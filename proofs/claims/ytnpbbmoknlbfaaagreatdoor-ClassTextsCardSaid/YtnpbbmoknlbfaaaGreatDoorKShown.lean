/- shown: sets' texts are known. -/
import Derived.Test.YtnpbbmoknlbfaaaGreatDoorKParse
namespace Go.Proofs.YtnpbbmoknlbfaaaGreatDoor
open Go.RowKit Go.Shelf Go.Maps
attribute [local go_sem] Oper.semAt_some

def exN : List ByteArray := [⟨#[65]⟩, ⟨#[66]⟩, ⟨#[67]⟩, ⟨#[68]⟩]
theorem exN_ok : namesL exN := by decide +kernel
theorem exN_5 : (⟨(printV exN 5).toArray⟩ : ByteArray) = ⟨#[91, 65, 32, 67, 93]⟩ ∧ printE exN 5 = 0 := by decide +kernel
theorem exN_7 : (⟨(printV exN 7).toArray⟩ : ByteArray) = ⟨#[91, 94, 68, 93]⟩ ∧ printE exN 7 = 0 := by decide +kernel
theorem exN_p : parseV exN [91, 94, 68, 32, 65, 93] = 6 ∧ parseE exN [91, 94, 68, 32, 65, 93] = 0 := by decide +kernel
theorem exN_q : parseV exN [91, 65, 32, 65, 93] = 0 ∧ parseE exN [91, 65, 32, 65, 93] = 70 := by decide +kernel
theorem exO : ofV [2, 0, 2] = 5 ∧ errZ (ofZ [2, 0, 2]) = 0 := by decide +kernel
theorem exH : hasZ 5 2 = true := by decide +kernel
theorem exT : notZ 5 4 = 10 := by decide +kernel
/-- Names at a row of the call's own. -/
theorem exN_at {w : World} {g : Nat} (h : w.heap[g]? = some (.cells #[.string ⟨#[65]⟩, .string ⟨#[66]⟩, .string ⟨#[67]⟩, .string ⟨#[68]⟩] 9 (0, 0))) : TxtAt w (some ⟨g, 0, none⟩) exN := fun _ => by
  refine ⟨g, 0, rfl, fun j x hx => ?_⟩
  rw [Nat.zero_add, cell_of_row w g j _ _ _ h]
  match j, hx with
  | 0, hx => cases hx; rfl
  | 1, hx => cases hx; rfl
  | 2, hx => cases hx; rfl
  | 3, hx => cases hx; rfl
  | j + 4, hx => simp [exN] at hx
theorem exL_at {w : World} {g : Nat} (h : w.heap[g]? = some (.cells #[.int .i64 2, .int .i64 0, .int .i64 2] 3 (0, 0))) : NumsAt w (some ⟨g, 0, none⟩) [2, 0, 2] := fun _ => by
  refine ⟨g, 0, rfl, fun j x hx => ?_⟩
  rw [Nat.zero_add, cell_of_row w g j _ _ _ h]
  match j, hx with
  | 0, hx => cases hx; rfl
  | 1, hx => cases hx; rfl
  | 2, hx => cases hx; rfl
  | j + 3, hx => simp at hx
set_option maxRecDepth 100000 in
set_option maxHeartbeats 4000000 in
theorem shownK_any (w : World) (hG : KGlob w) : Calls Tryz.prog 17 #[] w fun e w' => e = .returned (.bool true) ∧ Below w.heap.size w w' := by
  have A0 : Below w.heap.size w (w.alloc (.cells #[.string ⟨#[65]⟩, .string ⟨#[66]⟩, .string ⟨#[67]⟩, .string ⟨#[68]⟩] 9)) := (Below.refl _ _).alloc (Nat.le_refl _) _
  have r0 : (w.alloc (.cells #[.string ⟨#[65]⟩, .string ⟨#[66]⟩, .string ⟨#[67]⟩, .string ⟨#[68]⟩] 9)).heap[w.heap.size]? = some (.cells #[.string ⟨#[65]⟩, .string ⟨#[66]⟩, .string ⟨#[67]⟩, .string ⟨#[68]⟩] 9 (0, 0)) := heap_alloc_new _ _
  have hz : ∀ s ∈ exN, s.size ≤ 1000 := by decide
  have HG := Lib.hid hG
  have HA0 := Lib.hid A0
  have R0 := Lib.hid r0
  have K5 : Hid (∀ W, Below (w.alloc (.cells #[.string ⟨#[65]⟩, .string ⟨#[66]⟩, .string ⟨#[67]⟩, .string ⟨#[68]⟩] 9)).heap.size (w.alloc (.cells #[.string ⟨#[65]⟩, .string ⟨#[66]⟩, .string ⟨#[67]⟩, .string ⟨#[68]⟩] 9)) W → Calls Tryz.prog 30 #[.int .i64 5, .slice (some ⟨w.heap.size, 0, none⟩) 4 4] W fun e w' => e = .returned (.tuple #[.string ⟨#[91, 65, 32, 67, 93]⟩, .int .i64 0]) ∧ Below W.heap.size W w') := Lib.hid fun W hb => by
    have := Print_anyK (some ⟨w.heap.size, 0, none⟩) exN 4 5 (by decide) hz W ((hG.below A0).below hb) ((exN_at r0).below hb)
    rw [show strV (printV exN 5) = .string ⟨#[91, 65, 32, 67, 93]⟩ from congrArg Value.string exN_5.1, exN_5.2] at this
    exact this
  have K7 : Hid (∀ W, Below (w.alloc (.cells #[.string ⟨#[65]⟩, .string ⟨#[66]⟩, .string ⟨#[67]⟩, .string ⟨#[68]⟩] 9)).heap.size (w.alloc (.cells #[.string ⟨#[65]⟩, .string ⟨#[66]⟩, .string ⟨#[67]⟩, .string ⟨#[68]⟩] 9)) W → Calls Tryz.prog 30 #[.int .i64 7, .slice (some ⟨w.heap.size, 0, none⟩) 4 4] W fun e w' => e = .returned (.tuple #[.string ⟨#[91, 94, 68, 93]⟩, .int .i64 0]) ∧ Below W.heap.size W w') := Lib.hid fun W hb => by
    have := Print_anyK (some ⟨w.heap.size, 0, none⟩) exN 4 7 (by decide) hz W ((hG.below A0).below hb) ((exN_at r0).below hb)
    rw [show strV (printV exN 7) = .string ⟨#[91, 94, 68, 93]⟩ from congrArg Value.string exN_7.1, exN_7.2] at this
    exact this
  have KP : Hid (∀ W, Below (w.alloc (.cells #[.string ⟨#[65]⟩, .string ⟨#[66]⟩, .string ⟨#[67]⟩, .string ⟨#[68]⟩] 9)).heap.size (w.alloc (.cells #[.string ⟨#[65]⟩, .string ⟨#[66]⟩, .string ⟨#[67]⟩, .string ⟨#[68]⟩] 9)) W → Calls Tryz.prog 32 #[.string ⟨#[91, 94, 68, 32, 65, 93]⟩, .slice (some ⟨w.heap.size, 0, none⟩) 4 4] W fun e w' => e = .returned (.tuple #[.int .i64 6, .int .i64 0]) ∧ Below W.heap.size W w') := Lib.hid fun W hb => by
    have := Parse_anyK (some ⟨w.heap.size, 0, none⟩) exN 4 ⟨#[91, 94, 68, 32, 65, 93]⟩ (by decide) (by decide) hz W ((hG.below A0).below hb) ((exN_at r0).below hb)
    rw [show (⟨#[91, 94, 68, 32, 65, 93]⟩ : ByteArray).data.toList = [91, 94, 68, 32, 65, 93] from rfl, exN_p.1, exN_p.2] at this
    exact this
  have KQ : Hid (∀ W, Below (w.alloc (.cells #[.string ⟨#[65]⟩, .string ⟨#[66]⟩, .string ⟨#[67]⟩, .string ⟨#[68]⟩] 9)).heap.size (w.alloc (.cells #[.string ⟨#[65]⟩, .string ⟨#[66]⟩, .string ⟨#[67]⟩, .string ⟨#[68]⟩] 9)) W → Calls Tryz.prog 32 #[.string ⟨#[91, 65, 32, 65, 93]⟩, .slice (some ⟨w.heap.size, 0, none⟩) 4 4] W fun e w' => e = .returned (.tuple #[.int .i64 0, .int .i64 70]) ∧ Below W.heap.size W w') := Lib.hid fun W hb => by
    have := Parse_anyK (some ⟨w.heap.size, 0, none⟩) exN 4 ⟨#[91, 65, 32, 65, 93]⟩ (by decide) (by decide) hz W ((hG.below A0).below hb) ((exN_at r0).below hb)
    rw [show (⟨#[91, 65, 32, 65, 93]⟩ : ByteArray).data.toList = [91, 65, 32, 65, 93] from rfl, exN_q.1, exN_q.2] at this
    exact this
  have KO : Hid (∀ W, KGlob W → Calls Tryz.prog 18 #[.slice (some ⟨W.heap.size, 0, none⟩) 3 3] (W.alloc (.cells #[.int .i64 2, .int .i64 0, .int .i64 2] 3)) fun e w' => e = .returned (.tuple #[.int .i64 5, .int .i64 0]) ∧ Below W.heap.size W w') := Lib.hid fun W hg => by
    have hb : Below W.heap.size W (W.alloc (.cells #[.int .i64 2, .int .i64 0, .int .i64 2] 3)) := (Below.refl _ _).alloc (Nat.le_refl _) _
    have := Of_anyK (some ⟨W.heap.size, 0, none⟩) [2, 0, 2] 3 (by decide) (by decide) (W.alloc (.cells #[.int .i64 2, .int .i64 0, .int .i64 2] 3)) (hg.below hb) (exL_at (heap_alloc_new _ _))
    rw [exO.1, exO.2] at this
    exact this.mono fun e w' h => ⟨h.1, hb.trans (h.2.mono hb.size)⟩
  have KH : Hid (∀ W, Calls Tryz.prog 22 #[.int .i64 5, .int .i64 2] W fun e w' => e = .returned (.bool true) ∧ Below W.heap.size W w') := Lib.hid fun W => by
    have := Has_anyK 5 2 W
    rw [exH] at this
    exact this
  have KT : Hid (∀ W, Calls Tryz.prog 27 #[.int .i64 5, .int .i64 4] W fun e w' => e = .returned (.int .i64 10) ∧ Below W.heap.size W w') := Lib.hid fun W => by
    have := Not_anyK 5 4 W
    rw [exT] at this
    exact this
  clear A0 r0 hz hG
  go_enter Tryz.func17, Tryz.ntmps17
  go_wp2_with fail
  refine (K5.out _ (Below.refl _ _)).mono ?_
  rintro e w1 ⟨rfl, b1⟩
  have B1 := Lib.hid b1
  clear b1 K5
  go_wp2_with fail
  refine (K7.out _ B1.out).mono ?_
  rintro e w2 ⟨rfl, b2⟩
  have B2 := Lib.hid (B1.out.trans (b2.mono B1.out.size))
  clear b2 B1 K7
  go_wp2_with fail
  refine (KP.out _ B2.out).mono ?_
  rintro e w3 ⟨rfl, b3⟩
  have B3 := Lib.hid (B2.out.trans (b3.mono B2.out.size))
  clear b3 B2 KP
  go_wp2_with fail
  refine (KQ.out _ B3.out).mono ?_
  rintro e w4 ⟨rfl, b4⟩
  have B4 := Lib.hid (B3.out.trans (b4.mono B3.out.size))
  clear b4 B3 KQ
  have B4w := Lib.hid (HA0.out.trans (B4.out.mono HA0.out.size))
  have HG4 := Lib.hid (HG.out.below B4w.out)
  go_wp2_with fail
  refine (KO.out _ HG4.out).mono ?_
  rintro e w5 ⟨rfl, b5⟩
  have B5 := Lib.hid (B4w.out.trans (b5.mono B4w.out.size))
  clear b5 B4 B4w KO HG4
  go_wp2_with fail
  refine (KH.out _).mono ?_
  rintro e w6 ⟨rfl, b6⟩
  have B6 := Lib.hid (B5.out.trans (b6.mono B5.out.size))
  clear b6 B5 KH
  go_wp2_with fail
  refine (KT.out _).mono ?_
  rintro e w7 ⟨rfl, b7⟩
  have B7 := Lib.hid (B6.out.trans (b7.mono B6.out.size))
  clear b7 B6 KT
  go_wp2
  go_ret
  exact ⟨rfl, B7.out⟩
end Go.Proofs.YtnpbbmoknlbfaaaGreatDoor
