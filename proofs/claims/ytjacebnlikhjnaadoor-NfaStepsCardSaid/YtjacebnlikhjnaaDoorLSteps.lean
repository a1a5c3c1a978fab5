/- NfaSteps: first states, steps, whether all has fitted, are the document's. Printed by genruns.py. -/
import Derived.Test.YtjacebnlikhjnaaDoorBunA18
import Derived.Deep.RegionHeld3
namespace Go.Proofs.YtjacebnlikhjnaaDoor
open Go.RowKit Go.Shelf Go.Maps
attribute [local go_sem] Oper.semAt_some

set_option maxRecDepth 100000 in
set_option maxHeartbeats 4000000 in
theorem steps_walk (st : Bool) (o : Option Addr) (n0 n cap : Nat) (s c fz nf sz ns mz : Int) (d : Bool) (w : World)
    (hSH : ∀ W, Below w.heap.size w W → Calls Tryd.prog 8 #[] W fun e w' => e = .returned (.bool true) ∧ Below W.heap.size W w')
    (hCUT : ∀ W, Calls Tryd.prog 9 #[patV st o n0 cap] W fun e w' => e = .returned (patV st o n cap) ∧ Below W.heap.size W w')
    (hFI : ∀ W, Below w.heap.size w W → Calls Tryd.prog 10 #[patV st o n cap] W fun e w' => e = .returned (.tuple #[.int .i64 fz, .int .i64 nf]) ∧ Below W.heap.size W w')
    (hRFI : ∀ W, Below w.heap.size w W → Calls Tryd.prog 11 #[patV st o n cap] W fun e w' => e = .returned (.tuple #[.int .i64 fz, .int .i64 nf]) ∧ Below W.heap.size W w')
    (hST : ∀ W, Below w.heap.size w W → Calls Tryd.prog 12 #[patV st o n cap, .int .i64 s, .int .i64 c] W fun e w' => e = .returned (.tuple #[.int .i64 sz, .int .i64 ns]) ∧ Below W.heap.size W w')
    (hRST : ∀ W, Below w.heap.size w W → Calls Tryd.prog 13 #[patV st o n cap, .int .i64 s, .int .i64 c] W fun e w' => e = .returned (.tuple #[.int .i64 sz, .int .i64 ns]) ∧ Below W.heap.size W w')
    (hDO : ∀ W, Below w.heap.size w W → Calls Tryd.prog 14 #[patV st o n cap, .int .i64 s] W fun e w' => e = .returned (.bool d) ∧ Below W.heap.size W w')
    (hRDO : ∀ W, Below w.heap.size w W → Calls Tryd.prog 15 #[patV st o n cap, .int .i64 s] W fun e w' => e = .returned (.bool d) ∧ Below W.heap.size W w')
    (hMO : ∀ W, Below w.heap.size w W → Calls Tryd.prog 16 #[patV st o n cap] W fun e w' => e = .returned (.int .i64 mz) ∧ Below W.heap.size W w')
    (hRMO : ∀ W, Below w.heap.size w W → Calls Tryd.prog 17 #[patV st o n cap] W fun e w' => e = .returned (.int .i64 mz) ∧ Below W.heap.size W w') :
    Calls Tryd.prog 3 #[patV st o n0 cap, .int .i64 s, .int .i64 c] w fun e w' => e = .returned (.bool true) ∧ Below w.heap.size w w' := by
  have HCUT := Lib.hid hCUT
  have HFI := Lib.hid hFI
  have HRFI := Lib.hid hRFI
  have HST := Lib.hid hST
  have HRST := Lib.hid hRST
  have HDO := Lib.hid hDO
  have HRDO := Lib.hid hRDO
  have HMO := Lib.hid hMO
  have HRMO := Lib.hid hRMO
  obtain ⟨w1, hw1⟩ : ∃ w1, w.alloc (patO st o n0 cap) = w1 := ⟨_, rfl⟩
  have b1 : Below w.heap.size w w1 := by rw [← hw1]; exact (Below.refl _ _).alloc (Nat.le_refl _) _
  have r1 : w1.heap[w.heap.size]? = some (patO st o n0 cap) := by rw [← hw1]; exact heap_alloc_new _ _
  have HSH := Lib.hid (hSH w1 b1)
  have HW1 := Lib.hid hw1
  have HB1 := Lib.hid b1
  have HR1 := Lib.hid r1
  have hlt1 : w.heap.size < w1.heap.size := (Array.getElem?_eq_some_iff.1 r1).1
  clear hw1 b1 r1 hSH hCUT hFI hRFI hST hRST hDO hRDO hMO hRMO
  go_enter Tryd.func3, Tryd.ntmps3
  go_wp2_with fail
  rw [HW1.out]
  refine HSH.out.mono ?_
  rintro e W2 ⟨rfl, b2⟩
  obtain ⟨p0, p1⟩ := pat_cellsH (row_below HR1.out b2)
  have HR2 := Lib.hid (row_below HR1.out b2)
  have HB2 := Lib.hid (HB1.out.trans (b2.mono HB1.out.size))
  clear b2
  go_wp2_with fail
  refine (HCUT.out _).mono ?_
  rintro e W3 ⟨rfl, b3⟩
  have hr3 := row_below HR2.out b3
  obtain ⟨q0, q1⟩ := pat_cellsH hr3
  have f0 := frozen_of_row W3 w.heap.size 0 _ _ hr3
  have f1 := frozen_of_row W3 w.heap.size 1 _ _ hr3
  obtain ⟨r4, m4⟩ := two_setH (.bool st) (.slice o n cap) hr3
  obtain ⟨w4, hw4⟩ : ∃ w4, (W3.setCell ⟨w.heap.size, 0, none⟩ (.bool st)).setCell ⟨w.heap.size, 1, none⟩ (.slice o n cap) = w4 := ⟨_, rfl⟩
  rw [hw4] at r4 m4
  have HB4 := Lib.hid (Moves.below (HB2.out.trans (b3.mono HB2.out.size)) (by have := HB2.out.size; have := b3.size; omega) m4 (fun k hk => by omega))
  have HR4 := Lib.hid r4
  have HW4 := Lib.hid hw4
  have HC4 := Lib.hid (HFI.out w4 HB4.out)
  clear p0 p1 b3 m4 hw4 hr3 r4
  go_wp2_with fail
  rw [HW4.out]
  refine HC4.out.mono ?_
  clear q0 q1 f0 f1
  rintro e w5 ⟨rfl, b5⟩
  have HB5 := Lib.hid (HB4.out.trans (b5.mono HB4.out.size))
  have HR5 := Lib.hid (row_below HR4.out b5)
  obtain ⟨s0, s1⟩ := pat_cellsH HR5.out
  have HC5 := Lib.hid (HRFI.out w5 HB5.out)
  clear b5
  go_wp2_with fail
  refine HC5.out.mono ?_
  clear s0 s1
  rintro e w6 ⟨rfl, b6⟩
  have HB6 := Lib.hid (HB5.out.trans (b6.mono HB5.out.size))
  have HR6 := Lib.hid (row_below HR5.out b6)
  obtain ⟨s0, s1⟩ := pat_cellsH HR6.out
  have HC6 := Lib.hid (HST.out w6 HB6.out)
  clear b6
  go_wp2_with fail
  refine HC6.out.mono ?_
  clear s0 s1
  rintro e w7 ⟨rfl, b7⟩
  have HB7 := Lib.hid (HB6.out.trans (b7.mono HB6.out.size))
  have HR7 := Lib.hid (row_below HR6.out b7)
  obtain ⟨s0, s1⟩ := pat_cellsH HR7.out
  have HC7 := Lib.hid (HRST.out w7 HB7.out)
  clear b7
  go_wp2_with fail
  refine HC7.out.mono ?_
  clear s0 s1
  rintro e w8 ⟨rfl, b8⟩
  have HB8 := Lib.hid (HB7.out.trans (b8.mono HB7.out.size))
  have HR8 := Lib.hid (row_below HR7.out b8)
  obtain ⟨s0, s1⟩ := pat_cellsH HR8.out
  clear b8
  have K1 : Hid (∀ W, (W.cell? ⟨w.heap.size, 0, none⟩ = some (.bool st) ∧ W.cell? ⟨w.heap.size, 1, none⟩ = some (.slice o n cap) ∧ Below w8.heap.size w8 W) → Calls Tryd.prog 14 #[patV st o n cap, .int .i64 s] W fun e w' => e = .returned (.bool d) ∧ (w'.cell? ⟨w.heap.size, 0, none⟩ = some (.bool st) ∧ w'.cell? ⟨w.heap.size, 1, none⟩ = some (.slice o n cap) ∧ Below w8.heap.size w8 w')) := Lib.hid fun W hs => (HDO.out W (HB8.out.trans (hs.2.2.mono HB8.out.size))).mono (by
    rintro e w' ⟨rfl, b⟩
    have bb := hs.2.2.trans (b.mono hs.2.2.size)
    exact ⟨rfl, (pat_cellsH (row_below HR8.out bb)).1, (pat_cellsH (row_below HR8.out bb)).2, bb⟩)
  have K2 : Hid (∀ W, (W.cell? ⟨w.heap.size, 0, none⟩ = some (.bool st) ∧ W.cell? ⟨w.heap.size, 1, none⟩ = some (.slice o n cap) ∧ Below w8.heap.size w8 W) → Calls Tryd.prog 15 #[patV st o n cap, .int .i64 s] W fun e w' => e = .returned (.bool d) ∧ (w'.cell? ⟨w.heap.size, 0, none⟩ = some (.bool st) ∧ w'.cell? ⟨w.heap.size, 1, none⟩ = some (.slice o n cap) ∧ Below w8.heap.size w8 w')) := Lib.hid fun W hs => (HRDO.out W (HB8.out.trans (hs.2.2.mono HB8.out.size))).mono (by
    rintro e w' ⟨rfl, b⟩
    have bb := hs.2.2.trans (b.mono hs.2.2.size)
    exact ⟨rfl, (pat_cellsH (row_below HR8.out bb)).1, (pat_cellsH (row_below HR8.out bb)).2, bb⟩)
  have K3 : Hid (∀ W, (W.cell? ⟨w.heap.size, 0, none⟩ = some (.bool st) ∧ W.cell? ⟨w.heap.size, 1, none⟩ = some (.slice o n cap) ∧ Below w8.heap.size w8 W) → Calls Tryd.prog 16 #[patV st o n cap] W fun e w' => e = .returned (.int .i64 mz) ∧ (w'.cell? ⟨w.heap.size, 0, none⟩ = some (.bool st) ∧ w'.cell? ⟨w.heap.size, 1, none⟩ = some (.slice o n cap) ∧ Below w8.heap.size w8 w')) := Lib.hid fun W hs => (HMO.out W (HB8.out.trans (hs.2.2.mono HB8.out.size))).mono (by
    rintro e w' ⟨rfl, b⟩
    have bb := hs.2.2.trans (b.mono hs.2.2.size)
    exact ⟨rfl, (pat_cellsH (row_below HR8.out bb)).1, (pat_cellsH (row_below HR8.out bb)).2, bb⟩)
  have K4 : Hid (∀ W, (W.cell? ⟨w.heap.size, 0, none⟩ = some (.bool st) ∧ W.cell? ⟨w.heap.size, 1, none⟩ = some (.slice o n cap) ∧ Below w8.heap.size w8 W) → Calls Tryd.prog 17 #[patV st o n cap] W fun e w' => e = .returned (.int .i64 mz) ∧ (w'.cell? ⟨w.heap.size, 0, none⟩ = some (.bool st) ∧ w'.cell? ⟨w.heap.size, 1, none⟩ = some (.slice o n cap) ∧ Below w8.heap.size w8 w')) := Lib.hid fun W hs => (HRMO.out W (HB8.out.trans (hs.2.2.mono HB8.out.size))).mono (by
    rintro e w' ⟨rfl, b⟩
    have bb := hs.2.2.trans (b.mono hs.2.2.size)
    exact ⟨rfl, (pat_cellsH (row_below HR8.out bb)).1, (pat_cellsH (row_below HR8.out bb)).2, bb⟩)
  have HD : Below w8.heap.size w8 w8.drew := (Below.refl _ _).drew
  go_wp2_with fail
  go_region_held3 (fun W => W.cell? ⟨w.heap.size, 0, none⟩ = some (.bool st) ∧ W.cell? ⟨w.heap.size, 1, none⟩ = some (.slice o n cap) ∧ Below w8.heap.size w8 W) (first | assumption | exact HD | go_keep) (first | (go_at_call 14; refine (K1.out _ (by first | assumption | exact ⟨s0, s1, HD⟩ | exact hg)).mono ?_; rintro e w' ⟨rfl, hg⟩) | (go_at_call 15; refine (K2.out _ (by first | assumption | exact ⟨s0, s1, HD⟩ | exact hg)).mono ?_; rintro e w' ⟨rfl, hg⟩) | (go_at_call 16; refine (K3.out _ (by first | assumption | exact ⟨s0, s1, HD⟩ | exact hg)).mono ?_; rintro e w' ⟨rfl, hg⟩) | (go_at_call 17; refine (K4.out _ (by first | assumption | exact ⟨s0, s1, HD⟩ | exact hg)).mono ?_; rintro e w' ⟨rfl, hg⟩))
  have HB9 := Lib.hid (HB8.out.trans (hg.2.2.mono HB8.out.size))
  clear hg
  go_wp2_with fail
  go_ret
  exact ⟨by simp, HB9.out⟩
theorem nfaSteps_anyL (st : Bool) (xs : List ItemP) (o : Option Addr) (cap : Nat) (s c : Int) (L : xs.length ≤ cap) (w : World) (aP aS : Addr) (hQ : GlobH w aP aS) (A : ItsInQ w o xs) :
    Calls Tryd.prog 3 #[patV st o xs.length cap, .int .i64 s, .int .i64 c] w fun e w' => e = .returned (.bool true) ∧ Below w.heap.size w w' := by
  have hA := A.1.take 12
  have h12 : (xs.take 12).length ≤ 12 := by rw [List.length_take]; omega
  refine steps_walk st o xs.length _ cap s c (firstA (xs.take 12)) (numA (rightB (xs.take 12) 32)) (stepA st (xs.take 12) s c) (numA (knowA (xs.take 12) s)) (mostA (xs.take 12)) (knowA (xs.take 12) s && doneS (xs.take 12) s.toNat) w
    (fun W hb => shown_any W aP aS (hQ.below hb)) (fun W => cutH_any st o xs cap L W) ?_ (fun W hb => refFirst_any st o _ cap (by omega) W (hA.below hb)) (fun W hb => Step_anyH st o _ cap s c (by omega) W aP aS (hQ.below hb) (hA.below hb)) (fun W hb => refStep_any st o _ cap s c (by omega) W (hA.below hb)) (fun W hb => Done_anyH st o _ cap s (by omega) W aP aS (hQ.below hb) (hA.below hb)) (fun W hb => refDone_any st o _ cap s (by omega) W (hA.below hb)) ?_ (fun W hb => refMost_any st o _ cap (by omega) W (hA.below hb))
  · intro W hb
    unfold firstA numA
    cases hr : rightB (xs.take 12) 32 with
    | true => exact First_right st o _ cap hr W aP aS (hQ.below hb) (hA.below hb)
    | false => exact First_wrong st o _ cap (by omega) hr W aP aS (hQ.below hb) (hA.below hb)
  · intro W hb
    unfold mostA
    cases hr : rightB (xs.take 12) 32 with
    | true => exact Most_right st o _ cap hr W (hA.below hb)
    | false => exact Most_wrong st o _ cap (by omega) hr W aP aS (hQ.below hb) (hA.below hb)
end Go.Proofs.YtjacebnlikhjnaaDoor
