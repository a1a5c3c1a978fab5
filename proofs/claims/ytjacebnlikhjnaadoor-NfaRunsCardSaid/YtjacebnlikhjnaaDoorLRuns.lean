/- NfaRuns: the states behind each class are the document's, and so is whether they are done. Printed by genruns.py. -/
import Derived.Test.YtjacebnlikhjnaaDoorBunA18
namespace Go.Proofs.YtjacebnlikhjnaaDoor
open Go.RowKit Go.Shelf Go.Maps
attribute [local go_sem] Oper.semAt_some

set_option maxRecDepth 100000 in
set_option maxHeartbeats 4000000 in
theorem runs_walk (st : Bool) (o lo : Option Addr) (n0 n k0 k cap lcap kk : Nat) (num : Int) (la : List Int) (lb : List Bool) (w : World)
    (hSH : ∀ W, Below w.heap.size w W → Calls Tryd.prog 8 #[] W fun e w' => e = .returned (.bool true) ∧ Below W.heap.size W w')
    (hCUT : ∀ W, Calls Tryd.prog 9 #[patV st o n0 cap] W fun e w' => e = .returned (patV st o n cap) ∧ Below W.heap.size W w')
    (hFEW : ∀ W, Calls Tryd.prog 18 #[.slice lo k0 lcap] W fun e w' => e = .returned (.slice lo k lcap) ∧ W = w')
    (hRUN : ∀ W, Below w.heap.size w W → Calls Tryd.prog 19 #[patV st o n cap, .slice lo k lcap] W fun e w' => ∃ o' cap', e = .returned (.tuple #[.slice o' kk cap', .int .i64 num]) ∧ NumsAt w' o' la ∧ Below W.heap.size W w')
    (hRRUN : ∀ W, Below w.heap.size w W → Calls Tryd.prog 20 #[patV st o n cap, .slice lo k lcap] W fun e w' => ∃ o' cap', e = .returned (.tuple #[.slice o' kk cap', .int .i64 num]) ∧ NumsAt w' o' la ∧ Below W.heap.size W w')
    (hFIT : ∀ W, Below w.heap.size w W → Calls Tryd.prog 21 #[patV st o n cap, .slice lo k lcap] W fun e w' => ∃ o' cap', e = .returned (.tuple #[.slice o' kk cap', .int .i64 num]) ∧ BolsAt w' o' lb ∧ Below W.heap.size W w')
    (hRFIT : ∀ W, Below w.heap.size w W → Calls Tryd.prog 22 #[patV st o n cap, .slice lo k lcap] W fun e w' => ∃ o' cap', e = .returned (.tuple #[.slice o' kk cap', .int .i64 num]) ∧ BolsAt w' o' lb ∧ Below W.heap.size W w')
    (hSET : ∀ o1 o2 c1 c2 W, NumsAt W o1 la → NumsAt W o2 la → Calls Tryd.prog 23 #[.slice o1 kk c1, .slice o2 kk c2] W fun e w' => e = .returned (.bool true) ∧ Below W.heap.size W w')
    (hBOL : ∀ o1 o2 c1 c2 W, BolsAt W o1 lb → BolsAt W o2 lb → Calls Tryd.prog 24 #[.slice o1 kk c1, .slice o2 kk c2] W fun e w' => e = .returned (.bool true) ∧ Below W.heap.size W w') :
    Calls Tryd.prog 4 #[patV st o n0 cap, .slice lo k0 lcap] w fun e w' => e = .returned (.bool true) ∧ Below w.heap.size w w' := by
  have HCUT := Lib.hid hCUT
  have HFEW := Lib.hid hFEW
  have HRUN := Lib.hid hRUN
  have HRRUN := Lib.hid hRRUN
  have HFIT := Lib.hid hFIT
  have HRFIT := Lib.hid hRFIT
  have HSET := Lib.hid hSET
  have HBOL := Lib.hid hBOL
  obtain ⟨w1, hw1⟩ : ∃ w1, w.alloc (patO st o n0 cap) = w1 := ⟨_, rfl⟩
  have b1 : Below w.heap.size w w1 := by rw [← hw1]; exact (Below.refl _ _).alloc (Nat.le_refl _) _
  have r1 : w1.heap[w.heap.size]? = some (patO st o n0 cap) := by rw [← hw1]; exact heap_alloc_new _ _
  have HSH := Lib.hid (hSH w1 b1)
  have HW1 := Lib.hid hw1
  have HB1 := Lib.hid b1
  have HR1 := Lib.hid r1
  have hlt1 : w.heap.size < w1.heap.size := (Array.getElem?_eq_some_iff.1 r1).1
  clear hw1 b1 r1 hSH hCUT hFEW hRUN hRRUN hFIT hRFIT hSET hBOL
  go_enter Tryd.func4, Tryd.ntmps4
  go_wp2_with fail
  rw [HW1.out]
  refine HSH.out.mono ?_
  rintro e W2 ⟨rfl, b2⟩
  obtain ⟨p0, p1⟩ := pat_cellsH (row_below HR1.out b2)
  have HR2 := Lib.hid (row_below HR1.out b2)
  have HB2 := Lib.hid (HB1.out.trans (b2.mono HB1.out.size))
  clear b2
  go_wp2_with fail
  refine (HCUT.out _).mono ?_
  rintro e W3 ⟨rfl, b3⟩
  have hr3 := row_below HR2.out b3
  obtain ⟨q0, q1⟩ := pat_cellsH hr3
  have f0 := frozen_of_row W3 w.heap.size 0 _ _ hr3
  have f1 := frozen_of_row W3 w.heap.size 1 _ _ hr3
  obtain ⟨r4, m4⟩ := two_setH (.bool st) (.slice o n cap) hr3
  obtain ⟨w4, hw4⟩ : ∃ w4, (W3.setCell ⟨w.heap.size, 0, none⟩ (.bool st)).setCell ⟨w.heap.size, 1, none⟩ (.slice o n cap) = w4 := ⟨_, rfl⟩
  rw [hw4] at r4 m4
  have HB4 := Lib.hid (Moves.below (HB2.out.trans (b3.mono HB2.out.size)) (by have := HB2.out.size; have := b3.size; omega) m4 (fun k hk => by omega))
  have HR4 := Lib.hid r4
  have HW4 := Lib.hid hw4
  have HC4 := Lib.hid (HRUN.out w4 HB4.out)
  obtain ⟨s0, s1⟩ := pat_cellsH r4
  clear p0 p1 b3 m4 hw4 hr3 r4
  go_wp2_with fail
  rw [HW4.out]
  refine (HFEW.out _).mono ?_
  rintro e _ ⟨rfl, rfl⟩
  clear q0 q1 f0 f1
  go_wp2_with fail
  refine HC4.out.mono ?_
  rintro e w5 ⟨o5, c5, rfl, hrow, b5⟩
  have HB5 := Lib.hid (HB4.out.trans (b5.mono HB4.out.size))
  have HR5 := Lib.hid (row_below HR4.out b5)
  have HX5 := Lib.hid hrow
  obtain ⟨s0, s1⟩ := pat_cellsH HR5.out
  have HC5 := Lib.hid (HRRUN.out w5 HB5.out)
  clear b5 hrow
  go_wp2_with fail
  refine HC5.out.mono ?_
  rintro e w6 ⟨o6, c6, rfl, hrow, b6⟩
  have HB6 := Lib.hid (HB5.out.trans (b6.mono HB5.out.size))
  have HR6 := Lib.hid (row_below HR5.out b6)
  have HX6 := Lib.hid hrow
  have HX5 := Lib.hid (HX5.out.below b6)
  obtain ⟨s0, s1⟩ := pat_cellsH HR6.out
  have HC6 := Lib.hid (HFIT.out w6 HB6.out)
  clear b6 hrow
  go_wp2_with fail
  refine HC6.out.mono ?_
  rintro e w7 ⟨o7, c7, rfl, hrow, b7⟩
  have HB7 := Lib.hid (HB6.out.trans (b7.mono HB6.out.size))
  have HR7 := Lib.hid (row_below HR6.out b7)
  have HX7 := Lib.hid hrow
  have HX5 := Lib.hid (HX5.out.below b7)
  have HX6 := Lib.hid (HX6.out.below b7)
  obtain ⟨s0, s1⟩ := pat_cellsH HR7.out
  have HC7 := Lib.hid (HRFIT.out w7 HB7.out)
  clear b7 hrow
  go_wp2_with fail
  refine HC7.out.mono ?_
  rintro e w8 ⟨o8, c8, rfl, hrow, b8⟩
  have HB8 := Lib.hid (HB7.out.trans (b8.mono HB7.out.size))
  have HR8 := Lib.hid (row_below HR7.out b8)
  have HX8 := Lib.hid hrow
  have HX5 := Lib.hid (HX5.out.below b8)
  have HX6 := Lib.hid (HX6.out.below b8)
  have HX7 := Lib.hid (HX7.out.below b8)
  have HC8 := Lib.hid (HSET.out o5 o6 c5 c6 w8 HX5.out HX6.out)
  clear b8 hrow
  go_wp2_with fail
  refine HC8.out.mono ?_
  rintro e w9 ⟨rfl, b9⟩
  have HB9 := Lib.hid (HB8.out.trans (b9.mono HB8.out.size))
  have HC9 := Lib.hid (HBOL.out o7 o8 c7 c8 w9 (HX7.out.below b9) (HX8.out.below b9))
  clear b9
  go_wp2_with fail
  refine HC9.out.mono ?_
  rintro e w10 ⟨rfl, b10⟩
  have HB10 := Lib.hid (HB9.out.trans (b10.mono HB9.out.size))
  clear b10
  go_wp2_with fail
  go_ret
  exact ⟨rfl, HB10.out⟩
theorem nfaRuns_anyL (st : Bool) (xs : List ItemP) (o : Option Addr) (cap : Nat) (l : List Int) (lo : Option Addr) (lcap : Nat) (L : xs.length ≤ cap) (hlc : l.length ≤ lcap) (w : World) (aP aS : Addr) (hQ : GlobH w aP aS) (A : ItsInQ w o xs) (hL : NumsInQ w lo l ∧ (lo = none → lcap = 0) ∧ ∀ p, lo = some p → 0 < lcap → p.spot = none) :
    Calls Tryd.prog 4 #[patV st o xs.length cap, .slice lo l.length lcap] w fun e w' => e = .returned (.bool true) ∧ Below w.heap.size w w' := by
  have hA := A.1.take 12
  have h12 : (xs.take 12).length ≤ 12 := by rw [List.length_take]; omega
  have h40 : (l.take 40).length ≤ 40 := by rw [List.length_take]; omega
  have hN : NumsAt w lo (l.take 40) := fun hn => by
    obtain ⟨g, off, ho, hc⟩ := hL.1.1 (by rw [List.length_take] at hn; omega)
    refine ⟨g, off, ho, fun j x hx => hc j x ?_⟩
    rw [List.getElem?_take] at hx
    split at hx
    · exact hx
    · cases hx
  have hSH := fun W (hb : Below w.heap.size w W) => shown_any W aP aS (hQ.below hb)
  have hCUT := fun W => cutH_any st o xs cap L W
  have hFEW := fun W => fewH_any lo l lcap hlc W
  cases hr : rightB (xs.take 12) 32 with
  | true =>
    have hrl : (runsS (xs.take 12) st (l.take 40)).length = (l.take 40).length + 1 := by unfold runsS; simp
    have hnl : (natsZ (runsS (xs.take 12) st (l.take 40))).length = (l.take 40).length + 1 := by rw [List.length_map, hrl]
    refine runs_walk st o lo xs.length _ l.length _ cap lcap ((l.take 40).length + 1) 0 (natsZ (runsS (xs.take 12) st (l.take 40))) (fitsS (xs.take 12) st (l.take 40)) w hSH hCUT hFEW ?_ ?_ ?_ ?_ ?_ ?_
    · intro W hb
      refine (Run_right st o lo (xs.take 12) (l.take 40) cap lcap hr (by omega) W aP aS (hQ.below hb) (hA.below hb) (hN.below hb)).mono ?_
      rintro e w' ⟨o', c', rfl, hown, b⟩
      exact ⟨o', c', rfl, nums_ownH (by rw [hrl]; exact hown), b⟩
    · intro W hb
      refine (refRun_right st o lo (xs.take 12) (l.take 40) cap lcap hr (by omega) W (hA.below hb) (hN.below hb)).mono ?_
      rintro e w' ⟨o', c', rfl, hown, b⟩
      exact ⟨o', c', rfl, nums_ownH (by rw [hrl]; exact hown), b⟩
    · intro W hb
      refine (Fits_right st o lo (xs.take 12) (l.take 40) cap lcap hr (by omega) W aP aS (hQ.below hb) (hA.below hb) (hN.below hb)).mono ?_
      rintro e w' ⟨o', c', rfl, hown, b⟩
      exact ⟨o', c', rfl, fitsS_own hown, b⟩
    · intro W hb
      refine (refFitsH_right st o lo (xs.take 12) (l.take 40) cap lcap hr (by omega) W (hA.below hb) (hN.below hb)).mono ?_
      rintro e w' ⟨o', c', rfl, hown, b⟩
      exact ⟨o', c', rfl, fitsS_own hown, b⟩
    · intro o1 o2 c1 c2 W h1 h2
      have := setsL_any o1 o2 _ _ c1 c2 (by rw [hnl]; omega) W h1 h2
      rw [hnl] at this
      simpa using this
    · intro o1 o2 c1 c2 W h1 h2
      have := bolsL_any o1 o2 _ _ c1 c2 (by rw [fitsS_len]; omega) W h1 h2
      rw [fitsS_len] at this
      simpa using this
  | false =>
    have nN : ∀ W, NumsAt W none [] := fun W h => absurd h (Nat.lt_irrefl _)
    have nB : ∀ W, BolsAt W none [] := fun W h => absurd h (Nat.lt_irrefl _)
    refine runs_walk st o lo xs.length _ l.length _ cap lcap 0 80 [] [] w hSH hCUT hFEW ?_ ?_ ?_ ?_ ?_ ?_
    · intro W hb
      refine (Run_wrong st o lo (xs.take 12) (l.take 40) cap lcap (by omega) hr W aP aS (hQ.below hb) (hA.below hb)).mono ?_
      rintro e w' ⟨rfl, b⟩
      exact ⟨none, 0, rfl, nN _, b⟩
    · intro W hb
      refine (refRun_wrong st o lo (xs.take 12) _ cap lcap (by omega) hr W (hA.below hb)).mono ?_
      rintro e w' ⟨rfl, b⟩
      exact ⟨none, 0, rfl, nN _, b⟩
    · intro W hb
      refine (Fits_wrong st o lo (xs.take 12) (l.take 40) cap lcap (by omega) hr W aP aS (hQ.below hb) (hA.below hb)).mono ?_
      rintro e w' ⟨rfl, b⟩
      exact ⟨none, 0, rfl, nB _, b⟩
    · intro W hb
      refine (refFitsH_wrong st o lo (xs.take 12) _ cap lcap (by omega) hr W (hA.below hb)).mono ?_
      rintro e w' ⟨rfl, b⟩
      exact ⟨none, 0, rfl, nB _, b⟩
    · intro o1 o2 c1 c2 W h1 h2
      have := setsL_any o1 o2 [] [] c1 c2 (by decide) W h1 h2
      simpa using this
    · intro o1 o2 c1 c2 W h1 h2
      have := bolsL_any o1 o2 [] [] c1 c2 (by decide) W h1 h2
      simpa using this
end Go.Proofs.YtjacebnlikhjnaaDoor
