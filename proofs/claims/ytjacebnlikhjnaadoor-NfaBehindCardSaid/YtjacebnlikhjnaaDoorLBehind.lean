/- NfaBehind: a set is done just where the pattern fits behind that place. Printed by genbehind.py. -/
import Derived.Test.YtjacebnlikhjnaaDoorBunA18
import Derived.Test.YtjacebnlikhjnaaDoorBunA17
import Derived.Deep.RegionHeld3
namespace Go.Proofs.YtjacebnlikhjnaaDoor
open Go.RowKit Go.Shelf Go.Maps
attribute [local go_sem] Oper.semAt_some

set_option maxRecDepth 100000 in
set_option maxHeartbeats 4000000 in
theorem behind_walk (st : Bool) (o lo : Option Addr) (n0 n k0 k cap lcap : Nat) (fs : List Bool) (w : World) (hfl : fs.length = k + 1) (hk40 : k ≤ 40)
    (hSH : ∀ W, Below w.heap.size w W → Calls Tryd.prog 8 #[] W fun e w' => e = .returned (.bool true) ∧ Below W.heap.size W w')
    (hCUT : ∀ W, Calls Tryd.prog 9 #[patV st o n0 cap] W fun e w' => e = .returned (patV st o n cap) ∧ Below W.heap.size W w')
    (hFEW : ∀ W, Calls Tryd.prog 18 #[.slice lo k0 lcap] W fun e w' => e = .returned (.slice lo k lcap) ∧ W = w')
    (hFIT : ∀ W, Below w.heap.size w W → Calls Tryd.prog 21 #[patV st o n cap, .slice lo k lcap] W fun e w' => ∃ o' cap', e = .returned (.tuple #[.slice o' (k + 1) cap', .int .i64 0]) ∧ BolsAt w' o' fs ∧ Below W.heap.size W w')
    (hBEH : ∀ (j : Nat) b, fs[j]? = some b → ∀ W, Below w.heap.size w W → Calls Tryd.prog 26 #[patV st o n cap, .slice lo k lcap, .int .i64 (j : Nat)] W fun e w' => e = .returned (.bool b) ∧ Below W.heap.size W w') :
    Calls Tryd.prog 5 #[patV st o n0 cap, .slice lo k0 lcap] w fun e w' => e = .returned (.bool true) ∧ Below w.heap.size w w' := by
  have HCUT := Lib.hid hCUT
  have HFEW := Lib.hid hFEW
  have HFIT := Lib.hid hFIT
  have HBEH := Lib.hid hBEH
  have HFL := Lib.hid hfl
  obtain ⟨w1, hw1⟩ : ∃ w1, w.alloc (patO st o n0 cap) = w1 := ⟨_, rfl⟩
  have b1 : Below w.heap.size w w1 := by rw [← hw1]; exact (Below.refl _ _).alloc (Nat.le_refl _) _
  have r1 : w1.heap[w.heap.size]? = some (patO st o n0 cap) := by rw [← hw1]; exact heap_alloc_new _ _
  have HSH := Lib.hid (hSH w1 b1)
  have HW1 := Lib.hid hw1
  have HB1 := Lib.hid b1
  have HR1 := Lib.hid r1
  have hlt1 : w.heap.size < w1.heap.size := (Array.getElem?_eq_some_iff.1 r1).1
  clear hw1 b1 r1 hSH hCUT hFEW hFIT hBEH hfl
  go_enter Tryd.func5, Tryd.ntmps5
  go_wp2_with fail
  rw [HW1.out]
  refine HSH.out.mono ?_
  rintro e W2 ⟨rfl, b2⟩
  obtain ⟨p0, p1⟩ := pat_cellsH (row_below HR1.out b2)
  have HR2 := Lib.hid (row_below HR1.out b2)
  have HB2 := Lib.hid (HB1.out.trans (b2.mono HB1.out.size))
  clear b2
  go_wp2_with fail
  refine (HCUT.out _).mono ?_
  rintro e W3 ⟨rfl, b3⟩
  have hr3 := row_below HR2.out b3
  obtain ⟨q0, q1⟩ := pat_cellsH hr3
  have f0 := frozen_of_row W3 w.heap.size 0 _ _ hr3
  have f1 := frozen_of_row W3 w.heap.size 1 _ _ hr3
  obtain ⟨r4, m4⟩ := two_setH (.bool st) (.slice o n cap) hr3
  obtain ⟨w4, hw4⟩ : ∃ w4, (W3.setCell ⟨w.heap.size, 0, none⟩ (.bool st)).setCell ⟨w.heap.size, 1, none⟩ (.slice o n cap) = w4 := ⟨_, rfl⟩
  rw [hw4] at r4 m4
  have HB4 := Lib.hid (Moves.below (HB2.out.trans (b3.mono HB2.out.size)) (by have := HB2.out.size; have := b3.size; omega) m4 (fun k hk => by omega))
  have HR4 := Lib.hid r4
  have HW4 := Lib.hid hw4
  have HC4 := Lib.hid (HFIT.out w4 HB4.out)
  obtain ⟨s0, s1⟩ := pat_cellsH r4
  clear p0 p1 b3 m4 hw4 hr3 r4
  go_wp2_with fail
  rw [HW4.out]
  refine (HFEW.out _).mono ?_
  rintro e _ ⟨rfl, rfl⟩
  clear q0 q1 f0 f1
  go_wp2_with fail
  refine HC4.out.mono ?_
  rintro e w5 ⟨o5, c5, rfl, hrow, b5⟩
  have HB5 := Lib.hid (HB4.out.trans (b5.mono HB4.out.size))
  have HR5 := Lib.hid (row_below HR4.out b5)
  have HROW5 := Lib.hid hrow
  clear b5 hrow s0 s1
  go_wp2_with fail
  go_loopg [8] (k + 1) (fun kk v wr => ∃ j : Nat, v = .int .i64 (j : Nat) ∧ j ≤ k + 1 ∧ kk = k + 1 - j ∧ Hid (Below w.heap.size w wr) ∧ Hid (wr.heap[w.heap.size]? = some (patO st o n cap)) ∧ Hid (BolsAt wr o5 fs))
  case atStart => exact ⟨0, rfl, Nat.zero_le _, rfl, HB5, HR5, HROW5⟩
  case round =>
    obtain ⟨j, rfl, hj, rfl, HB, HRW, HROW⟩ := hrel
    rcases Nat.lt_or_ge j (k + 1) with hlt | hge
    · have hj1 : j < 1000000 := by omega
      obtain ⟨x, hx⟩ : ∃ x, fs[j]? = some x := ⟨_, List.getElem?_eq_getElem (by rw [HFL.out]; exact hlt)⟩
      have HBJ : Hid (∀ W, Below wr.heap.size wr W → Calls Tryd.prog 26 #[patV st o n cap, .slice lo k lcap, .int .i64 (j : Nat)] W fun e w' => e = .returned (.bool x) ∧ Below W.heap.size W w') := Lib.hid fun W hb => HBEH.out j x hx W (HB.out.trans (hb.mono HB.out.size))
      obtain ⟨g, off, rfl, hc⟩ := HROW.out (by rw [HFL.out]; omega)
      have k0 := hc j x hx
      have HK0 := Lib.hid k0
      obtain ⟨p0, p1⟩ := pat_cellsH HRW.out
      clear hc hx
      cases x with
      | true =>
        have KB : Hid (∀ W, (W.cell? ⟨g, off + j, none⟩ = some (.bool true) ∧ W.cell? ⟨w.heap.size, 0, none⟩ = some (.bool st) ∧ W.cell? ⟨w.heap.size, 1, none⟩ = some (.slice o n cap) ∧ Below wr.heap.size wr W) → Calls Tryd.prog 26 #[patV st o n cap, .slice lo k lcap, .int .i64 (j : Nat)] W fun e w' => e = .returned (.bool true) ∧ (w'.cell? ⟨g, off + j, none⟩ = some (.bool true) ∧ w'.cell? ⟨w.heap.size, 0, none⟩ = some (.bool st) ∧ w'.cell? ⟨w.heap.size, 1, none⟩ = some (.slice o n cap) ∧ Below wr.heap.size wr w')) := Lib.hid fun W hs => (HBJ.out W hs.2.2.2).mono (by
          rintro e w' ⟨rfl, bw⟩
          have bb := hs.2.2.2.trans (bw.mono hs.2.2.2.size)
          have hk := (cell_keepQ bb HK0.out)
          exact ⟨rfl, hk, (pat_cellsH (row_below HRW.out bb)).1, (pat_cellsH (row_below HRW.out bb)).2, bb⟩)
        have HD : Below wr.heap.size wr wr.drew := (Below.refl _ _).drew
        go_wp2_with fail
        go_region_held3 (fun W => W.cell? ⟨g, off + j, none⟩ = some (.bool true) ∧ W.cell? ⟨w.heap.size, 0, none⟩ = some (.bool st) ∧ W.cell? ⟨w.heap.size, 1, none⟩ = some (.slice o n cap) ∧ Below wr.heap.size wr W) (first | assumption | exact HD | go_keep) (first | (go_at_call 26; refine (KB.out _ (by first | assumption | exact ⟨k0, p0, p1, HD⟩ | exact hg)).mono ?_; rintro e w' ⟨rfl, hg⟩))
        have HB9 := Lib.hid (HB.out.trans (hg.2.2.2.mono HB.out.size))
        have HRW9 := Lib.hid (row_below HRW.out hg.2.2.2)
        have HRO9 := Lib.hid (HROW.out.below hg.2.2.2)
        clear hg
        go_wp2_with fail
        go_roundg (k + 1 - (j + 1))
        case measure => omega
        case rel => exact ⟨j + 1, by simp, by omega, rfl, HB9, HRW9, HRO9⟩
      | false =>
        have KB : Hid (∀ W, (W.cell? ⟨g, off + j, none⟩ = some (.bool false) ∧ W.cell? ⟨w.heap.size, 0, none⟩ = some (.bool st) ∧ W.cell? ⟨w.heap.size, 1, none⟩ = some (.slice o n cap) ∧ Below wr.heap.size wr W) → Calls Tryd.prog 26 #[patV st o n cap, .slice lo k lcap, .int .i64 (j : Nat)] W fun e w' => e = .returned (.bool false) ∧ (w'.cell? ⟨g, off + j, none⟩ = some (.bool false) ∧ w'.cell? ⟨w.heap.size, 0, none⟩ = some (.bool st) ∧ w'.cell? ⟨w.heap.size, 1, none⟩ = some (.slice o n cap) ∧ Below wr.heap.size wr w')) := Lib.hid fun W hs => (HBJ.out W hs.2.2.2).mono (by
          rintro e w' ⟨rfl, bw⟩
          have bb := hs.2.2.2.trans (bw.mono hs.2.2.2.size)
          have hk := (cell_keepQ bb HK0.out)
          exact ⟨rfl, hk, (pat_cellsH (row_below HRW.out bb)).1, (pat_cellsH (row_below HRW.out bb)).2, bb⟩)
        have HD : Below wr.heap.size wr wr.drew := (Below.refl _ _).drew
        go_wp2_with fail
        go_region_held3 (fun W => W.cell? ⟨g, off + j, none⟩ = some (.bool false) ∧ W.cell? ⟨w.heap.size, 0, none⟩ = some (.bool st) ∧ W.cell? ⟨w.heap.size, 1, none⟩ = some (.slice o n cap) ∧ Below wr.heap.size wr W) (first | assumption | exact HD | go_keep) (first | (go_at_call 26; refine (KB.out _ (by first | assumption | exact ⟨k0, p0, p1, HD⟩ | exact hg)).mono ?_; rintro e w' ⟨rfl, hg⟩))
        have HB9 := Lib.hid (HB.out.trans (hg.2.2.2.mono HB.out.size))
        have HRW9 := Lib.hid (row_below HRW.out hg.2.2.2)
        have HRO9 := Lib.hid (HROW.out.below hg.2.2.2)
        clear hg
        go_wp2_with fail
        go_roundg (k + 1 - (j + 1))
        case measure => omega
        case rel => exact ⟨j + 1, by simp, by omega, rfl, HB9, HRW9, HRO9⟩
    · obtain rfl : j = k + 1 := by omega
      go_wp2_with fail
      go_ret
      exact ⟨rfl, HB.out⟩
set_option maxRecDepth 100000 in
set_option maxHeartbeats 4000000 in
theorem behind_wrong (st : Bool) (o lo : Option Addr) (n0 n k0 k cap lcap : Nat) (w : World)
    (hSH : ∀ W, Below w.heap.size w W → Calls Tryd.prog 8 #[] W fun e w' => e = .returned (.bool true) ∧ Below W.heap.size W w')
    (hCUT : ∀ W, Calls Tryd.prog 9 #[patV st o n0 cap] W fun e w' => e = .returned (patV st o n cap) ∧ Below W.heap.size W w')
    (hFEW : ∀ W, Calls Tryd.prog 18 #[.slice lo k0 lcap] W fun e w' => e = .returned (.slice lo k lcap) ∧ W = w')
    (hFIT : ∀ W, Below w.heap.size w W → Calls Tryd.prog 21 #[patV st o n cap, .slice lo k lcap] W fun e w' => e = .returned (.tuple #[.slice none 0 0, .int .i64 80]) ∧ Below W.heap.size W w')
    (hRIG : ∀ W, Below w.heap.size w W → Calls Tryd.prog 25 #[patV st o n cap, .int .i64 32] W fun e w' => e = .returned (.bool false) ∧ Below W.heap.size W w') :
    Calls Tryd.prog 5 #[patV st o n0 cap, .slice lo k0 lcap] w fun e w' => e = .returned (.bool true) ∧ Below w.heap.size w w' := by
  have HCUT := Lib.hid hCUT
  have HFEW := Lib.hid hFEW
  have HFIT := Lib.hid hFIT
  have HRIG := Lib.hid hRIG
  obtain ⟨w1, hw1⟩ : ∃ w1, w.alloc (patO st o n0 cap) = w1 := ⟨_, rfl⟩
  have b1 : Below w.heap.size w w1 := by rw [← hw1]; exact (Below.refl _ _).alloc (Nat.le_refl _) _
  have r1 : w1.heap[w.heap.size]? = some (patO st o n0 cap) := by rw [← hw1]; exact heap_alloc_new _ _
  have HSH := Lib.hid (hSH w1 b1)
  have HW1 := Lib.hid hw1
  have HB1 := Lib.hid b1
  have HR1 := Lib.hid r1
  have hlt1 : w.heap.size < w1.heap.size := (Array.getElem?_eq_some_iff.1 r1).1
  clear hw1 b1 r1 hSH hCUT hFEW hFIT hRIG
  go_enter Tryd.func5, Tryd.ntmps5
  go_wp2_with fail
  rw [HW1.out]
  refine HSH.out.mono ?_
  rintro e W2 ⟨rfl, b2⟩
  obtain ⟨p0, p1⟩ := pat_cellsH (row_below HR1.out b2)
  have HR2 := Lib.hid (row_below HR1.out b2)
  have HB2 := Lib.hid (HB1.out.trans (b2.mono HB1.out.size))
  clear b2
  go_wp2_with fail
  refine (HCUT.out _).mono ?_
  rintro e W3 ⟨rfl, b3⟩
  have hr3 := row_below HR2.out b3
  obtain ⟨q0, q1⟩ := pat_cellsH hr3
  have f0 := frozen_of_row W3 w.heap.size 0 _ _ hr3
  have f1 := frozen_of_row W3 w.heap.size 1 _ _ hr3
  obtain ⟨r4, m4⟩ := two_setH (.bool st) (.slice o n cap) hr3
  obtain ⟨w4, hw4⟩ : ∃ w4, (W3.setCell ⟨w.heap.size, 0, none⟩ (.bool st)).setCell ⟨w.heap.size, 1, none⟩ (.slice o n cap) = w4 := ⟨_, rfl⟩
  rw [hw4] at r4 m4
  have HB4 := Lib.hid (Moves.below (HB2.out.trans (b3.mono HB2.out.size)) (by have := HB2.out.size; have := b3.size; omega) m4 (fun k hk => by omega))
  have HR4 := Lib.hid r4
  have HW4 := Lib.hid hw4
  have HC4 := Lib.hid (HFIT.out w4 HB4.out)
  obtain ⟨s0, s1⟩ := pat_cellsH r4
  clear p0 p1 b3 m4 hw4 hr3 r4
  go_wp2_with fail
  rw [HW4.out]
  refine (HFEW.out _).mono ?_
  rintro e _ ⟨rfl, rfl⟩
  clear q0 q1 f0 f1
  go_wp2_with fail
  refine HC4.out.mono ?_
  rintro e w5 ⟨rfl, b5⟩
  have HB5 := Lib.hid (HB4.out.trans (b5.mono HB4.out.size))
  obtain ⟨t0, t1⟩ := pat_cellsH (row_below HR4.out b5)
  have HC5 := Lib.hid (HRIG.out w5 HB5.out)
  clear b5 s0 s1
  go_wp2_with fail
  refine HC5.out.mono ?_
  rintro e w6 ⟨rfl, b6⟩
  have HB6 := Lib.hid (HB5.out.trans (b6.mono HB5.out.size))
  clear b6 t0 t1
  go_wp2_with fail
  go_ret
  exact ⟨rfl, HB6.out⟩
theorem nfaBehind_anyL (st : Bool) (xs : List ItemP) (o : Option Addr) (cap : Nat) (l : List Int) (lo : Option Addr) (lcap : Nat) (L : xs.length ≤ cap) (hlc : l.length ≤ lcap) (w : World) (aP aS : Addr) (hQ : GlobH w aP aS) (A : ItsInQ w o xs) (hL : NumsInQ w lo l ∧ (lo = none → lcap = 0) ∧ ∀ p, lo = some p → 0 < lcap → p.spot = none) :
    Calls Tryd.prog 5 #[patV st o xs.length cap, .slice lo l.length lcap] w fun e w' => e = .returned (.bool true) ∧ Below w.heap.size w w' := by
  have hA := A.1.take 12
  have h12 : (xs.take 12).length ≤ 12 := by rw [List.length_take]; omega
  have h40 : (l.take 40).length ≤ 40 := by rw [List.length_take]; omega
  have h40c : (l.take 40).length ≤ lcap := by rw [List.length_take]; omega
  have hN : NumsAt w lo (l.take 40) := fun hn => by
    obtain ⟨g, off, ho, hc⟩ := hL.1.1 (by rw [List.length_take] at hn; omega)
    refine ⟨g, off, ho, fun j x hx => hc j x ?_⟩
    rw [List.getElem?_take] at hx
    split at hx
    · exact hx
    · cases hx
  have hSH := fun W (hb : Below w.heap.size w W) => shown_any W aP aS (hQ.below hb)
  have hCUT := fun W => cutH_any st o xs cap L W
  have hFEW := fun W => fewH_any lo l lcap hlc W
  cases hr : rightB (xs.take 12) 32 with
  | true =>
    refine behind_walk st o lo xs.length _ l.length _ cap lcap (fitsS (xs.take 12) st (l.take 40)) w (fitsS_len _ _ _) h40 hSH hCUT hFEW ?_ ?_
    · intro W hb
      refine (Fits_right st o lo (xs.take 12) (l.take 40) cap lcap hr (by omega) W aP aS (hQ.below hb) (hA.below hb) (hN.below hb)).mono ?_
      rintro e w' ⟨o', c', rfl, hown, b⟩
      exact ⟨o', c', rfl, fitsS_own hown, b⟩
    · intro j b hb W hbw
      have := Behind_anyQ st o lo (xs.take 12) (l.take 40) cap lcap ((j : Nat) : Int) (by omega) (by omega) h40c W (hA.below hbw) (hN.below hbw)
      have hj := (List.getElem?_eq_some_iff.1 hb).1
      rw [fitsS_len] at hj
      have e : behindA st (xs.take 12) (l.take 40) ((j : Nat) : Int) = b := by
        rw [← done_behind hr st (by omega)]
        unfold fitsS runsS at hb
        rw [List.map_map, List.getElem?_map] at hb
        obtain ⟨i, hi, rfl⟩ := Option.map_eq_some_iff.1 hb
        obtain ⟨_, e⟩ := List.getElem?_eq_some_iff.1 hi
        rw [List.getElem_range] at e
        subst e
        rfl
      rwa [e] at this
  | false =>
    refine behind_wrong st o lo xs.length _ l.length _ cap lcap w hSH hCUT hFEW ?_ ?_
    · intro W hb
      exact Fits_wrong st o lo (xs.take 12) (l.take 40) cap lcap (by omega) hr W aP aS (hQ.below hb) (hA.below hb)
    · intro W hb
      have := Right_anyQ st o (xs.take 12) cap 32 (by omega) W (hA.below hb)
      rwa [hr] at this
end Go.Proofs.YtjacebnlikhjnaaDoor
