/- NfaParts: the states behind some numbers are the steps from those behind fewer. Printed by genparts.py. -/
import Derived.Test.YtjacebnlikhjnaaDoorBunA16
import Derived.Deep.RegionHeld3
namespace Go.Proofs.YtjacebnlikhjnaaDoor
open Go.RowKit Go.Shelf Go.Maps
attribute [local go_sem] Oper.semAt_some

set_option maxRecDepth 100000 in
set_option maxHeartbeats 4000000 in
theorem parts_walk (st : Bool) (o lo : Option Addr) (n0 n k0 k cap lcap m q : Nat) (a : Int) (rs : List Nat) (ls : List Int) (w : World) (hrl : rs.length = k + 1) (hll : ls.length = k) (hk40 : k ≤ 40) (hkc : k ≤ lcap) (hmk : m ≤ k) (hmax : max a 0 = ((q : Nat) : Int)) (hmin : min ((q : Nat) : Int) ((k : Nat) : Int) = ((m : Nat) : Int)) (hL : NumsAt w lo ls)
    (hSH : ∀ W, Below w.heap.size w W → Calls Tryd.prog 8 #[] W fun e w' => e = .returned (.bool true) ∧ Below W.heap.size W w')
    (hCUT : ∀ W, Calls Tryd.prog 9 #[patV st o n0 cap] W fun e w' => e = .returned (patV st o n cap) ∧ Below W.heap.size W w')
    (hFEW : ∀ W, Calls Tryd.prog 18 #[.slice lo k0 lcap] W fun e w' => e = .returned (.slice lo k lcap) ∧ W = w')
    (hRUN : ∀ W, Below w.heap.size w W → Calls Tryd.prog 19 #[patV st o n cap, .slice lo k lcap] W fun e w' => ∃ o' cap', e = .returned (.tuple #[.slice o' (k + 1) cap', .int .i64 0]) ∧ NumsAt w' o' (natsZ rs) ∧ k + 1 ≤ cap' ∧ Below W.heap.size W w')
    (hRU2 : ∀ W, Below w.heap.size w W → Calls Tryd.prog 19 #[patV st o n cap, .slice lo m lcap] W fun e w' => ∃ o' cap', e = .returned (.tuple #[.slice o' (m + 1) cap', .int .i64 0]) ∧ NumsAt w' o' (natsZ (rs.take (m + 1))) ∧ Below W.heap.size W w')
    (hSTP : ∀ (j s s2 : Nat) c, rs[j]? = some s → rs[j + 1]? = some s2 → ls[j]? = some c → ∀ W, Below w.heap.size w W → Calls Tryd.prog 12 #[patV st o n cap, .int .i64 (s : Nat), .int .i64 c] W fun e w' => e = .returned (.tuple #[.int .i64 (s2 : Nat), .int .i64 0]) ∧ Below W.heap.size W w')
    (hSET : ∀ o1 o2 c1 c2 W, NumsAt W o1 (natsZ (rs.take (m + 1))) → NumsAt W o2 (natsZ (rs.take (m + 1))) → Calls Tryd.prog 23 #[.slice o1 (m + 1) c1, .slice o2 (m + 1) c2] W fun e w' => e = .returned (.bool true) ∧ Below W.heap.size W w') :
    Calls Tryd.prog 6 #[patV st o n0 cap, .slice lo k0 lcap, .int .i64 a] w fun e w' => e = .returned (.bool true) ∧ Below w.heap.size w w' := by
  have HCUT := Lib.hid hCUT
  have HFEW := Lib.hid hFEW
  have HRUN := Lib.hid hRUN
  have HRU2 := Lib.hid hRU2
  have HSTP := Lib.hid hSTP
  have HSET := Lib.hid hSET
  have HRL := Lib.hid hrl
  have HLL := Lib.hid hll
  have HL := Lib.hid hL
  obtain ⟨w1, hw1⟩ : ∃ w1, w.alloc (patO st o n0 cap) = w1 := ⟨_, rfl⟩
  have b1 : Below w.heap.size w w1 := by rw [← hw1]; exact (Below.refl _ _).alloc (Nat.le_refl _) _
  have r1 : w1.heap[w.heap.size]? = some (patO st o n0 cap) := by rw [← hw1]; exact heap_alloc_new _ _
  have HSH := Lib.hid (hSH w1 b1)
  have HW1 := Lib.hid hw1
  have HB1 := Lib.hid b1
  have HR1 := Lib.hid r1
  have hlt1 : w.heap.size < w1.heap.size := (Array.getElem?_eq_some_iff.1 r1).1
  clear hw1 b1 r1 hSH hCUT hFEW hRUN hRU2 hSTP hSET hrl hll hL
  go_enter Tryd.func6, Tryd.ntmps6
  go_wp2_with fail
  rw [HW1.out]
  refine HSH.out.mono ?_
  rintro e W2 ⟨rfl, b2⟩
  obtain ⟨p0, p1⟩ := pat_cellsH (row_below HR1.out b2)
  have HR2 := Lib.hid (row_below HR1.out b2)
  have HB2 := Lib.hid (HB1.out.trans (b2.mono HB1.out.size))
  clear b2
  go_wp2_with fail
  refine (HCUT.out _).mono ?_
  rintro e W3 ⟨rfl, b3⟩
  have hr3 := row_below HR2.out b3
  obtain ⟨q0, q1⟩ := pat_cellsH hr3
  have f0 := frozen_of_row W3 w.heap.size 0 _ _ hr3
  have f1 := frozen_of_row W3 w.heap.size 1 _ _ hr3
  obtain ⟨r4, m4⟩ := two_setH (.bool st) (.slice o n cap) hr3
  obtain ⟨w4, hw4⟩ : ∃ w4, (W3.setCell ⟨w.heap.size, 0, none⟩ (.bool st)).setCell ⟨w.heap.size, 1, none⟩ (.slice o n cap) = w4 := ⟨_, rfl⟩
  rw [hw4] at r4 m4
  have HB4 := Lib.hid (Moves.below (HB2.out.trans (b3.mono HB2.out.size)) (by have := HB2.out.size; have := b3.size; omega) m4 (fun k hk => by omega))
  have HR4 := Lib.hid r4
  have HW4 := Lib.hid hw4
  have HC4 := Lib.hid (HRUN.out w4 HB4.out)
  obtain ⟨s0, s1⟩ := pat_cellsH r4
  clear p0 p1 b3 m4 hw4 hr3 r4
  go_wp2_with fail
  rw [HW4.out]
  refine (HFEW.out _).mono ?_
  rintro e _ ⟨rfl, rfl⟩
  clear q0 q1 f0 f1
  go_wp2_with fail
  refine HC4.out.mono ?_
  rintro e w5 ⟨o5, c5, rfl, hrow, hc5, b5⟩
  have HB5 := Lib.hid (HB4.out.trans (b5.mono HB4.out.size))
  have HR5 := Lib.hid (row_below HR4.out b5)
  obtain ⟨t0, t1⟩ := pat_cellsH HR5.out
  have HROW := Lib.hid hrow
  have K2 : Hid (∀ W, (W.cell? ⟨w.heap.size, 0, none⟩ = some (.bool st) ∧ W.cell? ⟨w.heap.size, 1, none⟩ = some (.slice o n cap) ∧ Below w5.heap.size w5 W) → Calls Tryd.prog 19 #[patV st o n cap, .slice lo m lcap] W fun e w' => ∃ o' cap', e = .returned (.tuple #[.slice o' (m + 1) cap', .int .i64 0]) ∧ NumsAt w' o' (natsZ (rs.take (m + 1))) ∧ (w'.cell? ⟨w.heap.size, 0, none⟩ = some (.bool st) ∧ w'.cell? ⟨w.heap.size, 1, none⟩ = some (.slice o n cap) ∧ Below w5.heap.size w5 w')) := Lib.hid fun W hs => (HRU2.out W (HB5.out.trans (hs.2.2.mono HB5.out.size))).mono (by
    rintro e w' ⟨o', cap', rfl, hr, b⟩
    have bb := hs.2.2.trans (b.mono hs.2.2.size)
    exact ⟨o', cap', rfl, hr, (pat_cellsH (row_below HR5.out bb)).1, (pat_cellsH (row_below HR5.out bb)).2, bb⟩)
  have HD : Below w5.heap.size w5 w5.drew := (Below.refl _ _).drew
  have hmc : m ≤ lcap := by omega
  clear b5 hrow s0 s1
  go_wp2_with fail
  go_region_held3 (fun W => W.cell? ⟨w.heap.size, 0, none⟩ = some (.bool st) ∧ W.cell? ⟨w.heap.size, 1, none⟩ = some (.slice o n cap) ∧ Below w5.heap.size w5 W) (first | assumption | exact HD | go_keep) (first | (go_at_call 19; refine (K2.out _ (by first | assumption | exact ⟨t0, t1, HD⟩ | exact hg)).mono ?_; rintro e w' ⟨o6, c6, rfl, hrow2, hg⟩))
  obtain ⟨r0, r1, b6⟩ := hg
  have HB6 := Lib.hid (HB5.out.trans (b6.mono HB5.out.size))
  have HR6 := Lib.hid (row_below HR5.out b6)
  have HROW1 := Lib.hid (HROW.out.below b6)
  have HROW2 := Lib.hid hrow2
  have HL6 := Lib.hid (HL.out.below HB6.out)
  obtain ⟨s0, hs0⟩ : ∃ s, rs[m]? = some s := ⟨_, List.getElem?_eq_getElem (by rw [HRL.out]; omega)⟩
  have HS0 := Lib.hid hs0
  obtain ⟨g6, off6, rfl, hc6⟩ := hrow2 (by rw [List.length_map, List.length_take, HRL.out]; omega)
  have k6 := hc6 m ((s0 : Nat) : Int) (by rw [List.getElem?_map, List.getElem?_take, if_pos (by omega), hs0]; rfl)
  have hm6 : m < 1000000 := by omega
  clear b6 hrow2 hc6 hs0 t0 t1 r0 r1 HD
  go_wp2_with fail
  go_loopg [12, 13] (k - m) (fun kk v i wr => ∃ j s : Nat, i = .int .i64 (j : Nat) ∧ v = .int .i64 (s : Nat) ∧ m ≤ j ∧ j ≤ k ∧ kk = k - j ∧ Hid (rs[j]? = some s) ∧ Hid (Below w'.heap.size w' wr))
  case atStart => exact ⟨m, s0, rfl, rfl, Nat.le_refl _, hmk, rfl, HS0, Lib.hid (Below.refl _ _)⟩
  case round =>
    obtain ⟨j, s, rfl, rfl, hmj, hj, rfl, HS, HB⟩ := hrel
    have hj6 : j < 1000000 := by omega
    have HBW := Lib.hid (HB6.out.trans (HB.out.mono HB6.out.size))
    have HRW := Lib.hid (row_below HR6.out HB.out)
    obtain ⟨p0, p1⟩ := pat_cellsH HRW.out
    rcases Nat.lt_or_ge j k with hlt | hge
    · obtain ⟨s2, hs2⟩ : ∃ s2, rs[j + 1]? = some s2 := ⟨_, List.getElem?_eq_getElem (by rw [HRL.out]; omega)⟩
      obtain ⟨c, hc⟩ : ∃ c, ls[j]? = some c := ⟨_, List.getElem?_eq_getElem (by rw [HLL.out]; omega)⟩
      have HS2 := Lib.hid hs2
      obtain ⟨g, off, rfl, hcc⟩ := (HL6.out.below HB.out) (by rw [HLL.out]; omega)
      have k1 := hcc j c hc
      have HK1 := Lib.hid k1
      have HST := Lib.hid (HSTP.out j s s2 c HS.out hs2 hc)
      have K1 : Hid (∀ W, (W.cell? ⟨g, off + j, none⟩ = some (.int .i64 c) ∧ W.cell? ⟨w.heap.size, 0, none⟩ = some (.bool st) ∧ W.cell? ⟨w.heap.size, 1, none⟩ = some (.slice o n cap) ∧ Below wr.heap.size wr W) → Calls Tryd.prog 12 #[patV st o n cap, .int .i64 (s : Nat), .int .i64 c] W fun e w' => e = .returned (.tuple #[.int .i64 (s2 : Nat), .int .i64 0]) ∧ (w'.cell? ⟨g, off + j, none⟩ = some (.int .i64 c) ∧ w'.cell? ⟨w.heap.size, 0, none⟩ = some (.bool st) ∧ w'.cell? ⟨w.heap.size, 1, none⟩ = some (.slice o n cap) ∧ Below wr.heap.size wr w')) := Lib.hid fun W hs => (HST.out W (HBW.out.trans (hs.2.2.2.mono HBW.out.size))).mono (by
        rintro e w' ⟨rfl, b⟩
        have bb := hs.2.2.2.trans (b.mono hs.2.2.2.size)
        exact ⟨rfl, cell_keepQ bb HK1.out, (pat_cellsH (row_below HRW.out bb)).1, (pat_cellsH (row_below HRW.out bb)).2, bb⟩)
      have HD : Below wr.heap.size wr wr.drew := (Below.refl _ _).drew
      clear hcc hc
      go_wp2_with fail
      go_region_held3 (fun W => W.cell? ⟨g, off + j, none⟩ = some (.int .i64 c) ∧ W.cell? ⟨w.heap.size, 0, none⟩ = some (.bool st) ∧ W.cell? ⟨w.heap.size, 1, none⟩ = some (.slice o n cap) ∧ Below wr.heap.size wr W) (first | assumption | exact HD | go_keep) (first | (go_at_call 12; refine (K1.out _ (by first | assumption | exact ⟨k1, p0, p1, HD⟩ | exact hg)).mono ?_; rintro e w9 ⟨rfl, hg⟩))
      have hb9 := HB.out.trans (hg.2.2.2.mono HB.out.size)
      have HB9 := Lib.hid hb9
      obtain ⟨g5, off5, rfl, hc5'⟩ := (HROW1.out.below hb9) (by rw [List.length_map, HRL.out]; omega)
      have k2 := hc5' (j + 1) ((s2 : Nat) : Int) (by rw [List.getElem?_map, hs2]; rfl)
      have hj7 : j + 1 < k + 1 := by omega
      clear hg hb9 hc5' hs2
      go_wp2_with fail
      go_roundg (k - (j + 1))
      case measure => omega
      case rel => exact ⟨j + 1, s2, by simp, rfl, by omega, by omega, rfl, HS2, HB9⟩
    · obtain rfl : j = k := by omega
      have hA1 : NumsAt wr o5 (natsZ (rs.take (m + 1))) := fun hn => by
        obtain ⟨g, off, ho, hc⟩ := (HROW1.out.below HB.out) (by rw [List.length_map, HRL.out]; omega)
        refine ⟨g, off, ho, fun i x hx => hc i x ?_⟩
        have hx : ((rs.take (m + 1)).map fun c : Nat => ((c : Nat) : Int))[i]? = some x := hx
        rw [List.map_take, List.getElem?_take] at hx
        split at hx
        · exact hx
        · cases hx
      have HC9 := Lib.hid (HSET.out o5 _ c5 c6 wr hA1 (HROW2.out.below HB.out))
      have hm5 : m + 1 ≤ c5 := by omega
      clear hA1
      go_wp2_with fail
      refine HC9.out.mono ?_
      rintro e w9 ⟨rfl, b9⟩
      have HB9 := Lib.hid (HBW.out.trans (b9.mono HBW.out.size))
      clear b9
      go_wp2_with fail
      go_ret
      exact ⟨rfl, HB9.out⟩
set_option maxRecDepth 100000 in
set_option maxHeartbeats 4000000 in
theorem parts_wrong (st : Bool) (o lo : Option Addr) (n0 n k0 k cap lcap m q : Nat) (a : Int) (w : World) (hkc : k ≤ lcap) (hmk : m ≤ k) (hmax : max a 0 = ((q : Nat) : Int)) (hmin : min ((q : Nat) : Int) ((k : Nat) : Int) = ((m : Nat) : Int))
    (hSH : ∀ W, Below w.heap.size w W → Calls Tryd.prog 8 #[] W fun e w' => e = .returned (.bool true) ∧ Below W.heap.size W w')
    (hCUT : ∀ W, Calls Tryd.prog 9 #[patV st o n0 cap] W fun e w' => e = .returned (patV st o n cap) ∧ Below W.heap.size W w')
    (hFEW : ∀ W, Calls Tryd.prog 18 #[.slice lo k0 lcap] W fun e w' => e = .returned (.slice lo k lcap) ∧ W = w')
    (hRUN : ∀ k W, Below w.heap.size w W → Calls Tryd.prog 19 #[patV st o n cap, .slice lo k lcap] W fun e w' => e = .returned (.tuple #[.slice none 0 0, .int .i64 80]) ∧ Below W.heap.size W w') :
    Calls Tryd.prog 6 #[patV st o n0 cap, .slice lo k0 lcap, .int .i64 a] w fun e w' => e = .returned (.bool true) ∧ Below w.heap.size w w' := by
  have HCUT := Lib.hid hCUT
  have HFEW := Lib.hid hFEW
  have HRUN := Lib.hid hRUN
  obtain ⟨w1, hw1⟩ : ∃ w1, w.alloc (patO st o n0 cap) = w1 := ⟨_, rfl⟩
  have b1 : Below w.heap.size w w1 := by rw [← hw1]; exact (Below.refl _ _).alloc (Nat.le_refl _) _
  have r1 : w1.heap[w.heap.size]? = some (patO st o n0 cap) := by rw [← hw1]; exact heap_alloc_new _ _
  have HSH := Lib.hid (hSH w1 b1)
  have HW1 := Lib.hid hw1
  have HB1 := Lib.hid b1
  have HR1 := Lib.hid r1
  have hlt1 : w.heap.size < w1.heap.size := (Array.getElem?_eq_some_iff.1 r1).1
  clear hw1 b1 r1 hSH hCUT hFEW hRUN
  go_enter Tryd.func6, Tryd.ntmps6
  go_wp2_with fail
  rw [HW1.out]
  refine HSH.out.mono ?_
  rintro e W2 ⟨rfl, b2⟩
  obtain ⟨p0, p1⟩ := pat_cellsH (row_below HR1.out b2)
  have HR2 := Lib.hid (row_below HR1.out b2)
  have HB2 := Lib.hid (HB1.out.trans (b2.mono HB1.out.size))
  clear b2
  go_wp2_with fail
  refine (HCUT.out _).mono ?_
  rintro e W3 ⟨rfl, b3⟩
  have hr3 := row_below HR2.out b3
  obtain ⟨q0, q1⟩ := pat_cellsH hr3
  have f0 := frozen_of_row W3 w.heap.size 0 _ _ hr3
  have f1 := frozen_of_row W3 w.heap.size 1 _ _ hr3
  obtain ⟨r4, m4⟩ := two_setH (.bool st) (.slice o n cap) hr3
  obtain ⟨w4, hw4⟩ : ∃ w4, (W3.setCell ⟨w.heap.size, 0, none⟩ (.bool st)).setCell ⟨w.heap.size, 1, none⟩ (.slice o n cap) = w4 := ⟨_, rfl⟩
  rw [hw4] at r4 m4
  have HB4 := Lib.hid (Moves.below (HB2.out.trans (b3.mono HB2.out.size)) (by have := HB2.out.size; have := b3.size; omega) m4 (fun k hk => by omega))
  have HR4 := Lib.hid r4
  have HW4 := Lib.hid hw4
  have HC4 := Lib.hid (HRUN.out k w4 HB4.out)
  obtain ⟨s0, s1⟩ := pat_cellsH r4
  clear p0 p1 b3 m4 hw4 hr3 r4
  go_wp2_with fail
  rw [HW4.out]
  refine (HFEW.out _).mono ?_
  rintro e _ ⟨rfl, rfl⟩
  clear q0 q1 f0 f1
  go_wp2_with fail
  refine HC4.out.mono ?_
  rintro e w5 ⟨rfl, b5⟩
  have HB5 := Lib.hid (HB4.out.trans (b5.mono HB4.out.size))
  have HR5 := Lib.hid (row_below HR4.out b5)
  obtain ⟨t0, t1⟩ := pat_cellsH HR5.out
  have K2 : Hid (∀ W, (W.cell? ⟨w.heap.size, 0, none⟩ = some (.bool st) ∧ W.cell? ⟨w.heap.size, 1, none⟩ = some (.slice o n cap) ∧ Below w5.heap.size w5 W) → Calls Tryd.prog 19 #[patV st o n cap, .slice lo m lcap] W fun e w' => e = .returned (.tuple #[.slice none 0 0, .int .i64 80]) ∧ (w'.cell? ⟨w.heap.size, 0, none⟩ = some (.bool st) ∧ w'.cell? ⟨w.heap.size, 1, none⟩ = some (.slice o n cap) ∧ Below w5.heap.size w5 w')) := Lib.hid fun W hs => (HRUN.out m W (HB5.out.trans (hs.2.2.mono HB5.out.size))).mono (by
    rintro e w' ⟨rfl, b⟩
    have bb := hs.2.2.trans (b.mono hs.2.2.size)
    exact ⟨rfl, (pat_cellsH (row_below HR5.out bb)).1, (pat_cellsH (row_below HR5.out bb)).2, bb⟩)
  have HD : Below w5.heap.size w5 w5.drew := (Below.refl _ _).drew
  have hmc : m ≤ lcap := by omega
  clear b5 s0 s1
  go_wp2_with fail
  go_region_held3 (fun W => W.cell? ⟨w.heap.size, 0, none⟩ = some (.bool st) ∧ W.cell? ⟨w.heap.size, 1, none⟩ = some (.slice o n cap) ∧ Below w5.heap.size w5 W) (first | assumption | exact HD | go_keep) (first | (go_at_call 19; refine (K2.out _ (by first | assumption | exact ⟨t0, t1, HD⟩ | exact hg)).mono ?_; rintro e w' ⟨rfl, hg⟩))
  have HB6 := Lib.hid (HB5.out.trans (hg.2.2.mono HB5.out.size))
  clear hg
  go_wp2_with fail
  go_ret
  exact ⟨rfl, HB6.out⟩
theorem nfaParts_anyL (st : Bool) (xs : List ItemP) (o : Option Addr) (cap : Nat) (l : List Int) (lo : Option Addr) (lcap : Nat) (a : Int) (L : xs.length ≤ cap) (hlc : l.length ≤ lcap) (w : World) (aP aS : Addr) (hQ : GlobH w aP aS) (A : ItsInQ w o xs) (hL : NumsInQ w lo l ∧ (lo = none → lcap = 0) ∧ ∀ p, lo = some p → 0 < lcap → p.spot = none) :
    Calls Tryd.prog 6 #[patV st o xs.length cap, .slice lo l.length lcap, .int .i64 a] w fun e w' => e = .returned (.bool true) ∧ Below w.heap.size w w' := by
  have hA := A.1.take 12
  have h12 : (xs.take 12).length ≤ 12 := by rw [List.length_take]; omega
  have h40 : (l.take 40).length ≤ 40 := by rw [List.length_take]; omega
  have h40c : (l.take 40).length ≤ lcap := by rw [List.length_take]; omega
  have hN : NumsAt w lo (l.take 40) := fun hn => by
    obtain ⟨g, off, ho, hc⟩ := hL.1.1 (by rw [List.length_take] at hn; omega)
    refine ⟨g, off, ho, fun j x hx => hc j x ?_⟩
    rw [List.getElem?_take] at hx
    split at hx
    · exact hx
    · cases hx
  have hSH := fun W (hb : Below w.heap.size w W) => shown_any W aP aS (hQ.below hb)
  have hCUT := fun W => cutH_any st o xs cap L W
  have hFEW := fun W => fewH_any lo l lcap hlc W
  obtain ⟨ls, hls⟩ : ∃ ls, l.take 40 = ls := ⟨_, rfl⟩
  rw [hls] at h40 h40c hN hFEW
  obtain ⟨q, hq⟩ : ∃ q : Nat, max a 0 = ((q : Nat) : Int) := ⟨(max a 0).toNat, by omega⟩
  obtain ⟨m, hm⟩ : ∃ m, min q ls.length = m := ⟨_, rfl⟩
  have hmin : min ((q : Nat) : Int) ((ls.length : Nat) : Int) = ((m : Nat) : Int) := by omega
  have hmk : m ≤ ls.length := by omega
  cases hr : rightB (xs.take 12) 32 with
  | true =>
    have hw := rightB_how hr
    have hrl : (runsS (xs.take 12) st ls).length = ls.length + 1 := by unfold runsS; simp
    have hget : ∀ j, j ≤ ls.length → (runsS (xs.take 12) st ls)[j]? = some (runS (xs.take 12) st (ls.take j)) := fun j hj => by
      unfold runsS
      rw [List.getElem?_map, List.getElem?_range (by omega)]
      rfl
    have htk : runsS (xs.take 12) st (ls.take m) = (runsS (xs.take 12) st ls).take (m + 1) := by
      unfold runsS
      rw [List.length_take, Nat.min_eq_left hmk, ← List.map_take, List.take_range, Nat.min_eq_left (by omega)]
      refine List.map_congr_left fun i hi => ?_
      rw [List.take_take, Nat.min_eq_left (by have := List.mem_range.1 hi; omega)]
    have hlm : (ls.take m).length = m := by rw [List.length_take]; omega
    have hNm : NumsAt w lo (ls.take m) := fun hn => by
      obtain ⟨g, off, ho, hc⟩ := hN (by omega)
      refine ⟨g, off, ho, fun j x hx => hc j x ?_⟩
      rw [List.getElem?_take] at hx
      split at hx
      · exact hx
      · cases hx
    have hr2l : ((runsS (xs.take 12) st ls).take (m + 1)).length = m + 1 := by rw [List.length_take, hrl]; omega
    refine parts_walk st o lo xs.length _ l.length ls.length cap lcap m q a (runsS (xs.take 12) st ls) ls w hrl rfl h40 h40c hmk hq hmin hN hSH hCUT hFEW ?_ ?_ ?_ ?_
    · intro W hb
      refine (Run_right st o lo (xs.take 12) ls cap lcap hr (by omega) W aP aS (hQ.below hb) (hA.below hb) (hN.below hb)).mono ?_
      rintro e w' ⟨o', c', rfl, hown, b⟩
      exact ⟨o', c', rfl, nums_ownH (by rw [hrl]; exact hown), own_cap hown, b⟩
    · intro W hb
      have := Run_right st o lo (xs.take 12) (ls.take m) cap lcap hr (by omega) W aP aS (hQ.below hb) (hA.below hb) (hNm.below hb)
      rw [hlm, htk] at this
      refine this.mono ?_
      rintro e w' ⟨o', c', rfl, hown, b⟩
      exact ⟨o', c', rfl, nums_ownH (by rw [hr2l]; exact hown), b⟩
    · intro j s s2 c hs hs2 hc W hb
      have hj := (List.getElem?_eq_some_iff.1 hc).1
      rw [hget j (by omega)] at hs
      rw [hget (j + 1) (by omega)] at hs2
      obtain rfl := Option.some.inj hs
      have e2 : stepS (xs.take 12) st c (runS (xs.take 12) st (ls.take j)) = s2 := by
        have ht : ls.take (j + 1) = ls.take j ++ [c] := by rw [List.take_add_one, hc]; rfl
        rw [← Option.some.inj hs2, ht]
        exact (runS_snoc _ _ _ _).symm
      have hk := knowA_of hr (run_lt hw (start := st) (ls.take j))
      have := Step_anyH st o (xs.take 12) cap ((runS (xs.take 12) st (ls.take j) : Nat) : Int) c (by omega) W aP aS (hQ.below hb) (hA.below hb)
      unfold stepA numA at this
      rw [hk, if_pos rfl, if_pos rfl, Int.toNat_natCast, e2] at this
      exact this
    · intro o1 o2 c1 c2 W h1 h2
      have := setsL_any o1 o2 _ _ c1 c2 (by rw [List.length_map, hr2l]; omega) W h1 h2
      rw [List.length_map, hr2l] at this
      simpa using this
  | false =>
    refine parts_wrong st o lo xs.length _ l.length ls.length cap lcap m q a w h40c hmk hq hmin hSH hCUT hFEW ?_
    intro k W hb
    have := Run_wrong st o lo (xs.take 12) (List.replicate k 0) cap lcap (by omega) hr W aP aS (hQ.below hb) (hA.below hb)
    rwa [List.length_replicate] at this
end Go.Proofs.YtjacebnlikhjnaaDoor
