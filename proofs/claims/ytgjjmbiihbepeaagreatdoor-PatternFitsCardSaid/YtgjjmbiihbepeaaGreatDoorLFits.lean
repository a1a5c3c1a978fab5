/- PatternFits. -/
import Derived.Test.YtgjjmbiihbepeaaGreatDoorBunA24
import Derived.Test.YtgjjmbiihbepeaaGreatDoorBunA20
import Derived.Test.YtgjjmbiihbepeaaGreatDoorBunA18
namespace Go.Proofs.YtgjjmbiihbepeaaGreatDoor
open Go.RowKit Go.Shelf Go.Maps
attribute [local go_sem] Oper.semAt_some

theorem sameB_self (st : Bool) (X : List ItemP) : sameB st st X X = true := by
  unfold sameB
  rw [decide_eq_true rfl, decide_eq_true rfl]
  rfl
theorem keepF {w5 W W' : World} {a b : Nat} {v0 v1 v2 v3 : Value} (h : Below W.heap.size W W') (h0 : W.cell? ⟨a, 0, none⟩ = some v0) (h1 : W.cell? ⟨a, 1, none⟩ = some v1) (h2 : W.cell? ⟨b, 0, none⟩ = some v2) (h3 : W.cell? ⟨b, 1, none⟩ = some v3) (h6 : Below w5.heap.size w5 W) :
    W'.cell? ⟨a, 0, none⟩ = some v0 ∧ W'.cell? ⟨a, 1, none⟩ = some v1 ∧ W'.cell? ⟨b, 0, none⟩ = some v2 ∧ W'.cell? ⟨b, 1, none⟩ = some v3 ∧ Below w5.heap.size w5 W' :=
  ⟨cell_keep h h0, cell_keep h h1, cell_keep h h2, cell_keep h h3, h6.trans (h.mono h6.size)⟩
set_option maxRecDepth 100000 in
set_option maxHeartbeats 40000000 in
theorem fits_anyL (st : Bool) (xs : List ItemP) (o : Option Addr) (cap : Nat) (st2 : Bool) (ys : List ItemP) (o2 : Option Addr) (cap2 : Nat) (m : Int) (l : List Int) (lo : Option Addr) (lcap : Nat) (at_ : Int) (hxc : xs.length ≤ cap) (hyc : ys.length ≤ cap2) (hlc : l.length ≤ lcap) (w : World) (aU aS : Addr) (hQ : GlobQ w aU aS) (hG : KGlob w) (hX : ItsInQ w o xs) (hY : ItsInQ w o2 ys) (hL : NumsInQ w lo l ∧ (lo = none → lcap = 0) ∧ ∀ p, lo = some p → 0 < lcap → p.spot = none) :
    Calls Tryz.prog 3 #[patV st o xs.length cap, patV st2 o2 ys.length cap2, .int .i64 m, .slice lo l.length lcap, .int .i64 at_] w fun e w' => e = .returned (.bool true) ∧ Below w.heap.size w w' := by
  obtain ⟨P, hP⟩ : ∃ P, (fun (e : Ending) w' => e = .returned (.bool true) ∧ Below w.heap.size w w') = P := ⟨_, rfl⟩
  have HP := Lib.hid hP
  rw [hP]
  obtain ⟨wa, hwa⟩ : ∃ wa, w.alloc (patO st o xs.length cap) = wa := ⟨_, rfl⟩
  have ba : Below w.heap.size w wa := by rw [← hwa]; exact (Below.refl _ _).alloc (Nat.le_refl _) _
  have za : wa.heap.size = w.heap.size + 1 := by rw [← hwa]; simp
  have ra : wa.heap[w.heap.size]? = some (patO st o xs.length cap) := by rw [← hwa]; exact heap_alloc_new _ _
  obtain ⟨wb, hwb⟩ : ∃ wb, wa.alloc (patO st2 o2 ys.length cap2) = wb := ⟨_, rfl⟩
  have bb' : Below wa.heap.size wa wb := by rw [← hwb]; exact (Below.refl _ _).alloc (Nat.le_refl _) _
  have rb2 : wb.heap[w.heap.size + 1]? = some (patO st2 o2 ys.length cap2) := by rw [← hwb, ← za]; exact heap_alloc_new _ _
  have rb := row_below ra bb'
  have bb := ba.trans (bb'.mono ba.size)
  have HSH := Lib.hid (shownQ_any wb aU aS (hQ.below bb) (hG.below bb))
  have HCU := Lib.hid (fun W => cutP_any st o xs cap hxc W)
  have HCV := Lib.hid (fun W => cutP_any st2 o2 ys cap2 hyc W)
  have HFE := Lib.hid (fun W => fewL_any lo l lcap hlc W)
  obtain ⟨L, hLL⟩ : ∃ L, l.take 40 = L := ⟨_, rfl⟩
  obtain ⟨X, hXX⟩ : ∃ X, xs.take 12 = X := ⟨_, rfl⟩
  obtain ⟨Y, hYY⟩ : ∃ Y, ys.take 12 = Y := ⟨_, rfl⟩
  have hL40 : L.length ≤ 40 ∧ L.length ≤ lcap := by rw [← hLL, List.length_take]; omega
  have hX12 : X.length ≤ 12 ∧ X.length ≤ cap := by rw [← hXX, List.length_take]; omega
  have hY12 : Y.length ≤ 12 ∧ Y.length ≤ cap2 := by rw [← hYY, List.length_take]; omega
  have HAX0 : Hid (AtI w o X) := Lib.hid (by rw [← hXX]; exact hX.1.take 12)
  have HAY0 : Hid (AtI w o2 Y) := Lib.hid (by rw [← hYY]; exact hY.1.take 12)
  have HLL0 : Hid (NumsAt w lo L) := Lib.hid (by rw [← hLL]; exact hL.1.1.takeQ 40)
  have hlz := hL.2.1
  have hls := hL.2.2
  rw [hLL] at HFE
  rw [hXX] at HCU
  rw [hYY] at HCV
  obtain ⟨n, hn⟩ : ∃ n, L.length = n := ⟨_, rfl⟩
  obtain ⟨ln, hln⟩ : ∃ ln, l.length = ln := ⟨_, rfl⟩
  obtain ⟨k, hk⟩ : ∃ k, X.length = k := ⟨_, rfl⟩
  obtain ⟨q, hq⟩ : ∃ q, xs.length = q := ⟨_, rfl⟩
  obtain ⟨k2, hk2⟩ : ∃ k2, Y.length = k2 := ⟨_, rfl⟩
  obtain ⟨q2, hq2⟩ : ∃ q2, ys.length = q2 := ⟨_, rfl⟩
  rw [hn, hln] at HFE
  rw [hk, hq] at HCU
  rw [hk2, hq2] at HCV
  rw [hq] at hwa rb ⊢
  rw [hq2] at hwb rb2 ⊢
  rw [hln]
  have HBB := Lib.hid bb
  have HRB := Lib.hid rb
  have HRB2 := Lib.hid rb2
  have HWA := Lib.hid hwa
  have HWB := Lib.hid hwb
  have HLZ := Lib.hid hlz
  have HLS := Lib.hid hls
  have HXN := Lib.hid (And.intro hX12 (And.intro hY12 hL40))
  have HNN := Lib.hid (And.intro hn (And.intro hk hk2))
  clear hP hQ hG hX hY hL hLL hXX hYY hn hln hk hq hk2 hq2 ba bb bb' ra rb rb2 za hwa hwb hlc hxc hyc hlz hls hX12 hY12 hL40
  go_enter Tryz.func3, Tryz.ntmps3
  go_wp2_with fail
  rw [HWA.out, HWB.out]
  refine HSH.out.mono ?_
  rintro e w1 ⟨rfl, b1⟩
  have HB1 := Lib.hid (HBB.out.trans (b1.mono HBB.out.size))
  have HR1 := Lib.hid (row_below HRB.out b1)
  have HS1 := Lib.hid (row_below HRB2.out b1)
  obtain ⟨p0, p1⟩ := pat_cells HR1.out
  clear b1
  go_wp2_with fail
  refine (HCU.out w1).mono ?_
  rintro e w2 ⟨rfl, b2⟩
  have B2 := HB1.out.trans (b2.mono HB1.out.size)
  have r2 := row_below HR1.out b2
  have s2 := row_below HS1.out b2
  obtain ⟨t0, t1⟩ := pat_cells r2
  have f0 := frozen_of_row w2 w.heap.size 0 _ _ r2
  have f1 := frozen_of_row w2 w.heap.size 1 _ _ r2
  obtain ⟨r3, m3⟩ := two_set (.bool st) (.slice o k cap) r2
  obtain ⟨w3, hw3⟩ : ∃ w3, (w2.setCell ⟨w.heap.size, 0, none⟩ (.bool st)).setCell ⟨w.heap.size, 1, none⟩ (.slice o k cap) = w3 := ⟨_, rfl⟩
  rw [hw3] at r3 m3
  have B3 := Moves.below B2 B2.size m3 (fun k hk => by omega)
  have s3 := row_keep s2 m3 (by omega)
  have HB3 := Lib.hid B3
  have HR3 := Lib.hid r3
  have HS3 := Lib.hid s3
  have HW3 := Lib.hid hw3
  obtain ⟨z0, z1⟩ := pat_cells s2
  clear b2 B2 r2 s2 r3 s3 m3 hw3 p0 p1 B3
  go_wp2_with fail
  rw [HW3.out]
  clear t0 t1 f0 f1 z0 z1
  refine (HCV.out w3).mono ?_
  rintro e w4 ⟨rfl, b4⟩
  have B4 := HB3.out.trans (b4.mono HB3.out.size)
  have r4 := row_below HR3.out b4
  have s4 := row_below HS3.out b4
  obtain ⟨t0, t1⟩ := pat_cells s4
  have f0 := frozen_of_row w4 (w.heap.size + 1) 0 _ _ s4
  have f1 := frozen_of_row w4 (w.heap.size + 1) 1 _ _ s4
  obtain ⟨s5, m5⟩ := two_set (.bool st2) (.slice o2 k2 cap2) s4
  obtain ⟨w5, hw5⟩ : ∃ w5, (w4.setCell ⟨w.heap.size + 1, 0, none⟩ (.bool st2)).setCell ⟨w.heap.size + 1, 1, none⟩ (.slice o2 k2 cap2) = w5 := ⟨_, rfl⟩
  rw [hw5] at s5 m5
  have B5 := Moves.below B4 B4.size m5 (fun k hk => by omega)
  have r5 := row_keep r4 m5 (by omega)
  have HB5 := Lib.hid B5
  have HR5 := Lib.hid r5
  have HS5 := Lib.hid s5
  have HW5 := Lib.hid hw5
  clear b4 B4 r4 s4 r5 s5 m5 hw5 B5
  go_wp2_with fail
  rw [HW5.out]
  refine (HFE.out w5).mono ?_
  rintro e _ ⟨rfl, rfl⟩
  clear t0 t1 f0 f1
  obtain ⟨c0, c1⟩ := pat_cells HR5.out
  obtain ⟨c2, c3⟩ := pat_cells HS5.out
  have HAX := Lib.hid (HAX0.out.below HB5.out)
  have HAY := Lib.hid (HAY0.out.below HB5.out)
  have HLL := Lib.hid (HLL0.out.below HB5.out)
  obtain ⟨hX12, hY12, hL40⟩ := HXN.out
  obtain ⟨hn, hk, hk2⟩ := HNN.out
  have hlz := HLZ.out
  have hls := HLS.out
  obtain ⟨r, hr⟩ : ∃ r, rightB X m = r := ⟨_, rfl⟩
  obtain ⟨f, hf⟩ : ∃ f, fitsA X L = f := ⟨_, rfl⟩
  obtain ⟨b, hb⟩ : ∃ b, behindA st X L at_ = b := ⟨_, rfl⟩
  obtain ⟨a, ha⟩ : ∃ a, aheadA st X L at_ = a := ⟨_, rfl⟩
  obtain ⟨s, hs⟩ : ∃ s, sameB st st2 X Y = s := ⟨_, rfl⟩
  have K1 : Hid (∀ W, W.cell? ⟨w.heap.size, 0, none⟩ = some (.bool st) ∧ W.cell? ⟨w.heap.size, 1, none⟩ = some (.slice o k cap) ∧ W.cell? ⟨w.heap.size + 1, 0, none⟩ = some (.bool st2) ∧ W.cell? ⟨w.heap.size + 1, 1, none⟩ = some (.slice o2 k2 cap2) ∧ Below w5.heap.size w5 W → Calls Tryz.prog 8 #[patV st o k cap, .int .i64 m] W fun e W' => e = .returned (.bool r) ∧ W'.cell? ⟨w.heap.size, 0, none⟩ = some (.bool st) ∧ W'.cell? ⟨w.heap.size, 1, none⟩ = some (.slice o k cap) ∧ W'.cell? ⟨w.heap.size + 1, 0, none⟩ = some (.bool st2) ∧ W'.cell? ⟨w.heap.size + 1, 1, none⟩ = some (.slice o2 k2 cap2) ∧ Below w5.heap.size w5 W') := Lib.hid fun W hW => by
    obtain ⟨p0, p1, p2, p3, p6⟩ := hW
    have := Right_anyQ st o X cap m (by omega) W (HAX.out.below p6)
    rw [hk, hr] at this
    exact this.mono fun e W' h => ⟨h.1, keepF h.2 p0 p1 p2 p3 p6⟩
  have K2 : Hid (∀ W, W.cell? ⟨w.heap.size, 0, none⟩ = some (.bool st) ∧ W.cell? ⟨w.heap.size, 1, none⟩ = some (.slice o k cap) ∧ W.cell? ⟨w.heap.size + 1, 0, none⟩ = some (.bool st2) ∧ W.cell? ⟨w.heap.size + 1, 1, none⟩ = some (.slice o2 k2 cap2) ∧ Below w5.heap.size w5 W → Calls Tryz.prog 9 #[patV st o k cap, .int .i64 m] W fun e W' => e = .returned (.bool r) ∧ W'.cell? ⟨w.heap.size, 0, none⟩ = some (.bool st) ∧ W'.cell? ⟨w.heap.size, 1, none⟩ = some (.slice o k cap) ∧ W'.cell? ⟨w.heap.size + 1, 0, none⟩ = some (.bool st2) ∧ W'.cell? ⟨w.heap.size + 1, 1, none⟩ = some (.slice o2 k2 cap2) ∧ Below w5.heap.size w5 W') := Lib.hid fun W hW => by
    obtain ⟨p0, p1, p2, p3, p6⟩ := hW
    have := refRight_anyQ st o X cap m (by omega) W (HAX.out.below p6)
    rw [hk, hr] at this
    exact this.mono fun e W' h => ⟨h.1, keepF h.2 p0 p1 p2 p3 p6⟩
  have K3 : Hid (∀ W, W.cell? ⟨w.heap.size, 0, none⟩ = some (.bool st) ∧ W.cell? ⟨w.heap.size, 1, none⟩ = some (.slice o k cap) ∧ W.cell? ⟨w.heap.size + 1, 0, none⟩ = some (.bool st2) ∧ W.cell? ⟨w.heap.size + 1, 1, none⟩ = some (.slice o2 k2 cap2) ∧ Below w5.heap.size w5 W → Calls Tryz.prog 10 #[patV st o k cap, .slice lo n lcap] W fun e W' => e = .returned (.bool f) ∧ W'.cell? ⟨w.heap.size, 0, none⟩ = some (.bool st) ∧ W'.cell? ⟨w.heap.size, 1, none⟩ = some (.slice o k cap) ∧ W'.cell? ⟨w.heap.size + 1, 0, none⟩ = some (.bool st2) ∧ W'.cell? ⟨w.heap.size + 1, 1, none⟩ = some (.slice o2 k2 cap2) ∧ Below w5.heap.size w5 W') := Lib.hid fun W hW => by
    obtain ⟨p0, p1, p2, p3, p6⟩ := hW
    have := Fits_anyQ st o lo X L cap lcap (by omega) (by omega) W (HAX.out.below p6) (HLL.out.below p6)
    rw [hk, hn, hf] at this
    exact this.mono fun e W' h => ⟨h.1, keepF h.2 p0 p1 p2 p3 p6⟩
  have K4 : Hid (∀ W, W.cell? ⟨w.heap.size, 0, none⟩ = some (.bool st) ∧ W.cell? ⟨w.heap.size, 1, none⟩ = some (.slice o k cap) ∧ W.cell? ⟨w.heap.size + 1, 0, none⟩ = some (.bool st2) ∧ W.cell? ⟨w.heap.size + 1, 1, none⟩ = some (.slice o2 k2 cap2) ∧ Below w5.heap.size w5 W → Calls Tryz.prog 11 #[patV st o k cap, .slice lo n lcap] W fun e W' => e = .returned (.bool f) ∧ W'.cell? ⟨w.heap.size, 0, none⟩ = some (.bool st) ∧ W'.cell? ⟨w.heap.size, 1, none⟩ = some (.slice o k cap) ∧ W'.cell? ⟨w.heap.size + 1, 0, none⟩ = some (.bool st2) ∧ W'.cell? ⟨w.heap.size + 1, 1, none⟩ = some (.slice o2 k2 cap2) ∧ Below w5.heap.size w5 W') := Lib.hid fun W hW => by
    obtain ⟨p0, p1, p2, p3, p6⟩ := hW
    have := refFits_any st o lo X L cap lcap (by omega) (by omega) (by omega) W (HAX.out.below p6) (HLL.out.below p6)
    rw [hk, hn, hf] at this
    exact this.mono fun e W' h => ⟨h.1, keepF h.2 p0 p1 p2 p3 p6⟩
  have K5 : Hid (∀ W, W.cell? ⟨w.heap.size, 0, none⟩ = some (.bool st) ∧ W.cell? ⟨w.heap.size, 1, none⟩ = some (.slice o k cap) ∧ W.cell? ⟨w.heap.size + 1, 0, none⟩ = some (.bool st2) ∧ W.cell? ⟨w.heap.size + 1, 1, none⟩ = some (.slice o2 k2 cap2) ∧ Below w5.heap.size w5 W → Calls Tryz.prog 12 #[patV st o k cap, .slice lo n lcap, .int .i64 at_] W fun e W' => e = .returned (.bool b) ∧ W'.cell? ⟨w.heap.size, 0, none⟩ = some (.bool st) ∧ W'.cell? ⟨w.heap.size, 1, none⟩ = some (.slice o k cap) ∧ W'.cell? ⟨w.heap.size + 1, 0, none⟩ = some (.bool st2) ∧ W'.cell? ⟨w.heap.size + 1, 1, none⟩ = some (.slice o2 k2 cap2) ∧ Below w5.heap.size w5 W') := Lib.hid fun W hW => by
    obtain ⟨p0, p1, p2, p3, p6⟩ := hW
    have := Behind_anyQ st o lo X L cap lcap at_ (by omega) (by omega) (by omega) W (HAX.out.below p6) (HLL.out.below p6)
    rw [hk, hn, hb] at this
    exact this.mono fun e W' h => ⟨h.1, keepF h.2 p0 p1 p2 p3 p6⟩
  have K6 : Hid (∀ W, W.cell? ⟨w.heap.size, 0, none⟩ = some (.bool st) ∧ W.cell? ⟨w.heap.size, 1, none⟩ = some (.slice o k cap) ∧ W.cell? ⟨w.heap.size + 1, 0, none⟩ = some (.bool st2) ∧ W.cell? ⟨w.heap.size + 1, 1, none⟩ = some (.slice o2 k2 cap2) ∧ Below w5.heap.size w5 W → Calls Tryz.prog 13 #[patV st o k cap, .slice lo n lcap, .int .i64 at_] W fun e W' => e = .returned (.bool b) ∧ W'.cell? ⟨w.heap.size, 0, none⟩ = some (.bool st) ∧ W'.cell? ⟨w.heap.size, 1, none⟩ = some (.slice o k cap) ∧ W'.cell? ⟨w.heap.size + 1, 0, none⟩ = some (.bool st2) ∧ W'.cell? ⟨w.heap.size + 1, 1, none⟩ = some (.slice o2 k2 cap2) ∧ Below w5.heap.size w5 W') := Lib.hid fun W hW => by
    obtain ⟨p0, p1, p2, p3, p6⟩ := hW
    have := refBehind_any st o lo X L cap lcap at_ (by omega) (by omega) (by omega) (by omega) W (HAX.out.below p6) (HLL.out.below p6)
    rw [hk, hn, hb] at this
    exact this.mono fun e W' h => ⟨h.1, keepF h.2 p0 p1 p2 p3 p6⟩
  have K7 : Hid (∀ W, W.cell? ⟨w.heap.size, 0, none⟩ = some (.bool st) ∧ W.cell? ⟨w.heap.size, 1, none⟩ = some (.slice o k cap) ∧ W.cell? ⟨w.heap.size + 1, 0, none⟩ = some (.bool st2) ∧ W.cell? ⟨w.heap.size + 1, 1, none⟩ = some (.slice o2 k2 cap2) ∧ Below w5.heap.size w5 W → Calls Tryz.prog 14 #[patV st o k cap, .slice lo n lcap, .int .i64 at_] W fun e W' => e = .returned (.bool a) ∧ W'.cell? ⟨w.heap.size, 0, none⟩ = some (.bool st) ∧ W'.cell? ⟨w.heap.size, 1, none⟩ = some (.slice o k cap) ∧ W'.cell? ⟨w.heap.size + 1, 0, none⟩ = some (.bool st2) ∧ W'.cell? ⟨w.heap.size + 1, 1, none⟩ = some (.slice o2 k2 cap2) ∧ Below w5.heap.size w5 W') := Lib.hid fun W hW => by
    obtain ⟨p0, p1, p2, p3, p6⟩ := hW
    have := Ahead_anyQ st o lo X L cap lcap at_ (by omega) (by omega) (by omega) hlz hls W (HAX.out.below p6) (HLL.out.below p6)
    rw [hk, hn, ha] at this
    exact this.mono fun e W' h => ⟨h.1, keepF h.2 p0 p1 p2 p3 p6⟩
  have K8 : Hid (∀ W, W.cell? ⟨w.heap.size, 0, none⟩ = some (.bool st) ∧ W.cell? ⟨w.heap.size, 1, none⟩ = some (.slice o k cap) ∧ W.cell? ⟨w.heap.size + 1, 0, none⟩ = some (.bool st2) ∧ W.cell? ⟨w.heap.size + 1, 1, none⟩ = some (.slice o2 k2 cap2) ∧ Below w5.heap.size w5 W → Calls Tryz.prog 15 #[patV st o k cap, .slice lo n lcap, .int .i64 at_] W fun e W' => e = .returned (.bool a) ∧ W'.cell? ⟨w.heap.size, 0, none⟩ = some (.bool st) ∧ W'.cell? ⟨w.heap.size, 1, none⟩ = some (.slice o k cap) ∧ W'.cell? ⟨w.heap.size + 1, 0, none⟩ = some (.bool st2) ∧ W'.cell? ⟨w.heap.size + 1, 1, none⟩ = some (.slice o2 k2 cap2) ∧ Below w5.heap.size w5 W') := Lib.hid fun W hW => by
    obtain ⟨p0, p1, p2, p3, p6⟩ := hW
    have := refAhead_any st o lo X L cap lcap at_ (by omega) (by omega) (by omega) W (HAX.out.below p6) (HLL.out.below p6)
    rw [hk, hn, ha] at this
    exact this.mono fun e W' h => ⟨h.1, keepF h.2 p0 p1 p2 p3 p6⟩
  have K9 : Hid (∀ W, W.cell? ⟨w.heap.size, 0, none⟩ = some (.bool st) ∧ W.cell? ⟨w.heap.size, 1, none⟩ = some (.slice o k cap) ∧ W.cell? ⟨w.heap.size + 1, 0, none⟩ = some (.bool st2) ∧ W.cell? ⟨w.heap.size + 1, 1, none⟩ = some (.slice o2 k2 cap2) ∧ Below w5.heap.size w5 W → Calls Tryz.prog 16 #[patV st o k cap, patV st2 o2 k2 cap2] W fun e W' => e = .returned (.bool s) ∧ W'.cell? ⟨w.heap.size, 0, none⟩ = some (.bool st) ∧ W'.cell? ⟨w.heap.size, 1, none⟩ = some (.slice o k cap) ∧ W'.cell? ⟨w.heap.size + 1, 0, none⟩ = some (.bool st2) ∧ W'.cell? ⟨w.heap.size + 1, 1, none⟩ = some (.slice o2 k2 cap2) ∧ Below w5.heap.size w5 W') := Lib.hid fun W hW => by
    obtain ⟨p0, p1, p2, p3, p6⟩ := hW
    have := Same_anyQ st st2 o o2 X Y cap cap2 (by omega) W (HAX.out.below p6) (HAY.out.below p6)
    rw [hk, hk2, hs] at this
    exact this.mono fun e W' h => ⟨h.1, keepF h.2 p0 p1 p2 p3 p6⟩
  have K10 : Hid (∀ W, W.cell? ⟨w.heap.size, 0, none⟩ = some (.bool st) ∧ W.cell? ⟨w.heap.size, 1, none⟩ = some (.slice o k cap) ∧ W.cell? ⟨w.heap.size + 1, 0, none⟩ = some (.bool st2) ∧ W.cell? ⟨w.heap.size + 1, 1, none⟩ = some (.slice o2 k2 cap2) ∧ Below w5.heap.size w5 W → Calls Tryz.prog 17 #[patV st o k cap, patV st2 o2 k2 cap2] W fun e W' => e = .returned (.bool s) ∧ W'.cell? ⟨w.heap.size, 0, none⟩ = some (.bool st) ∧ W'.cell? ⟨w.heap.size, 1, none⟩ = some (.slice o k cap) ∧ W'.cell? ⟨w.heap.size + 1, 0, none⟩ = some (.bool st2) ∧ W'.cell? ⟨w.heap.size + 1, 1, none⟩ = some (.slice o2 k2 cap2) ∧ Below w5.heap.size w5 W') := Lib.hid fun W hW => by
    obtain ⟨p0, p1, p2, p3, p6⟩ := hW
    have := refSame_anyQ st st2 o o2 X Y cap cap2 (by omega) (by omega) W (HAX.out.below p6) (HAY.out.below p6)
    rw [hk, hk2, hs] at this
    exact this.mono fun e W' h => ⟨h.1, keepF h.2 p0 p1 p2 p3 p6⟩
  have K11 : Hid (∀ W, W.cell? ⟨w.heap.size, 0, none⟩ = some (.bool st) ∧ W.cell? ⟨w.heap.size, 1, none⟩ = some (.slice o k cap) ∧ W.cell? ⟨w.heap.size + 1, 0, none⟩ = some (.bool st2) ∧ W.cell? ⟨w.heap.size + 1, 1, none⟩ = some (.slice o2 k2 cap2) ∧ Below w5.heap.size w5 W → Calls Tryz.prog 16 #[patV st o k cap, patV st o k cap] W fun e W' => e = .returned (.bool true) ∧ W'.cell? ⟨w.heap.size, 0, none⟩ = some (.bool st) ∧ W'.cell? ⟨w.heap.size, 1, none⟩ = some (.slice o k cap) ∧ W'.cell? ⟨w.heap.size + 1, 0, none⟩ = some (.bool st2) ∧ W'.cell? ⟨w.heap.size + 1, 1, none⟩ = some (.slice o2 k2 cap2) ∧ Below w5.heap.size w5 W') := Lib.hid fun W hW => by
    obtain ⟨p0, p1, p2, p3, p6⟩ := hW
    have := Same_anyQ st st o o X X cap cap (by omega) W (HAX.out.below p6) (HAX.out.below p6)
    rw [hk, sameB_self] at this
    exact this.mono fun e W' h => ⟨h.1, keepF h.2 p0 p1 p2 p3 p6⟩
  have HPQ : Hid (∀ W, Below w5.heap.size w5 W → P (.returned (.bool true)) W) := by
    rw [← HP.out]
    exact Lib.hid fun W h => ⟨rfl, HB5.out.trans (h.mono HB5.out.size)⟩
  have HD : w5.drew.cell? ⟨w.heap.size, 0, none⟩ = some (.bool st) ∧ w5.drew.cell? ⟨w.heap.size, 1, none⟩ = some (.slice o k cap) ∧ w5.drew.cell? ⟨w.heap.size + 1, 0, none⟩ = some (.bool st2) ∧ w5.drew.cell? ⟨w.heap.size + 1, 1, none⟩ = some (.slice o2 k2 cap2) ∧ Below w5.heap.size w5 w5.drew := keepF (Below.refl _ _).drew c0 c1 c2 c3 (Below.refl _ _)
  have e1 : (r == r) = true := by simp
  have e2 : (f == f) = true := by simp
  have e3 : (b == b) = true := by simp
  have e4 : (a == a) = true := by simp
  have e5 : (s == s) = true := by simp
  have hfol : Tryz.prog.follows .mixedOrders = true := by kernel_rfl
  clear hr hf hb ha hs hn hk hk2 hlz hls hX12 hY12 hL40
  go_wp2_with fail
  go_region_held3 (fun W => W.cell? ⟨w.heap.size, 0, none⟩ = some (.bool st) ∧ W.cell? ⟨w.heap.size, 1, none⟩ = some (.slice o k cap) ∧ W.cell? ⟨w.heap.size + 1, 0, none⟩ = some (.bool st2) ∧ W.cell? ⟨w.heap.size + 1, 1, none⟩ = some (.slice o2 k2 cap2) ∧ Below w5.heap.size w5 W) (first | assumption | exact HD | go_keep) (first | (go_at_call 8; refine (K1.out _ (by first | assumption | exact HD | exact hg)).mono ?_; rintro e w' ⟨rfl, hg⟩) | (go_at_call 9; refine (K2.out _ (by first | assumption | exact HD | exact hg)).mono ?_; rintro e w' ⟨rfl, hg⟩) | (go_at_call 10; refine (K3.out _ (by first | assumption | exact HD | exact hg)).mono ?_; rintro e w' ⟨rfl, hg⟩) | (go_at_call 11; refine (K4.out _ (by first | assumption | exact HD | exact hg)).mono ?_; rintro e w' ⟨rfl, hg⟩) | (go_at_call 12; refine (K5.out _ (by first | assumption | exact HD | exact hg)).mono ?_; rintro e w' ⟨rfl, hg⟩) | (go_at_call 13; refine (K6.out _ (by first | assumption | exact HD | exact hg)).mono ?_; rintro e w' ⟨rfl, hg⟩) | (go_at_call 14; refine (K7.out _ (by first | assumption | exact HD | exact hg)).mono ?_; rintro e w' ⟨rfl, hg⟩) | (go_at_call 15; refine (K8.out _ (by first | assumption | exact HD | exact hg)).mono ?_; rintro e w' ⟨rfl, hg⟩) | (go_at_call 17; refine (K10.out _ (by first | assumption | exact HD | exact hg)).mono ?_; rintro e w' ⟨rfl, hg⟩) | (go_at_call 16; (first | with_reducible refine (K9.out _ (by first | assumption | exact HD | exact hg)).mono ?_ | with_reducible refine (K11.out _ (by first | assumption | exact HD | exact hg)).mono ?_); rintro e w' ⟨rfl, hg⟩))
  go_wp2
  exact HPQ.out _ hg.2.2.2.2
end Go.Proofs.YtgjjmbiihbepeaaGreatDoor
