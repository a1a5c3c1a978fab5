/- Shaken by bunq.py. -/
import Derived.Test.YtaoooocalpkhjaaDoorBuq9
import Derived.Test.YtaoooocalpkhjaaDoorBuq2
import Derived.Deep.QuietTactic
import Derived.Test.YtaoooocalpkhjaaDoorBuq13
namespace Go.Proofs.YtaoooocalpkhjaaDoor
open Go.RowKit Go.Shelf Go.Maps
attribute [local go_sem] Oper.semAt_some

theorem take_eqD {α : Type} {l l2 : List α} {j : Nat} {x y : α} (h : l.take j = l2.take j) (hx : l[j]? = some x) (hy : l2[j]? = some y) (hxy : x = y) : l.take (j + 1) = l2.take (j + 1) := by
  rw [List.take_add_one, List.take_add_one, h, hx, hy, hxy]
set_option maxRecDepth 100000 in
set_option maxHeartbeats 4000000 in
theorem equalN_any (o o2 : Option Addr) (l l2 : List Int) (cap cap2 : Nat) (hn : l.length ≤ 1000000000) (w : World) (hA : NumsAt w o l) (hA2 : NumsAt w o2 l2) :
    Calls Tryd.prog 37 #[.slice o l.length cap, .slice o2 l2.length cap2] w fun e w' => e = .returned (.bool (decide (l = l2))) ∧ Below w.heap.size w w' := by
  obtain ⟨n, hnn⟩ : ∃ n, l.length = n := ⟨_, rfl⟩
  obtain ⟨n2, hnn2⟩ : ∃ n, l2.length = n := ⟨_, rfl⟩
  rw [hnn] at hn ⊢
  rw [hnn2]
  have HN := Lib.hid hnn
  have HN2 := Lib.hid hnn2
  have HA := Lib.hid hA
  have HA2 := Lib.hid hA2
  obtain ⟨P, hP⟩ : ∃ P, (fun (e : Ending) w' => e = .returned (.bool (decide (l = l2))) ∧ Below w.heap.size w w') = P := ⟨_, rfl⟩
  have HP := Lib.hid hP
  rw [hP]
  clear hP hA hA2 hnn hnn2
  go_enter Tryd.func37, Tryd.ntmps37
  by_cases hnl : n = n2
  · subst hnl
    go_wp2_with fail
    go_loopg [13] n (fun k v wr => ∃ (j : Nat), v = .int .i64 (j : Nat) ∧ j ≤ n ∧ k = n - j ∧ Hid (l.take j = l2.take j) ∧ Hid (Below w.heap.size w wr))
    case atStart => exact ⟨0, rfl, Nat.zero_le _, rfl, Lib.hid rfl, Lib.hid (Below.refl _ _)⟩
    case round =>
      obtain ⟨j, rfl, hj, rfl, htk, HBR⟩ := hrel
      rcases Nat.lt_or_ge j n with hlt | hge
      · have hj1 : j < 1000000000 := by omega
        obtain ⟨x, hx⟩ : ∃ x, l[j]? = some x := ⟨_, List.getElem?_eq_getElem (by rw [HN.out]; exact hlt)⟩
        obtain ⟨y, hy⟩ : ∃ y, l2[j]? = some y := ⟨_, List.getElem?_eq_getElem (by rw [HN2.out]; exact hlt)⟩
        obtain ⟨g, off, rfl, hc⟩ := (HA.out.below HBR.out) (by rw [HN.out]; omega)
        have k0 := hc j x hx
        obtain ⟨g2, off2, rfl, hc2⟩ := (HA2.out.below HBR.out) (by rw [HN2.out]; omega)
        have m0 := hc2 j y hy
        have hg := World.block_lt_of_cell? wr _ k0
        have hg2 := World.block_lt_of_cell? wr _ m0
        have HX := Lib.hid hx
        have HY := Lib.hid hy
        have HBD := Lib.hid HBR.out.drew
        clear hc hc2 hx hy
        by_cases hxy : x = y
        · have HT2 := Lib.hid (take_eqD htk.out HX.out HY.out hxy)
          have q1 : (x != y) = false := by simp [hxy]
          clear hxy
          go_wp2_with fail
          go_region
          all_goals
            go_wp2_with fail
            go_roundg (n - (j + 1))
            case measure => omega
            case rel => exact ⟨j + 1, by simp, by omega, rfl, HT2, HBD⟩
        · have HPP : Hid (P (.returned (.bool false)) wr.drew) := by
            rw [← HP.out]
            refine Lib.hid ⟨?_, HBD.out⟩
            rw [decide_eq_false fun he => hxy ?_]
            have h1 := HX.out
            rw [he, HY.out] at h1
            exact (Option.some.inj h1).symm
          have q1 : (x != y) = true := by simp [hxy]
          clear hxy
          go_wp2_with fail
          go_region
          all_goals
            go_wp2_with fail
            exact HPP.out
      · obtain rfl : j = n := by omega
        have hT := htk.out
        rw [List.take_of_length_le (by rw [HN.out]; exact Nat.le_refl _), List.take_of_length_le (by rw [HN2.out]; exact Nat.le_refl _)] at hT
        have HQ : Hid (P (.returned (.bool true)) wr) := Lib.hid (by
          rw [← HP.out]
          exact ⟨by rw [decide_eq_true hT], HBR.out⟩)
        clear hT htk
        go_wp2
        exact HQ.out
  · have HQ : Hid (P (.returned (.bool false)) w) := Lib.hid (by
      rw [← HP.out]
      exact ⟨by rw [decide_eq_false fun h => hnl (by rw [← HN.out, ← HN2.out, h])], Below.refl _ _⟩)
    have hb : (((n : Nat) : Int) != ((n2 : Nat) : Int)) = true := by simp; omega
    go_wp2_with fail
    exact HQ.out
set_option maxRecDepth 100000 in
set_option maxHeartbeats 4000000 in
theorem equalL_any (o o2 : Option Addr) (l l2 : List Int) (cap cap2 : Nat) (hn : l.length ≤ 1000000000) (w : World) (hA : NumsAt w o l) (hA2 : NumsAt w o2 l2) :
    Calls Tryd.prog 35 #[.slice o l.length cap, .slice o2 l2.length cap2] w fun e w' => e = .returned (.bool (decide (l = l2))) ∧ Below w.heap.size w w' := by
  obtain ⟨n, hnn⟩ : ∃ n, l.length = n := ⟨_, rfl⟩
  obtain ⟨n2, hnn2⟩ : ∃ n, l2.length = n := ⟨_, rfl⟩
  rw [hnn] at hn ⊢
  rw [hnn2]
  have HN := Lib.hid hnn
  have HN2 := Lib.hid hnn2
  have HA := Lib.hid hA
  have HA2 := Lib.hid hA2
  obtain ⟨P, hP⟩ : ∃ P, (fun (e : Ending) w' => e = .returned (.bool (decide (l = l2))) ∧ Below w.heap.size w w') = P := ⟨_, rfl⟩
  have HP := Lib.hid hP
  rw [hP]
  clear hP hA hA2 hnn hnn2
  go_enter Tryd.func35, Tryd.ntmps35
  by_cases hnl : n = n2
  · subst hnl
    go_wp2_with fail
    go_loopg [13] n (fun k v wr => ∃ (j : Nat), v = .int .i64 (j : Nat) ∧ j ≤ n ∧ k = n - j ∧ Hid (l.take j = l2.take j) ∧ Hid (Below w.heap.size w wr))
    case atStart => exact ⟨0, rfl, Nat.zero_le _, rfl, Lib.hid rfl, Lib.hid (Below.refl _ _)⟩
    case round =>
      obtain ⟨j, rfl, hj, rfl, htk, HBR⟩ := hrel
      rcases Nat.lt_or_ge j n with hlt | hge
      · have hj1 : j < 1000000000 := by omega
        obtain ⟨x, hx⟩ : ∃ x, l[j]? = some x := ⟨_, List.getElem?_eq_getElem (by rw [HN.out]; exact hlt)⟩
        obtain ⟨y, hy⟩ : ∃ y, l2[j]? = some y := ⟨_, List.getElem?_eq_getElem (by rw [HN2.out]; exact hlt)⟩
        obtain ⟨g, off, rfl, hc⟩ := (HA.out.below HBR.out) (by rw [HN.out]; omega)
        have k0 := hc j x hx
        obtain ⟨g2, off2, rfl, hc2⟩ := (HA2.out.below HBR.out) (by rw [HN2.out]; omega)
        have m0 := hc2 j y hy
        have hg := World.block_lt_of_cell? wr _ k0
        have hg2 := World.block_lt_of_cell? wr _ m0
        have HX := Lib.hid hx
        have HY := Lib.hid hy
        have HBD := Lib.hid HBR.out.drew
        clear hc hc2 hx hy
        by_cases hxy : x = y
        · have HT2 := Lib.hid (take_eqD htk.out HX.out HY.out hxy)
          have q1 : (x != y) = false := by simp [hxy]
          clear hxy
          go_wp2_with fail
          go_region
          all_goals
            go_wp2_with fail
            go_roundg (n - (j + 1))
            case measure => omega
            case rel => exact ⟨j + 1, by simp, by omega, rfl, HT2, HBD⟩
        · have HPP : Hid (P (.returned (.bool false)) wr.drew) := by
            rw [← HP.out]
            refine Lib.hid ⟨?_, HBD.out⟩
            rw [decide_eq_false fun he => hxy ?_]
            have h1 := HX.out
            rw [he, HY.out] at h1
            exact (Option.some.inj h1).symm
          have q1 : (x != y) = true := by simp [hxy]
          clear hxy
          go_wp2_with fail
          go_region
          all_goals
            go_wp2_with fail
            exact HPP.out
      · obtain rfl : j = n := by omega
        have hT := htk.out
        rw [List.take_of_length_le (by rw [HN.out]; exact Nat.le_refl _), List.take_of_length_le (by rw [HN2.out]; exact Nat.le_refl _)] at hT
        have HQ : Hid (P (.returned (.bool true)) wr) := Lib.hid (by
          rw [← HP.out]
          exact ⟨by rw [decide_eq_true hT], HBR.out⟩)
        clear hT htk
        go_wp2
        exact HQ.out
  · have HQ : Hid (P (.returned (.bool false)) w) := Lib.hid (by
      rw [← HP.out]
      exact ⟨by rw [decide_eq_false fun h => hnl (by rw [← HN.out, ← HN2.out, h])], Below.refl _ _⟩)
    have hb : (((n : Nat) : Int) != ((n2 : Nat) : Int)) = true := by simp; omega
    go_wp2_with fail
    exact HQ.out
abbrev rowP (x : RowD) : List Int := x.2.1
theorem take_mapD {l m : List RowD} {j : Nat} {x y : RowD} (h : (l.take j).map rowP = (m.take j).map rowP) (hx : l[j]? = some x) (hy : m[j]? = some y) (he : rowP x = rowP y) : (l.take (j + 1)).map rowP = (m.take (j + 1)).map rowP := by
  rw [List.take_add_one, List.take_add_one, hx, hy, List.map_append, List.map_append, h]
  simp [he]
theorem map_neD {l m : List RowD} {j : Nat} {x y : RowD} (hx : l[j]? = some x) (hy : m[j]? = some y) (he : rowP x ≠ rowP y) : l.map rowP ≠ m.map rowP := fun h => he (by
  have h1 : (l.map rowP)[j]? = (m.map rowP)[j]? := by rw [h]
  rw [List.getElem?_map, List.getElem?_map, hx, hy] at h1
  exact Option.some.inj h1)
set_option maxRecDepth 100000 in
set_option maxHeartbeats 4000000 in
theorem equalRows_any (o p : Option Addr) (l m : List RowD) (c d : Nat) (hl : l.length ≤ 1000000000) (hz : ∀ x ∈ l, x.2.1.length ≤ 1000000000) (w : World) (hA : RowsD w o l) (hI : ∀ x ∈ l, NumsAt w x.1 x.2.1) (hB : RowsD w p m) (hK : ∀ x ∈ m, NumsAt w x.1 x.2.1) :
    Calls Tryd.prog 36 #[.slice o l.length c, .slice p m.length d, .func (.func 37) #[] #[]] w fun e w' => e = .returned (.bool (decide (l.map rowP = m.map rowP))) ∧ Below w.heap.size w w' := by
  obtain ⟨P, hP⟩ : ∃ P, (fun (e : Ending) (w' : World) => e = .returned (.bool (decide (l.map rowP = m.map rowP))) ∧ Below w.heap.size w w') = P := ⟨_, rfl⟩
  have HP := Lib.hid hP
  rw [hP]
  obtain ⟨n, hnn⟩ : ∃ n, l.length = n := ⟨_, rfl⟩
  obtain ⟨k, hkk⟩ : ∃ n, m.length = n := ⟨_, rfl⟩
  have HN := Lib.hid hnn
  have HK := Lib.hid hkk
  have HA := Lib.hid hA
  have HB := Lib.hid hB
  have HI := Lib.hid hI
  have HJ := Lib.hid hK
  have HF := Lib.hid hz
  rw [hnn] at hl ⊢
  rw [hkk]
  have ANS : Hid (∀ b W, decide (l.map rowP = m.map rowP) = b → Below w.heap.size w W → P (.returned (.bool b)) W) := by
    rw [← HP.out]
    exact Lib.hid fun b W h hb => ⟨by rw [h], hb⟩
  clear hP hnn hkk hA hB hI hK hz
  go_enter Tryd.func36, Tryd.ntmps36
  by_cases hnk : n = k
  · subst hnk
    go_wp2_with fail
    go_loopg [17] n (fun d v wr => ∃ j : Nat, v = .int .i64 (j : Nat) ∧ j ≤ n ∧ d = n - j ∧ Hid ((l.take j).map rowP = (m.take j).map rowP) ∧ Hid (Below w.heap.size w wr))
    case atStart => exact ⟨0, rfl, Nat.zero_le _, rfl, Lib.hid rfl, Lib.hid (Below.refl _ _)⟩
    case round =>
      obtain ⟨j, rfl, hj, rfl, HT, hbr⟩ := hrel
      rcases Nat.lt_or_ge j n with hlt | hge
      · have hj1 : j < 1000000000 := by omega
        obtain ⟨x, hx⟩ : ∃ x, l[j]? = some x := ⟨_, List.getElem?_eq_getElem (by rw [HN.out]; exact hlt)⟩
        obtain ⟨y, hy⟩ : ∃ x, m[j]? = some x := ⟨_, List.getElem?_eq_getElem (by rw [HK.out]; exact hlt)⟩
        obtain ⟨g, off, rfl, hc⟩ := (HA.out.below hbr.out) (by rw [HN.out]; omega)
        obtain ⟨g', off', rfl, hc'⟩ := (HB.out.below hbr.out) (by rw [HK.out]; omega)
        have d0 := hc j x hx
        have c0 := hc' j y hy
        have hg : g < wr.heap.size := World.block_lt_of_cell? wr _ d0
        have hg' : g' < wr.heap.size := World.block_lt_of_cell? wr _ c0
        have hxm := List.mem_of_getElem? hx
        have hym := List.mem_of_getElem? hy
        have CALL := equalN_any x.1 y.1 x.2.1 y.2.1 x.2.2 y.2.2 (HF.out x hxm) wr ((HI.out x hxm).below hbr.out) ((HJ.out y hym).below hbr.out)
        have HNE := Lib.hid (fun he : rowP x ≠ rowP y => map_neD hx hy he)
        have HEQ := Lib.hid (fun he : rowP x = rowP y => take_mapD HT.out hx hy he)
        obtain ⟨D, hD⟩ : ∃ D, decide (x.2.1 = y.2.1) = D := ⟨_, rfl⟩
        have HD := Lib.hid hD
        rw [hD] at CALL
        obtain ⟨xo, xs, xc⟩ := x
        obtain ⟨yo, ys, yc⟩ := y
        simp only at d0 c0 CALL
        obtain ⟨m1, hm1⟩ : ∃ k, xs.length = k := ⟨_, rfl⟩
        obtain ⟨m2, hm2⟩ : ∃ k, ys.length = k := ⟨_, rfl⟩
        rw [hm1] at CALL d0
        rw [hm2] at CALL c0
        have HS := Lib.hid CALL
        clear hc hc' hx hy CALL hxm hym hD hm1 hm2 HA HB HI HJ HF
        go_wp2_with fail
        refine HS.out.mono ?_
        rintro e w1 ⟨rfl, b1⟩
        have HB1 := Lib.hid (hbr.out.trans (b1.mono hbr.out.size))
        clear b1 d0 c0
        cases D with
        | true =>
          have HT2 := Lib.hid (HEQ.out (of_decide_eq_true HD.out))
          go_wp2
          go_roundg (n - (j + 1))
          case measure => omega
          case rel => exact ⟨j + 1, by simp, by omega, rfl, HT2, HB1⟩
        | false =>
          have HQ := Lib.hid (ANS.out false w1 (decide_eq_false (HNE.out (of_decide_eq_false HD.out))) HB1.out)
          clear ANS
          go_wp2
          exact HQ.out
      · obtain rfl : j = n := by omega
        have hT := HT.out
        rw [List.take_of_length_le (by rw [HN.out]; exact Nat.le_refl _), List.take_of_length_le (by rw [HK.out]; exact Nat.le_refl _)] at hT
        have HQ := Lib.hid (ANS.out true wr (decide_eq_true hT) hbr.out)
        clear hT HT ANS
        go_wp2
        exact HQ.out
  · have HQ := Lib.hid (ANS.out false w (decide_eq_false fun h => hnk (by rw [← HN.out, ← HK.out]; simpa using congrArg List.length h)) (Below.refl _ _))
    have hb : (((n : Nat) : Int) != ((k : Nat) : Int)) = true := by simp; omega
    clear ANS
    go_wp2_with fail
    exact HQ.out
set_option maxRecDepth 100000 in
set_option maxHeartbeats 4000000 in
theorem SameD_any (a b : MachX) (ha : a.fits.length ≤ 1000000000) (ha2 : a.rows.length ≤ 1000000000) (ha3 : ∀ x ∈ a.rows, x.2.1.length ≤ 1000000000) (w : World) (hA : MachD w a) (hB : MachD w b) :
    Calls Tryd.prog 17 #[a.v, b.v] w fun e w' => e = .returned (.bool (decide (a.fits = b.fits) && decide (a.rows.map rowP = b.rows.map rowP))) ∧ Below w.heap.size w w' := by
  obtain ⟨w0, hw0⟩ : ∃ w0, w.alloc (.cells #[.slice a.no a.rows.length a.nc, .slice a.fo a.fits.length a.fc] 25) = w0 := ⟨_, rfl⟩
  have b0 : Below w.heap.size w w0 := by rw [← hw0]; exact (Below.refl _ _).alloc (Nat.le_refl _) _
  have z0 : w0.heap.size = w.heap.size + 1 := by rw [← hw0]; simp
  have r0 : w0.heap[w.heap.size]? = some (.cells #[.slice a.no a.rows.length a.nc, .slice a.fo a.fits.length a.fc] 25 (0, 0)) := by rw [← hw0]; exact heap_alloc_new _ _
  obtain ⟨w1, hw1⟩ : ∃ w1, w0.alloc (.cells #[.slice b.no b.rows.length b.nc, .slice b.fo b.fits.length b.fc] 25) = w1 := ⟨_, rfl⟩
  have bb1 : Below w0.heap.size w0 w1 := by rw [← hw1]; exact (Below.refl _ _).alloc (Nat.le_refl _) _
  have r1 : w1.heap[w.heap.size + 1]? = some (.cells #[.slice b.no b.rows.length b.nc, .slice b.fo b.fits.length b.fc] 25 (0, 0)) := by rw [← hw1, ← z0]; exact heap_alloc_new _ _
  have b1 := b0.trans (bb1.mono b0.size)
  have hr0 := row_below r0 bb1
  have MA := hA.below b1
  have MB := hB.below b1
  have HC := Lib.hid (equalL_any a.fo b.fo a.fits b.fits a.fc b.fc ha w1 MA.fits MB.fits)
  have HE := Lib.hid (fun (W : World) (hW : Below w1.heap.size w1 W) => equalRows_any a.no b.no a.rows b.rows a.nc b.nc ha2 ha3 W (MA.rows.below hW) (fun x hx => (MA.row x hx).below hW) (MB.rows.below hW) (fun x hx => (MB.row x hx).below hW))
  have HRA := Lib.hid hr0
  have HRB := Lib.hid r1
  rw [← hw0] at hw1
  have HW1 := Lib.hid hw1
  have HB1 := Lib.hid b1
  obtain ⟨D, hD⟩ : ∃ D, decide (a.fits = b.fits) = D := ⟨_, rfl⟩
  obtain ⟨E, hE⟩ : ∃ E, decide (a.rows.map rowP = b.rows.map rowP) = E := ⟨_, rfl⟩
  rw [hD] at HC ⊢
  rw [hE] at HE ⊢
  obtain ⟨c00, c01⟩ : w1.cell? ⟨w.heap.size, 0, none⟩ = some (.slice a.no a.rows.length a.nc) ∧ w1.cell? ⟨w.heap.size, 1, none⟩ = some (.slice a.fo a.fits.length a.fc) := ⟨by rw [cell_of_row _ _ 0 _ _ _ hr0]; rfl, by rw [cell_of_row _ _ 1 _ _ _ hr0]; rfl⟩
  obtain ⟨c10, c11⟩ : w1.cell? ⟨w.heap.size + 1, 0, none⟩ = some (.slice b.no b.rows.length b.nc) ∧ w1.cell? ⟨w.heap.size + 1, 1, none⟩ = some (.slice b.fo b.fits.length b.fc) := ⟨by rw [cell_of_row _ _ 0 _ _ _ r1]; rfl, by rw [cell_of_row _ _ 1 _ _ _ r1]; rfl⟩
  have l0 := World.block_lt_of_cell? w1 _ c00
  have l1 := World.block_lt_of_cell? w1 _ c10
  clear hw0 b0 z0 r0 hw1 bb1 r1 b1 hr0 MA MB hA hB ha ha2 ha3 hD hE
  obtain ⟨no, rows, nc, fo, fits, fc⟩ := a
  obtain ⟨no2, rows2, nc2, fo2, fits2, fc2⟩ := b
  simp only at HC HE HRA HRB HW1 c00 c01 c10 c11
  show Calls _ _ #[.agg #[.slice no rows.length nc, .slice fo fits.length fc], .agg #[.slice no2 rows2.length nc2, .slice fo2 fits2.length fc2]] _ _
  obtain ⟨q, hq⟩ : ∃ q, rows.length = q := ⟨_, rfl⟩
  obtain ⟨f, hf⟩ : ∃ f, fits.length = f := ⟨_, rfl⟩
  obtain ⟨q2, hq2⟩ : ∃ q, rows2.length = q := ⟨_, rfl⟩
  obtain ⟨f2, hf2⟩ : ∃ f, fits2.length = f := ⟨_, rfl⟩
  rw [hq] at HE HRA HW1 c00 ⊢
  rw [hf] at HC HRA HW1 c01 ⊢
  rw [hq2] at HE HRB HW1 c10 ⊢
  rw [hf2] at HC HRB HW1 c11 ⊢
  clear hq hf hq2 hf2
  go_enter Tryd.func17, Tryd.ntmps17
  go_wp2_with fail
  rw [HW1.out]
  go_wp2_with fail
  refine HC.out.mono ?_
  rintro e w3 ⟨rfl, b3⟩
  have HB3 := Lib.hid (HB1.out.trans (b3.mono HB1.out.size))
  have HC2 := Lib.hid (HE.out w3 b3)
  have e00 := cell_keepQ b3 c00
  have e10 := cell_keepQ b3 c10
  have l03 := World.block_lt_of_cell? w3 _ e00
  have l13 := World.block_lt_of_cell? w3 _ e10
  clear b3
  cases D with
  | false =>
    go_wp2_with fail
    go_ret
    exact ⟨rfl, HB3.out⟩
  | true =>
    go_wp2_with fail
    refine HC2.out.mono ?_
    rintro e w4 ⟨rfl, b4⟩
    have HB4 := Lib.hid (HB3.out.trans (b4.mono HB3.out.size))
    clear b4
    go_wp2_with fail
    go_ret
    exact ⟨rfl, HB4.out⟩
end Go.Proofs.YtaoooocalpkhjaaDoor
namespace Go.Proofs.YtaoooocalpkhjaaDoor
open Go.RowKit Go.Shelf Go.Maps
attribute [local go_sem] Oper.semAt_some

theorem below_drewD1 (w : World) (q : Nat) : Below w.heap.size w (w.drewN q) := Moves.below (Below.refl _ _) (Nat.le_refl _) (moves_drewNQ _ _) (fun _ h => h.elim)
theorem below_drewD2 (w : World) (q p : Nat) : Below w.heap.size w ((w.drewN q).drewN p) := by rw [World.drewN_drewN]; exact below_drewD1 _ _
theorem nums_ownN {w : World} {base cap : Nat} {o : Option Addr} {e : TypeId} {l : List Nat} (h : w.ownsRow base e 1 (.slice o l.length cap) l.length (l.map fun s => .int .i64 ((s : Nat) : Int))) : NumsAt w o (natsZ l) := fun hn => by
  obtain ⟨g, ho, hc⟩ := row_placeK h (by simpa using hn)
  refine ⟨g, 0, ho, fun j x hx => ?_⟩
  rw [Nat.zero_add]
  rw [List.getElem?_map] at hx
  obtain ⟨y, hy, rfl⟩ := Option.map_eq_some_iff.1 hx
  exact hc j _ (by rw [List.getElem?_map, hy]; rfl)
theorem nums_ownZ {w : World} {base cap : Nat} {o : Option Addr} {e : TypeId} {l : List Int} (h : w.ownsRow base e 1 (.slice o l.length cap) l.length (l.map (Value.int .i64))) : NumsAt w o l := fun hn => by
  obtain ⟨g, ho, hc⟩ := row_placeK h hn
  refine ⟨g, 0, ho, fun j x hx => ?_⟩
  rw [Nat.zero_add]
  exact hc j _ (by rw [List.getElem?_map, hx]; rfl)
set_option maxRecDepth 100000 in
set_option maxHeartbeats 2000000 in
theorem setsL12_any (o o2 : Option Addr) (l l2 : List Int) (cap cap2 : Nat) (hn : l.length ≤ 1000000) (w : World) (hA : NumsAt w o l) (hA2 : NumsAt w o2 l2) :
    Calls Tryd.prog 28 #[.slice o l.length cap, .slice o2 l2.length cap2] w fun e w' => e = .returned (.bool (decide (l = l2))) ∧ Below w.heap.size w w' := by
  obtain ⟨n, hnn⟩ : ∃ n, l.length = n := ⟨_, rfl⟩
  obtain ⟨n2, hnn2⟩ : ∃ n, l2.length = n := ⟨_, rfl⟩
  rw [hnn] at hn ⊢
  rw [hnn2]
  have HN := Lib.hid hnn
  have HN2 := Lib.hid hnn2
  have HA := Lib.hid hA
  have HA2 := Lib.hid hA2
  obtain ⟨P, hP⟩ : ∃ P, (fun (e : Ending) w' => e = .returned (.bool (decide (l = l2))) ∧ Below w.heap.size w w') = P := ⟨_, rfl⟩
  have HP := Lib.hid hP
  rw [hP]
  clear hP hA hA2 hnn hnn2
  go_enter Tryd.func28, Tryd.ntmps28
  by_cases hnl : n = n2
  · subst hnl
    go_wp2_with fail
    go_loopg [5] n (fun k v wr => ∃ (j q : Nat), v = .int .i64 (j : Nat) ∧ j ≤ n ∧ k = n - j ∧ l.take j = l2.take j ∧ wr = w.drewN q)
    case atStart => exact ⟨0, 0, rfl, Nat.zero_le _, rfl, rfl, rfl⟩
    case round =>
      obtain ⟨j, q, rfl, hj, rfl, htk, rfl⟩ := hrel
      rcases Nat.lt_or_ge j n with hlt | hge
      · have hj1 : j < 1000000 := by omega
        obtain ⟨x, hx⟩ : ∃ x, l[j]? = some x := ⟨_, List.getElem?_eq_getElem (by rw [HN.out]; exact hlt)⟩
        obtain ⟨y, hy⟩ : ∃ y, l2[j]? = some y := ⟨_, List.getElem?_eq_getElem (by rw [HN2.out]; exact hlt)⟩
        obtain ⟨g, off, rfl, hc⟩ := HA.out (by rw [HN.out]; omega)
        have k0 := hc j x hx
        obtain ⟨g2, off2, rfl, hc2⟩ := HA2.out (by rw [HN2.out]; omega)
        have m0 := hc2 j y hy
        have hg := World.block_lt_of_cell? w _ k0
        have hg2 := World.block_lt_of_cell? w _ m0
        have HX := Lib.hid hx
        have HY := Lib.hid hy
        have HT := Lib.hid htk
        clear hc hc2 hx hy htk
        by_cases hxy : x = y
        · have HT2 := Lib.hid (take_eqD HT.out HX.out HY.out hxy)
          subst hxy
          go_wp2_with fail
          go_quiet (fail)
          go_wp2
          go_roundg (n - (j + 1))
          case measure => omega
          case rel => exact ⟨j + 1, q + nq, by simp, by omega, rfl, HT2.out, rfl⟩
        · have HPP : Hid (∀ nq, P (.returned (.bool false)) ((w.drewN q).drewN nq)) := by
            rw [← HP.out]
            refine Lib.hid fun nq => ⟨?_, below_drewD2 _ _ _⟩
            rw [decide_eq_false fun he => hxy ?_]
            have h1 := HX.out
            rw [he, HY.out] at h1
            exact (Option.some.inj h1).symm
          have hxy2 : (x == y) = false := by rw [beq_eq_false_iff_ne]; exact hxy
          go_wp2_with fail
          go_quiet (fail)
          go_wp2
          exact HPP.out _
      · obtain rfl : j = n := by omega
        have HPP : Hid (P (.returned (.bool true)) (w.drewN q)) := by
          rw [← HP.out]
          refine Lib.hid ⟨?_, below_drewD1 _ _⟩
          have h := htk
          rw [List.take_of_length_le (by rw [HN.out]; exact Nat.le_refl _), List.take_of_length_le (by rw [HN2.out]; exact Nat.le_refl _)] at h
          rw [decide_eq_true h]
        clear htk
        go_wp2
        exact HPP.out
  · have HPP : Hid (P (.returned (.bool false)) w) := by
      rw [← HP.out]
      refine Lib.hid ⟨?_, Below.refl _ _⟩
      rw [decide_eq_false fun he => hnl ?_]
      rw [← HN.out, ← HN2.out, he]
    go_wp2
    exact HPP.out
set_option maxRecDepth 100000 in
set_option maxHeartbeats 2000000 in
theorem setsR12_any (o o2 : Option Addr) (l l2 : List Int) (cap cap2 : Nat) (hn : l.length ≤ 1000000) (w : World) (hA : NumsAt w o l) (hA2 : NumsAt w o2 l2) :
    Calls Tryd.prog 45 #[.slice o l.length cap, .slice o2 l2.length cap2] w fun e w' => e = .returned (.bool (decide (l = l2))) ∧ Below w.heap.size w w' := by
  obtain ⟨n, hnn⟩ : ∃ n, l.length = n := ⟨_, rfl⟩
  obtain ⟨n2, hnn2⟩ : ∃ n, l2.length = n := ⟨_, rfl⟩
  rw [hnn] at hn ⊢
  rw [hnn2]
  have HN := Lib.hid hnn
  have HN2 := Lib.hid hnn2
  have HA := Lib.hid hA
  have HA2 := Lib.hid hA2
  obtain ⟨P, hP⟩ : ∃ P, (fun (e : Ending) w' => e = .returned (.bool (decide (l = l2))) ∧ Below w.heap.size w w') = P := ⟨_, rfl⟩
  have HP := Lib.hid hP
  rw [hP]
  clear hP hA hA2 hnn hnn2
  go_enter Tryd.func45, Tryd.ntmps45
  by_cases hnl : n = n2
  · subst hnl
    go_wp2_with fail
    go_loopg [5] n (fun k v wr => ∃ (j q : Nat), v = .int .i64 (j : Nat) ∧ j ≤ n ∧ k = n - j ∧ l.take j = l2.take j ∧ wr = w.drewN q)
    case atStart => exact ⟨0, 0, rfl, Nat.zero_le _, rfl, rfl, rfl⟩
    case round =>
      obtain ⟨j, q, rfl, hj, rfl, htk, rfl⟩ := hrel
      rcases Nat.lt_or_ge j n with hlt | hge
      · have hj1 : j < 1000000 := by omega
        obtain ⟨x, hx⟩ : ∃ x, l[j]? = some x := ⟨_, List.getElem?_eq_getElem (by rw [HN.out]; exact hlt)⟩
        obtain ⟨y, hy⟩ : ∃ y, l2[j]? = some y := ⟨_, List.getElem?_eq_getElem (by rw [HN2.out]; exact hlt)⟩
        obtain ⟨g, off, rfl, hc⟩ := HA.out (by rw [HN.out]; omega)
        have k0 := hc j x hx
        obtain ⟨g2, off2, rfl, hc2⟩ := HA2.out (by rw [HN2.out]; omega)
        have m0 := hc2 j y hy
        have hg := World.block_lt_of_cell? w _ k0
        have hg2 := World.block_lt_of_cell? w _ m0
        have HX := Lib.hid hx
        have HY := Lib.hid hy
        have HT := Lib.hid htk
        clear hc hc2 hx hy htk
        by_cases hxy : x = y
        · have HT2 := Lib.hid (take_eqD HT.out HX.out HY.out hxy)
          subst hxy
          go_wp2_with fail
          go_quiet (fail)
          go_wp2
          go_roundg (n - (j + 1))
          case measure => omega
          case rel => exact ⟨j + 1, q + nq, by simp, by omega, rfl, HT2.out, rfl⟩
        · have HPP : Hid (∀ nq, P (.returned (.bool false)) ((w.drewN q).drewN nq)) := by
            rw [← HP.out]
            refine Lib.hid fun nq => ⟨?_, below_drewD2 _ _ _⟩
            rw [decide_eq_false fun he => hxy ?_]
            have h1 := HX.out
            rw [he, HY.out] at h1
            exact (Option.some.inj h1).symm
          have hxy2 : (x == y) = false := by rw [beq_eq_false_iff_ne]; exact hxy
          go_wp2_with fail
          go_quiet (fail)
          go_wp2
          exact HPP.out _
      · obtain rfl : j = n := by omega
        have HPP : Hid (P (.returned (.bool true)) (w.drewN q)) := by
          rw [← HP.out]
          refine Lib.hid ⟨?_, below_drewD1 _ _⟩
          have h := htk
          rw [List.take_of_length_le (by rw [HN.out]; exact Nat.le_refl _), List.take_of_length_le (by rw [HN2.out]; exact Nat.le_refl _)] at h
          rw [decide_eq_true h]
        clear htk
        go_wp2
        exact HPP.out
  · have HPP : Hid (P (.returned (.bool false)) w) := by
      rw [← HP.out]
      refine Lib.hid ⟨?_, Below.refl _ _⟩
      rw [decide_eq_false fun he => hnl ?_]
      rw [← HN.out, ← HN2.out, he]
    go_wp2
    exact HPP.out
set_option maxRecDepth 100000 in
set_option maxHeartbeats 2000000 in
theorem intsR_any (o o2 : Option Addr) (l l2 : List Int) (cap cap2 : Nat) (hn : l.length ≤ 1000000) (w : World) (hA : NumsAt w o l) (hA2 : NumsAt w o2 l2) :
    Calls Tryd.prog 14 #[.slice o l.length cap, .slice o2 l2.length cap2] w fun e w' => e = .returned (.bool (decide (l = l2))) ∧ Below w.heap.size w w' := by
  obtain ⟨n, hnn⟩ : ∃ n, l.length = n := ⟨_, rfl⟩
  obtain ⟨n2, hnn2⟩ : ∃ n, l2.length = n := ⟨_, rfl⟩
  rw [hnn] at hn ⊢
  rw [hnn2]
  have HN := Lib.hid hnn
  have HN2 := Lib.hid hnn2
  have HA := Lib.hid hA
  have HA2 := Lib.hid hA2
  obtain ⟨P, hP⟩ : ∃ P, (fun (e : Ending) w' => e = .returned (.bool (decide (l = l2))) ∧ Below w.heap.size w w') = P := ⟨_, rfl⟩
  have HP := Lib.hid hP
  rw [hP]
  clear hP hA hA2 hnn hnn2
  go_enter Tryd.func14, Tryd.ntmps14
  by_cases hnl : n = n2
  · subst hnl
    go_wp2_with fail
    go_loopg [5] n (fun k v wr => ∃ (j q : Nat), v = .int .i64 (j : Nat) ∧ j ≤ n ∧ k = n - j ∧ l.take j = l2.take j ∧ wr = w.drewN q)
    case atStart => exact ⟨0, 0, rfl, Nat.zero_le _, rfl, rfl, rfl⟩
    case round =>
      obtain ⟨j, q, rfl, hj, rfl, htk, rfl⟩ := hrel
      rcases Nat.lt_or_ge j n with hlt | hge
      · have hj1 : j < 1000000 := by omega
        obtain ⟨x, hx⟩ : ∃ x, l[j]? = some x := ⟨_, List.getElem?_eq_getElem (by rw [HN.out]; exact hlt)⟩
        obtain ⟨y, hy⟩ : ∃ y, l2[j]? = some y := ⟨_, List.getElem?_eq_getElem (by rw [HN2.out]; exact hlt)⟩
        obtain ⟨g, off, rfl, hc⟩ := HA.out (by rw [HN.out]; omega)
        have k0 := hc j x hx
        obtain ⟨g2, off2, rfl, hc2⟩ := HA2.out (by rw [HN2.out]; omega)
        have m0 := hc2 j y hy
        have hg := World.block_lt_of_cell? w _ k0
        have hg2 := World.block_lt_of_cell? w _ m0
        have HX := Lib.hid hx
        have HY := Lib.hid hy
        have HT := Lib.hid htk
        clear hc hc2 hx hy htk
        by_cases hxy : x = y
        · have HT2 := Lib.hid (take_eqD HT.out HX.out HY.out hxy)
          subst hxy
          go_wp2_with fail
          go_quiet (fail)
          go_wp2
          go_roundg (n - (j + 1))
          case measure => omega
          case rel => exact ⟨j + 1, q + nq, by simp, by omega, rfl, HT2.out, rfl⟩
        · have HPP : Hid (∀ nq, P (.returned (.bool false)) ((w.drewN q).drewN nq)) := by
            rw [← HP.out]
            refine Lib.hid fun nq => ⟨?_, below_drewD2 _ _ _⟩
            rw [decide_eq_false fun he => hxy ?_]
            have h1 := HX.out
            rw [he, HY.out] at h1
            exact (Option.some.inj h1).symm
          have hxy2 : (x == y) = false := by rw [beq_eq_false_iff_ne]; exact hxy
          go_wp2_with fail
          go_quiet (fail)
          go_wp2
          exact HPP.out _
      · obtain rfl : j = n := by omega
        have HPP : Hid (P (.returned (.bool true)) (w.drewN q)) := by
          rw [← HP.out]
          refine Lib.hid ⟨?_, below_drewD1 _ _⟩
          have h := htk
          rw [List.take_of_length_le (by rw [HN.out]; exact Nat.le_refl _), List.take_of_length_le (by rw [HN2.out]; exact Nat.le_refl _)] at h
          rw [decide_eq_true h]
        clear htk
        go_wp2
        exact HPP.out
  · have HPP : Hid (P (.returned (.bool false)) w) := by
      rw [← HP.out]
      refine Lib.hid ⟨?_, Below.refl _ _⟩
      rw [decide_eq_false fun he => hnl ?_]
      rw [← HN.out, ← HN2.out, he]
    go_wp2
    exact HPP.out
end Go.Proofs.YtaoooocalpkhjaaDoor
namespace Go.Proofs.YtaoooocalpkhjaaDoor
open Go.RowKit Go.Shelf Go.Maps
attribute [local go_sem] Oper.semAt_some

abbrev MachX.R (m : MachX) : List (List Int) := m.rows.map (·.2.1)
def MachS (m : MachX) : Prop := m.rows.length ≤ 1000000 ∧ m.fits.length ≤ 1000000 ∧ ∀ x ∈ m.rows, x.2.1.length ≤ 1000000
set_option maxRecDepth 100000 in
set_option maxHeartbeats 4000000 in
theorem refSameD_any (m m2 : MachX) (hs : MachS m) (w : World) (hM : MachD w m) (hM2 : MachD w m2) :
    Calls Tryd.prog 27 #[m.v, m2.v] w fun e w' => e = .returned (.bool (decide (m.R = m2.R ∧ m.fits = m2.fits))) ∧ Below w.heap.size w w' := by
  obtain ⟨hs1, hs2, hs3⟩ := hs
  obtain ⟨P, hP⟩ : ∃ P, (fun (e : Ending) (w' : World) => e = .returned (.bool (decide (m.R = m2.R ∧ m.fits = m2.fits))) ∧ Below w.heap.size w w') = P := ⟨_, rfl⟩
  have HP := Lib.hid hP
  rw [hP]
  obtain ⟨w1, hw1⟩ : ∃ w1, w.alloc (.cells #[.slice m.no m.rows.length m.nc, .slice m.fo m.fits.length m.fc] 25) = w1 := ⟨_, rfl⟩
  have b1 : Below w.heap.size w w1 := by rw [← hw1]; exact (Below.refl _ _).alloc (Nat.le_refl _) _
  have z1 : w1.heap.size = w.heap.size + 1 := by rw [← hw1]; simp
  have r1 : w1.heap[w.heap.size]? = some (.cells #[.slice m.no m.rows.length m.nc, .slice m.fo m.fits.length m.fc] 25 (0, 0)) := by rw [← hw1]; exact heap_alloc_new _ _
  obtain ⟨w2, hw2⟩ : ∃ w2, w1.alloc (.cells #[.slice m2.no m2.rows.length m2.nc, .slice m2.fo m2.fits.length m2.fc] 25) = w2 := ⟨_, rfl⟩
  have b2 : Below w1.heap.size w1 w2 := by rw [← hw2]; exact (Below.refl _ _).alloc (Nat.le_refl _) _
  have r2 : w2.heap[w.heap.size + 1]? = some (.cells #[.slice m2.no m2.rows.length m2.nc, .slice m2.fo m2.fits.length m2.fc] 25 (0, 0)) := by rw [← hw2, ← z1]; exact heap_alloc_new _ _
  have hb2 := b1.trans (b2.mono b1.size)
  have r12 := row_below r1 b2
  obtain ⟨c0, c1⟩ := mac_cells r12
  obtain ⟨d0, d1⟩ := mac_cells r2
  have lc := World.block_lt_of_cell? w2 _ c0
  have ld := World.block_lt_of_cell? w2 _ d0
  obtain ⟨no, rows, nc, fo, fits, fc⟩ := m
  obtain ⟨no2, rows2, nc2, fo2, fits2, fc2⟩ := m2
  simp only at hs1 hs2 hs3 c0 c1 d0 d1 hw1 hw2
  have HSET := Lib.hid (setsR12_any fo fo2 fits fits2 fc fc2 hs2 w2 (hM.below hb2).fits (hM2.below hb2).fits)
  have HW : Hid ((w.alloc (.cells #[.slice no rows.length nc, .slice fo fits.length fc] 25)).alloc (.cells #[.slice no2 rows2.length nc2, .slice fo2 fits2.length fc2] 25) = w2) := Lib.hid (by rw [hw1, hw2])
  have HM := Lib.hid (hM.below hb2)
  have HM2 := Lib.hid (hM2.below hb2)
  have HB2 := Lib.hid hb2
  have HS1 := Lib.hid hs1
  have HS3 := Lib.hid hs3
  have HR1 := Lib.hid r12
  have HR2 := Lib.hid r2
  obtain ⟨q, hq⟩ : ∃ q, rows.length = q := ⟨_, rfl⟩
  obtain ⟨f, hf⟩ : ∃ f, fits.length = f := ⟨_, rfl⟩
  obtain ⟨q2, hq2⟩ : ∃ q, rows2.length = q := ⟨_, rfl⟩
  obtain ⟨f2, hf2⟩ : ∃ f, fits2.length = f := ⟨_, rfl⟩
  have HQ := Lib.hid hq
  have HQ2 := Lib.hid hq2
  obtain ⟨bf, hbf⟩ : ∃ b, decide (fits = fits2) = b := ⟨_, rfl⟩
  have HBF := Lib.hid hbf
  rw [hf, hf2, hbf] at HSET
  show Calls _ _ #[.agg #[.slice no rows.length nc, .slice fo fits.length fc], .agg #[.slice no2 rows2.length nc2, .slice fo2 fits2.length fc2]] _ _
  simp only [hq, hf, hq2, hf2] at c0 c1 d0 d1 HW ⊢
  rw [show (MachX.mk no rows nc fo fits fc).rows.length = q from hq, show (MachX.mk no rows nc fo fits fc).fits.length = f from hf] at HR1
  rw [show (MachX.mk no2 rows2 nc2 fo2 fits2 fc2).rows.length = q2 from hq2, show (MachX.mk no2 rows2 nc2 fo2 fits2 fc2).fits.length = f2 from hf2] at HR2
  have HNO : Hid (∀ W, Below w.heap.size w W → ¬ (rows.map (·.2.1) = rows2.map (·.2.1) ∧ fits = fits2) → P (.returned (.bool false)) W) := Lib.hid fun W hb hn => by
    rw [← HP.out]
    exact ⟨by rw [decide_eq_false hn], hb⟩
  have HYES : Hid (∀ W, Below w.heap.size w W → (rows.map (·.2.1) = rows2.map (·.2.1) ∧ fits = fits2) → P (.returned (.bool true)) W) := Lib.hid fun W hb hn => by
    rw [← HP.out]
    exact ⟨by rw [decide_eq_true hn], hb⟩
  clear hP HP hw1 b1 z1 r1 hw2 b2 r2 hb2 r12 hM hM2 hs1 hs2 hs3 hq hf hq2 hf2 hbf
  go_enter Tryd.func27, Tryd.ntmps27
  by_cases hqq : ¬ q = q2
  · have HF := Lib.hid (HNO.out w2 HB2.out (fun h => hqq (by rw [← HQ.out, ← HQ2.out]; have := congrArg List.length h.1; rwa [List.length_map, List.length_map] at this)))
    clear HNO HYES
    go_wp2_with fail
    rw [HW.out]
    exact HF.out
  have hqq := Decidable.not_not.1 hqq
  subst hqq
  go_wp2_with fail
  rw [HW.out]
  refine HSET.out.mono ?_
  rintro e w3 ⟨rfl, b3⟩
  have HB3 := Lib.hid (HB2.out.trans (b3.mono HB2.out.size))
  have HM3 := Lib.hid (HM.out.below b3)
  have HM23 := Lib.hid (HM2.out.below b3)
  have HR13 := Lib.hid (row_below HR1.out b3)
  have HR23 := Lib.hid (row_below HR2.out b3)
  clear b3 c0 c1 d0 d1 lc ld
  cases bf with
  | false =>
    have HF := Lib.hid (HNO.out w3 HB3.out (fun h => of_decide_eq_false HBF.out h.2))
    clear HNO HYES
    go_wp2_with fail
    exact HF.out
  | true =>
    have hfe : fits = fits2 := of_decide_eq_true HBF.out
    have HFE := Lib.hid hfe
    clear hfe
    go_wp2_with fail
    go_loopg [5] q (fun k v wr => ∃ (j : Nat), v = .int .i64 (j : Nat) ∧ j ≤ q ∧ k = q - j ∧ Hid ((rows.map (·.2.1)).take j = (rows2.map (·.2.1)).take j) ∧ Hid (Below w3.heap.size w3 wr))
    case atStart => exact ⟨0, rfl, Nat.zero_le _, rfl, Lib.hid rfl, Lib.hid (Below.refl _ _)⟩
    case round =>
      obtain ⟨j, rfl, hj, rfl, HT, HBR⟩ := hrel
      obtain ⟨c0, c1⟩ := mac_cells (row_below HR13.out HBR.out)
      obtain ⟨d0, d1⟩ := mac_cells (row_below HR23.out HBR.out)
      have lc := World.block_lt_of_cell? wr _ c0
      have ld := World.block_lt_of_cell? wr _ d0
      have hj6 : j < 1000001 := by have h1 := HS1.out; have h2 := HQ.out; omega
      rcases Nat.lt_or_ge j q with hlt | hge
      · have q1 : decide (((j : Nat) : Int) < ((q : Nat) : Int)) = true := decide_eq_true (by omega)
        obtain ⟨x, hx⟩ : ∃ x, rows[j]? = some x := ⟨_, List.getElem?_eq_getElem (by rw [HQ.out]; exact hlt)⟩
        obtain ⟨y, hy⟩ : ∃ y, rows2[j]? = some y := ⟨_, List.getElem?_eq_getElem (by rw [HQ2.out]; exact hlt)⟩
        obtain ⟨g, off, ho, hc⟩ := (HM3.out.below HBR.out).rows (by show 0 < rows.length; rw [HQ.out]; omega)
        obtain ⟨g2, off2, ho2, hc2⟩ := (HM23.out.below HBR.out).rows (by show 0 < rows2.length; rw [HQ2.out]; omega)
        simp only at ho ho2
        subst ho
        subst ho2
        have k0 := hc j x hx
        have m0 := hc2 j y hy
        have hxr : (rows.map (·.2.1))[j]? = some x.2.1 := by rw [List.getElem?_map, hx]; rfl
        have hyr : (rows2.map (·.2.1))[j]? = some y.2.1 := by rw [List.getElem?_map, hy]; rfl
        have hI := fun W (hb : Below w3.heap.size w3 W) => intsR_any x.1 y.1 x.2.1 y.2.1 x.2.2 y.2.2 (HS3.out x (List.mem_of_getElem? hx)) W ((HM3.out.below hb).row x (List.mem_of_getElem? hx)) ((HM23.out.below hb).row y (List.mem_of_getElem? hy))
        have HNE : Hid (¬ x.2.1 = y.2.1 → ∀ W, Below w.heap.size w W → P (.returned (.bool false)) W) := Lib.hid fun hne W hb => HNO.out W hb (fun h => hne (by
          have h1 := hxr
          rw [h.1, hyr] at h1
          exact (Option.some.inj h1).symm))
        have HEQ : Hid (x.2.1 = y.2.1 → (rows.map (·.2.1)).take (j + 1) = (rows2.map (·.2.1)).take (j + 1)) := Lib.hid fun he => take_eqD HT.out hxr hyr he
        obtain ⟨xo, xs, xc⟩ := x
        obtain ⟨yo, ys, yc⟩ := y
        simp only at k0 m0 hI HNE HEQ
        obtain ⟨bb, hbb⟩ : ∃ b, decide (xs = ys) = b := ⟨_, rfl⟩
        have HBB := Lib.hid hbb
        obtain ⟨l1, hl1⟩ : ∃ l, xs.length = l := ⟨_, rfl⟩
        obtain ⟨l2, hl2⟩ : ∃ l, ys.length = l := ⟨_, rfl⟩
        simp only [hbb, hl1, hl2] at hI k0 m0
        have HI := Lib.hid hI
        have HC : Hid (∀ W, Below wr.heap.size wr W → W.cell? ⟨w.heap.size, 0, none⟩ = some (.slice (some ⟨g, off, none⟩) q nc) ∧ W.cell? ⟨w.heap.size + 1, 0, none⟩ = some (.slice (some ⟨g2, off2, none⟩) q nc2) ∧ W.cell? ⟨g, off + j, none⟩ = some (.slice xo l1 xc) ∧ W.cell? ⟨g2, off2 + j, none⟩ = some (.slice yo l2 yc) ∧ Below wr.heap.size wr W) := Lib.hid fun W hb => ⟨cell_keepQ hb c0, cell_keepQ hb d0, cell_keepQ hb k0, cell_keepQ hb m0, hb⟩
        have K1 : Hid (∀ W, (W.cell? ⟨w.heap.size, 0, none⟩ = some (.slice (some ⟨g, off, none⟩) q nc) ∧ W.cell? ⟨w.heap.size + 1, 0, none⟩ = some (.slice (some ⟨g2, off2, none⟩) q nc2) ∧ W.cell? ⟨g, off + j, none⟩ = some (.slice xo l1 xc) ∧ W.cell? ⟨g2, off2 + j, none⟩ = some (.slice yo l2 yc) ∧ Below wr.heap.size wr W) → Calls Tryd.prog 14 #[.slice xo l1 xc, .slice yo l2 yc] W fun e w' => e = .returned (.bool bb) ∧ (w'.cell? ⟨w.heap.size, 0, none⟩ = some (.slice (some ⟨g, off, none⟩) q nc) ∧ w'.cell? ⟨w.heap.size + 1, 0, none⟩ = some (.slice (some ⟨g2, off2, none⟩) q nc2) ∧ w'.cell? ⟨g, off + j, none⟩ = some (.slice xo l1 xc) ∧ w'.cell? ⟨g2, off2 + j, none⟩ = some (.slice yo l2 yc) ∧ Below wr.heap.size wr w')) := Lib.hid fun W hs => (HI.out W (HBR.out.trans (hs.2.2.2.2.mono HBR.out.size))).mono (by
          rintro e w' ⟨rfl, b⟩
          exact ⟨rfl, HC.out w' (hs.2.2.2.2.trans (b.mono hs.2.2.2.2.size))⟩)
        have HD : Below wr.heap.size wr wr.drew := (Below.refl _ _).drew
        clear hc hc2 hx hy hxr hyr hI hbb hl1 hl2 HT
        go_wp2_with fail
        go_region_held3 (fun W => W.cell? ⟨w.heap.size, 0, none⟩ = some (.slice (some ⟨g, off, none⟩) q nc) ∧ W.cell? ⟨w.heap.size + 1, 0, none⟩ = some (.slice (some ⟨g2, off2, none⟩) q nc2) ∧ W.cell? ⟨g, off + j, none⟩ = some (.slice xo l1 xc) ∧ W.cell? ⟨g2, off2 + j, none⟩ = some (.slice yo l2 yc) ∧ Below wr.heap.size wr W) (first | assumption | exact HD | go_keep) (first | (go_at_call 14; refine (K1.out _ (by first | assumption | exact HC.out _ HD | exact hg)).mono ?_; rintro e w9 ⟨rfl, hg⟩))
        have HB9 := Lib.hid (HBR.out.trans (hg.2.2.2.2.mono HBR.out.size))
        cases bb with
        | true =>
          have HT2 := Lib.hid (HEQ.out (of_decide_eq_true HBB.out))
          clear hg HEQ HNE HNO HYES
          go_wp2_with fail
          go_roundg (q - (j + 1))
          case measure => omega
          case rel => exact ⟨j + 1, by simp, by omega, rfl, HT2, HB9⟩
        | false =>
          have HF := Lib.hid (HNE.out (of_decide_eq_false HBB.out) w9 (HB3.out.trans (HB9.out.mono HB3.out.size)))
          clear hg HEQ HNE HNO HYES
          go_wp2_with fail
          exact HF.out
      · obtain rfl : j = q := by omega
        have q1 : decide (((j : Nat) : Int) < ((j : Nat) : Int)) = false := decide_eq_false (by omega)
        have hT := HT.out
        rw [List.take_of_length_le (by rw [List.length_map, HQ.out]; exact Nat.le_refl _), List.take_of_length_le (by rw [List.length_map, HQ2.out]; exact Nat.le_refl _)] at hT
        have HF := Lib.hid (HYES.out wr (HB3.out.trans (HBR.out.mono HB3.out.size)) ⟨hT, HFE.out⟩)
        clear hT HNO HYES
        go_wp2_with fail
        exact HF.out
end Go.Proofs.YtaoooocalpkhjaaDoor
