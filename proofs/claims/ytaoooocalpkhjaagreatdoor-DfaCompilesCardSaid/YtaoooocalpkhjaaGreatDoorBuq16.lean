/- Shaken by bunq.py. -/
import Derived.Test.YtaoooocalpkhjaaGreatDoorBuq15
import Derived.Test.YtaoooocalpkhjaaGreatDoorBuq14
import Derived.Test.YtaoooocalpkhjaaGreatDoorBuq11
import Derived.Test.YtaoooocalpkhjaaGreatDoorBuq10
namespace Go.Proofs.YtaoooocalpkhjaaGreatDoor
open Go.RowKit Go.Shelf Go.Maps
attribute [local go_sem] Oper.semAt_some
attribute [local go_sem ↓] app_hide

set_option maxRecDepth 100000 in
set_option maxHeartbeats 4000000 in
theorem refMet12_any (o lo : Option Addr) (A : List RowD) (L : List Int) (cap lcap : Nat) (hn : A.length ≤ 100000) (hz : ∀ x ∈ A, x.2.1.length ≤ 1000000) (w : World) (hA : RowsD w o A) (hR : ∀ x ∈ A, NumsAt w x.1 x.2.1) (hL : NumsAt w lo L) :
    Calls Tryz.prog 50 #[.slice o A.length cap, .slice lo L.length lcap] w fun e w' => e = .returned (.int .i64 ((((A.map (·.2.1)).idxOf L : Nat)) : Int)) ∧ Below w.heap.size w w' := by
  obtain ⟨P, hP⟩ : ∃ P, (fun (e : Ending) (w' : World) => e = .returned (.int .i64 ((((A.map (·.2.1)).idxOf L : Nat)) : Int)) ∧ Below w.heap.size w w') = P := ⟨_, rfl⟩
  obtain ⟨B, hB⟩ : ∃ B, A.map (·.2.1) = B := ⟨_, rfl⟩
  rw [hP]
  rw [hB] at hP
  have HFIN : Hid (∀ (i : Nat) W, B.idxOf L = i → Below w.heap.size w W → P (.returned (.int .i64 ((i : Nat) : Int))) W) := Lib.hid fun i W h hb => by
    rw [← hP, ← h]
    exact ⟨rfl, hb⟩
  obtain ⟨n, hnn⟩ : ∃ n, A.length = n := ⟨_, rfl⟩
  have HSM := Lib.hid (fun (x : RowD) (hx : x ∈ A) W (hb : Below w.heap.size w W) => setsR12_any x.1 lo x.2.1 L x.2.2 lcap (hz x hx) W ((hR x hx).below hb) (hL.below hb))
  obtain ⟨k, hk⟩ : ∃ k, L.length = k := ⟨_, rfl⟩
  rw [hk] at HSM ⊢
  rw [hnn] at hn ⊢
  have HN := Lib.hid hnn
  have HA := Lib.hid hA
  have HBB := Lib.hid hB
  clear hP hB hnn hA hR hL hk hz
  go_enter Tryz.func50, Tryz.ntmps50
  go_wp2_with fail
  go_loopg [5] n (fun k' v wr => ∃ (j : Nat), v = .int .i64 (j : Nat) ∧ j ≤ n ∧ k' = n - j ∧ Hid (L ∉ B.take j) ∧ Hid (Below w.heap.size w wr))
  case atStart => exact ⟨0, rfl, Nat.zero_le _, rfl, Lib.hid (by simp), Lib.hid (Below.refl _ _)⟩
  case round =>
    obtain ⟨j, rfl, hj, rfl, HT, HB⟩ := hrel
    rcases Nat.lt_or_ge j n with hlt | hge
    · have hj1 : j < 1000000 := by omega
      obtain ⟨x, hx⟩ : ∃ x, A[j]? = some x := ⟨_, List.getElem?_eq_getElem (by rw [HN.out]; exact hlt)⟩
      have hbx : B[j]? = some x.2.1 := by rw [← HBB.out, List.getElem?_map, hx]; rfl
      obtain ⟨g, off, rfl, hc⟩ := HA.out (by rw [HN.out]; omega)
      have k0 := cell_keepQ HB.out (hc j x hx)
      have lg := World.block_lt_of_cell? _ _ k0
      have HS := HSM.out x (List.mem_of_getElem? hx) wr HB.out
      have HYES := Lib.hid (fun (h : x.2.1 = L) W (hb : Below w.heap.size w W) => HFIN.out j W (idx_first (by rw [hbx, h]) HT.out) hb)
      have HNO : Hid (¬ x.2.1 = L → L ∉ B.take (j + 1)) := Lib.hid fun h hm => by
        rw [List.take_add_one, hbx] at hm
        rcases List.mem_append.1 hm with hm | hm
        · exact HT.out hm
        · have e : L = x.2.1 := by simpa using hm
          exact h e.symm
      obtain ⟨so, sl, sc⟩ := x
      obtain ⟨q, hq⟩ : ∃ q, sl.length = q := ⟨_, rfl⟩
      simp only [hq] at k0 HS HYES HNO
      by_cases he : sl = L
      · rw [decide_eq_true he] at HS
        have HS2 := Lib.hid HS
        have HQ := Lib.hid (HYES.out he)
        clear HYES HNO HFIN HT hc hx hbx hq he HS
        go_wp2_with fail
        refine HS2.out.mono ?_
        rintro e w2 ⟨rfl, b2⟩
        have HX := Lib.hid (HQ.out w2 (HB.out.trans (b2.mono HB.out.size)))
        clear b2
        go_wp2_with fail
        exact HX.out
      · rw [decide_eq_false he] at HS
        have HS2 := Lib.hid HS
        have HQ := Lib.hid (HNO.out he)
        clear HYES HNO HT hc hx hbx hq he HS
        go_wp2_with fail
        refine HS2.out.mono ?_
        rintro e w2 ⟨rfl, b2⟩
        have HB2 := Lib.hid (HB.out.trans (b2.mono HB.out.size))
        clear b2
        go_wp2_with fail
        go_roundg (n - (j + 1))
        case measure => omega
        case rel => exact ⟨j + 1, by simp, by omega, rfl, HQ, HB2⟩
    · obtain rfl : j = n := by omega
      have HX := Lib.hid (HFIN.out j wr (by
        have h := HT.out
        have hl : B.length = j := by rw [← HBB.out, List.length_map, HN.out]
        rw [List.take_of_length_le (by omega)] at h
        rw [List.idxOf_eq_length h, hl]) HB.out)
      clear HFIN HT HSM
      go_wp2_with fail
      exact HX.out
theorem step_know {l : List RulX} {w : World} {o : Option Addr} (hR : RulesD w o l) {x : RulX} (hx : x ∈ l) {s : Nat} (hk : knowsB x.1.2.2.1.length ((s : Nat) : Int) = true) (c : Int) : stepA x.1.1 x.1.2.2.1 ((s : Nat) : Int) c = ((stepS x.1.2.2.1 x.1.1 c s : Nat) : Int) ∧ knowA x.1.2.2.1 ((s : Nat) : Int) = true := by
  have h : knowA x.1.2.2.1 ((s : Nat) : Int) = true := by unfold knowA; rw [hR.right x hx, hk]; rfl
  refine ⟨?_, h⟩
  unfold stepA
  rw [if_pos h, Int.toNat_natCast]
set_option maxRecDepth 100000 in
set_option maxHeartbeats 4000000 in
theorem refStep12_any (o so : Option Addr) (l : List RulX) (cap scap : Nat) (S : List Nat) (c : Int) (w : World) (hfw : FewC l) (hR : RulesD w o l) (hK : KnowD l S) (hS : NumsAt w so (natsZ S)) :
    Calls Tryz.prog 49 #[.slice o l.length cap, .slice so S.length scap, .int .i64 c] w fun e w' => ∃ ro rc, e = .returned (.slice ro l.length rc) ∧ w'.ownsRow w.heap.size 2 1 (.slice ro l.length rc) l.length (intsV (stepD (l.map leftX) S c)) ∧ Below w.heap.size w w' := by
  obtain ⟨P, hP⟩ : ∃ P, (fun (e : Ending) (w' : World) => ∃ ro rc, e = .returned (.slice ro l.length rc) ∧ w'.ownsRow w.heap.size 2 1 (.slice ro l.length rc) l.length (intsV (stepD (l.map leftX) S c)) ∧ Below w.heap.size w w') = P := ⟨_, rfl⟩
  have HP := Lib.hid hP
  rw [hP]
  have hlen := hR.len
  have hsl := hK.1
  obtain ⟨n, hnn⟩ : ∃ n, l.length = n := ⟨_, rfl⟩
  have HRW := Lib.hid hR
  have HSW := Lib.hid hS
  have HN := Lib.hid hnn
  have HK := Lib.hid hK
  have HFW := Lib.hid hfw
  rw [hnn] at HP hlen hsl ⊢
  rw [hsl]
  clear hP hR hK hS hnn hfw hsl
  go_enter Tryz.func49, Tryz.ntmps49
  go_wp2_with fail
  go_loopg [7, 8] n (fun k v5 v21 wr => ∃ (j : Nat) (ro : Option Addr) (rc : Nat), v21 = .int .i64 (j : Nat) ∧ v5 = .slice ro j rc ∧ j ≤ n ∧ k = n - j ∧ Hid (wr.ownsRow w.heap.size 2 1 (.slice ro j rc) j (intsV ((stepD (l.map leftX) S c).take j))) ∧ Hid (Below w.heap.size w wr))
  case atStart => exact ⟨0, none, 0, rfl, rfl, Nat.zero_le _, rfl, Lib.hid (World.ownsRow_nil _ _ _ _), Lib.hid (Below.refl _ _)⟩
  case round =>
    obtain ⟨j, ro, rc, rfl, rfl, hj, rfl, HO, HB⟩ := hrel
    have hbw := HB.out
    have hsw := hbw.size
    rcases Nat.lt_or_ge j n with hlt | hge
    · have d1 : decide (((j : Nat) : Int) < ((n : Nat) : Int)) = true := decide_eq_true (by omega)
      obtain ⟨x, hx⟩ : ∃ x, l[j]? = some x := ⟨_, List.getElem?_eq_getElem (by rw [HN.out]; exact hlt)⟩
      obtain ⟨s, hs⟩ : ∃ s, S[j]? = some s := ⟨_, List.getElem?_eq_getElem (by rw [HK.out.1, HN.out]; exact hlt)⟩
      have hxm := List.mem_of_getElem? hx
      obtain ⟨g, off, rfl, hc⟩ := HRW.out.at_ (by rw [HN.out]; omega)
      obtain ⟨u0, u1, _, _, _⟩ := hc j x hx
      have t0 := cell_keepQ hbw u0
      have t1 := cell_keepQ hbw u1
      have hlt2 := World.block_lt_of_cell? wr _ t0
      obtain ⟨gs, offs, rfl, hcs⟩ := HSW.out (by rw [List.length_map, HK.out.1, HN.out]; omega)
      have k0 := cell_keepQ hbw (hcs j ((s : Nat) : Int) (by rw [List.getElem?_map, hs]; rfl))
      have lgs := World.block_lt_of_cell? wr _ k0
      have b3d : Below wr.heap.size wr wr.drew := (Below.refl _ _).drew
      have hb3 := hbw.trans (b3d.mono hsw)
      have hSt := refStep_any x.1.1 x.1.2.1 x.1.2.2.1 x.1.2.2.2 ((s : Nat) : Int) c (by have := HFW.out x hxm; have := this.1; omega) wr.drew ((HRW.out.its.below hb3) x hxm).1.1
      obtain ⟨e1, e2⟩ := step_know HRW.out hxm (HK.out.2 j x s hx hs) c
      rw [e1, e2] at hSt
      have hsd := step_at (c := c) hx hs
      have hSN : Hid (intsV ((stepD (l.map leftX) S c).take (j + 1)) = intsV ((stepD (l.map leftX) S c).take j) ++ [.int .i64 ((stepS x.1.2.2.1 x.1.1 c s : Nat) : Int)]) := Lib.hid (by
        rw [List.take_add_one, hsd, Option.toList_some, intsV_snoc])
      obtain ⟨y, hy⟩ : ∃ y, stepS x.1.2.2.1 x.1.1 c s = y := ⟨_, rfl⟩
      rw [hy] at hSt hSN
      obtain ⟨⟨s1, p1, xs1, k1⟩, ⟨s2, p2, xs2, k2⟩, br⟩ := x
      replace hSt : Calls Tryz.prog 80 #[.agg #[.bool s1, .slice p1 xs1.length k1], .int .i64 ((s : Nat) : Int), .int .i64 c] wr.drew fun e w' => e = .returned (.tuple #[.int .i64 ((y : Nat) : Int), .int .i64 0]) ∧ Below wr.drew.heap.size wr.drew w' := hSt
      simp only at t0 t1
      obtain ⟨m1, hm1⟩ : ∃ k, xs1.length = k := ⟨_, rfl⟩
      simp only [hm1] at t1 hSt
      have HST := Lib.hid hSt
      have HB3 := Lib.hid b3d
      have hjm : j < 1000000 := by omega
      clear hc hx hs hxm u0 u1 hcs hb3 hSt hsd hy hm1 hbw b3d e1 e2
      go_wp2_with fail
      go_region_with (go_at_call 80; refine HST.out.mono ?_; rintro e w4 ⟨rfl, b4⟩)
      all_goals
        have HB4 := Lib.hid (HB3.out.trans (show Below wr.heap.size wr.drew w4 from b4.mono HB3.out.size))
        have hz4 := HB4.out.size
        obtain ⟨g', cap', w6, hrun, hown', hgrow, _⟩ := i64_ownD y (own_below HO.out HB4.out) (by omega) (by omega)
        rw [← hSN.out] at hown'
        have HO6 := Lib.hid hown'
        have HB6 : Hid (Below w.heap.size w w6) := Lib.hid (((HB.out.trans (HB4.out.mono (by omega))).alloc (by omega) _).grown hgrow (by rw [World.size_alloc]; omega) (fun k hk => own_rowD' HO.out hk))
        clear hown' hgrow b4
        go_wp2_with fail
        go_roundg (n - (j + 1))
        case measure => omega
        case rel => exact ⟨j + 1, _, _, by simp, rfl, by omega, rfl, HO6, HB6⟩
    · obtain rfl : j = n := by omega
      have hsl : (stepD (l.map leftX) S c).length = j := by rw [step_len _ _ _ (by rw [HK.out.1, List.length_map]), List.length_map, HN.out]
      have ho := HO.out
      rw [List.take_of_length_le (by rw [hsl]; exact Nat.le_refl _)] at ho
      have d1 : decide (((j : Nat) : Int) < ((j : Nat) : Int)) = false := decide_eq_false (by omega)
      have HX : Hid (P (.returned (.slice ro j rc)) wr) := Lib.hid (by rw [← HP.out]; exact ⟨ro, rc, rfl, ho, hbw⟩)
      clear ho hbw HO
      go_wp2_with fail
      exact HX.out
set_option maxRecDepth 100000 in
set_option maxHeartbeats 4000000 in
theorem refDone12_any (o so : Option Addr) (l : List RulX) (cap scap : Nat) (S : List Nat) (w : World) (hfw : FewC l) (hR : RulesD w o l) (hK : KnowD l S) (hS : NumsAt w so (natsZ S)) :
    Calls Tryz.prog 51 #[.slice o l.length cap, .slice so S.length scap] w fun e w' => e = .returned (.int .i64 ((doneD (l.map leftX) S : Nat) : Int)) ∧ Below w.heap.size w w' := by
  have hlen := hR.len
  have hsl := hK.1
  show Calls _ _ _ _ fun e w' => e = .returned (.int .i64 ((bitsD (doneB (l.map leftX) S) : Nat) : Int)) ∧ Below w.heap.size w w'
  obtain ⟨n, hnn⟩ : ∃ n, l.length = n := ⟨_, rfl⟩
  have HRW := Lib.hid hR
  have HSW := Lib.hid hS
  have HN := Lib.hid hnn
  have HK := Lib.hid hK
  have HFW := Lib.hid hfw
  have HBT := Lib.hid (fun k (hk : k ≤ 40) W => refBit12_any k hk W)
  rw [hnn] at hlen hsl ⊢
  rw [hsl]
  clear hR hK hS hnn hfw hsl
  go_enter Tryz.func51, Tryz.ntmps51
  go_wp2_with fail
  go_loopg [5, 6] n (fun k v5 v13 wr => ∃ (j : Nat), v13 = .int .i64 (j : Nat) ∧ v5 = .int .i64 ((bitsD ((doneB (l.map leftX) S).take j) : Nat) : Int) ∧ j ≤ n ∧ k = n - j ∧ Hid (Below w.heap.size w wr))
  case atStart => exact ⟨0, rfl, by simp [bitsD], Nat.zero_le _, rfl, Lib.hid (Below.refl _ _)⟩
  case round =>
    obtain ⟨j, rfl, rfl, hj, rfl, HB⟩ := hrel
    have hbw := HB.out
    have hsw := hbw.size
    have hdl : (doneB (l.map leftX) S).length = n := by rw [doneB_len (by rw [HK.out.1, List.length_map]), List.length_map, HN.out]
    rcases Nat.lt_or_ge j n with hlt | hge
    · have d1 : decide (((j : Nat) : Int) < ((n : Nat) : Int)) = true := decide_eq_true (by omega)
      obtain ⟨x, hx⟩ : ∃ x, l[j]? = some x := ⟨_, List.getElem?_eq_getElem (by rw [HN.out]; exact hlt)⟩
      obtain ⟨s, hs⟩ : ∃ s, S[j]? = some s := ⟨_, List.getElem?_eq_getElem (by rw [HK.out.1, HN.out]; exact hlt)⟩
      have hxm := List.mem_of_getElem? hx
      obtain ⟨g, off, rfl, hc⟩ := HRW.out.at_ (by rw [HN.out]; omega)
      obtain ⟨u0, u1, _, _, _⟩ := hc j x hx
      have t0 := cell_keepQ hbw u0
      have t1 := cell_keepQ hbw u1
      have hlt2 := World.block_lt_of_cell? wr _ t0
      obtain ⟨gs, offs, rfl, hcs⟩ := HSW.out (by rw [List.length_map, HK.out.1, HN.out]; omega)
      have k0 := cell_keepQ hbw (hcs j ((s : Nat) : Int) (by rw [List.getElem?_map, hs]; rfl))
      have lgs := World.block_lt_of_cell? wr _ k0
      have b3d : Below wr.heap.size wr wr.drew := (Below.refl _ _).drew
      have hb3 := hbw.trans (b3d.mono hsw)
      have hSt := refDone_any x.1.1 x.1.2.1 x.1.2.2.1 x.1.2.2.2 ((s : Nat) : Int) (by have := HFW.out x hxm; have := this.1; omega) wr.drew ((HRW.out.its.below hb3) x hxm).1.1
      rw [(step_know HRW.out hxm (HK.out.2 j x s hx hs) 0).2, Bool.true_and, Int.toNat_natCast] at hSt
      have hsd := done_at hx hs
      obtain ⟨y, hy⟩ : ∃ y, doneS x.1.2.2.1 s = y := ⟨_, rfl⟩
      rw [hy] at hSt hsd
      obtain ⟨X, hX⟩ : ∃ X, bitsD ((doneB (l.map leftX) S).take j) = X := ⟨_, rfl⟩
      have hXl : X < 2 ^ j := by
        have := bitsD_lt ((doneB (l.map leftX) S).take j)
        rw [hX, List.length_take, hdl, Nat.min_eq_left hj] at this
        exact this
      have hSN : Hid (bitsD ((doneB (l.map leftX) S).take (j + 1)) = X + (if y then 2 ^ j else 0)) := Lib.hid (by
        rw [List.take_add_one, hsd, Option.toList_some, bits_snoc, hX, List.length_take, hdl, Nat.min_eq_left hj])
      have HBJ := Lib.hid (fun W => HBT.out j (by omega) W)
      have hp40 := two_40 (show j ≤ 40 by omega)
      rw [hX]
      obtain ⟨p, hp⟩ : ∃ p, 2 ^ j = p := ⟨_, rfl⟩
      rw [hp] at hXl hSN HBJ hp40
      have hwx : wrap64 (((X : Nat) : Int) + ((p : Nat) : Int)) = ((X + p : Nat) : Int) := by
        rw [← Int.natCast_add]
        exact wrap_idK (by omega) (by omega)
      obtain ⟨⟨s1, p1, xs1, k1⟩, ⟨s2, p2, xs2, k2⟩, br⟩ := x
      replace hSt : Calls Tryz.prog 81 #[.agg #[.bool s1, .slice p1 xs1.length k1], .int .i64 ((s : Nat) : Int)] wr.drew fun e w' => e = .returned (.bool y) ∧ Below wr.drew.heap.size wr.drew w' := hSt
      simp only at t0 t1
      obtain ⟨m1, hm1⟩ : ∃ k, xs1.length = k := ⟨_, rfl⟩
      simp only [hm1] at t1 hSt
      have HST := Lib.hid hSt
      have HB3 := Lib.hid b3d
      have hjm : j < 1000000 := by omega
      clear hc hx hs hxm u0 u1 hcs hb3 hSt hsd hy hm1 hbw b3d hp hX hdl
      go_wp2_with fail
      go_region_with (go_at_call 81; refine HST.out.mono ?_; rintro e w4 ⟨rfl, b4⟩)
      all_goals
        have HB4 := Lib.hid (HB3.out.trans (show Below wr.heap.size wr.drew w4 from b4.mono HB3.out.size))
        have HB6 : Hid (Below w.heap.size w w4) := Lib.hid (HB.out.trans (HB4.out.mono (by omega)))
        clear b4
        cases y
        · go_wp2_with fail
          go_roundg (n - (j + 1))
          case measure => omega
          case rel => exact ⟨j + 1, by simp, by rw [hSN.out]; simp, by omega, rfl, HB6⟩
        · go_wp2_with fail
          refine (HBJ.out _).mono ?_
          rintro e w5 ⟨rfl, rfl⟩
          go_wp2_with fail
          go_roundg (n - (j + 1))
          case measure => omega
          case rel => exact ⟨j + 1, by simp, by rw [hSN.out]; simp, by omega, rfl, HB6⟩
    · obtain rfl : j = n := by omega
      have d1 : decide (((j : Nat) : Int) < ((j : Nat) : Int)) = false := decide_eq_false (by omega)
      rw [List.take_of_length_le (by rw [hdl]; exact Nat.le_refl _)]
      have HBW := Lib.hid hbw
      clear hbw hdl
      go_wp2_with fail
      go_ret
      exact ⟨rfl, HBW.out⟩
end Go.Proofs.YtaoooocalpkhjaaGreatDoor
namespace Go.Proofs.YtaoooocalpkhjaaGreatDoor
open Go.RowKit Go.Shelf Go.Maps
attribute [local go_sem] Oper.semAt_some

abbrev mchO (o : Option Addr) (n c : Nat) (fo : Option Addr) (k fc : Nat) : Obj := .cells #[.slice o n c, .slice fo k fc] 28 (0, 0)
theorem mac5 {w : World} {g : Nat} {u v : Value} (h : w.heap[g]? = some (.cells #[u, v] 28 (0, 0))) : w.cell? ⟨g, 0, none⟩ = some u ∧ w.cell? ⟨g, 1, none⟩ = some v ∧ w.frozen? ⟨g, 0, none⟩ = false ∧ w.frozen? ⟨g, 1, none⟩ = false ∧ g < w.heap.size :=
  ⟨by rw [cell_of_row _ _ 0 _ _ _ h]; rfl, by rw [cell_of_row _ _ 1 _ _ _ h]; rfl, frozen_of_row _ _ _ _ _ h, frozen_of_row _ _ _ _ _ h, (Array.getElem?_eq_some_iff.1 h).1⟩
theorem mac_set0 {w : World} {g : Nat} {u v : Value} (a : Value) (h : w.heap[g]? = some (.cells #[u, v] 28 (0, 0))) : (w.setCell ⟨g, 0, none⟩ a).heap[g]? = some (.cells #[a, v] 28 (0, 0)) := by
  rw [heap_setCell_same _ _ _ _ _ _ h]; rfl
theorem mac_set1 {w : World} {g : Nat} {u v : Value} (a : Value) (h : w.heap[g]? = some (.cells #[u, v] 28 (0, 0))) : (w.setCell ⟨g, 1, none⟩ a).heap[g]? = some (.cells #[u, a] 28 (0, 0)) := by
  rw [heap_setCell_same _ _ _ _ _ _ h]; rfl
def slX (x : RowD) : Value := .slice x.1 x.2.1.length x.2.2
theorem infoRowsD : (Tryz.prog.info? 34).map (fun i => (i.zero, i.size, i.bytes)) = some (some (.slice none 0 0), 1, 24) := by kernel_rfl
end Go.Proofs.YtaoooocalpkhjaaGreatDoor
namespace Go.Proofs.YtaoooocalpkhjaaGreatDoor
open Go.RowKit Go.Shelf Go.Maps
attribute [local go_sem] Oper.semAt_some

theorem appLaw24 {t e : TypeId} {z : Value} {b : Nat} {V : Value → Prop} (hinf : (Tryz.prog.info? e).map (fun i => (i.zero, i.size, i.bytes)) = some (some z, 1, b)) (ht : Tryz.prog.underlying t = some (.slice e)) (hb : b ≤ 24) (hz : z.cells.size = 1) (hV : ∀ u, V u → u.oneCell' = true) : AppLaw t e V := fun W base k v xs u hu ho hk hbase => by
  obtain ⟨i0, hi, hz0, hz1, hz2⟩ := info_parts hinf
  have hb1 : Below W.heap.size W (W.alloc (.cells #[u] e)) := (Below.refl _ _).alloc (Nat.le_refl _) _
  obtain ⟨v', w6, hr, h2, h3, h4, h5⟩ := run_append_own_at (P := Tryz.prog) _ base t t e i0 z 1 b ht hi hz0 hz1 hz2 hz (by decide) v k xs (own_below ho hb1) ⟨W.heap.size, 0, none⟩ 1 1 [u] rfl
    (cell_one_new _ _ _) (by simpa using hV u hu) (by unfold maxLen; omega) (by
      have : (k + 1) * b ≤ 2000001 * 24 := Nat.mul_le_mul (by omega) hb
      omega) (by simp; omega)
  obtain ⟨g, cap, rfl⟩ := ownsRow_succ h2
  refine ⟨g, cap, w6, hr, h2, h3, ?_⟩
  rcases h5 with h | h
  · exact .inl (h.symm.trans (by simp [Value.ownBlock]))
  · right
    have : g = (W.alloc (.cells #[u] e)).heap.size := by simpa [Value.ownBlock] using h
    rw [World.size_alloc] at this
    omega
theorem infoS64D : (Tryz.prog.info? 26).map (fun i => (i.zero, i.size, i.bytes)) = some (some (.slice none 0 0), 1, 24) := by kernel_rfl
theorem app_rowD : AppLaw 25 34 fun u => ∃ x : RowD, u = slX x := appLaw24 infoRowsD Tryz.underlying25 (by decide) rfl (by rintro _ ⟨s, rfl⟩; rfl)
theorem app_setD : AppLaw 68 26 fun u => ∃ x : RowD, u = slX x := appLaw24 infoS64D Tryz.underlying68 (by decide) rfl (by rintro _ ⟨s, rfl⟩; rfl)
theorem rows_ownD {w : World} {base cap : Nat} {o : Option Addr} {e : TypeId} {l : List RowD} (h : w.ownsRow base e 1 (.slice o l.length cap) l.length (l.map slX)) : RowsD w o l := fun hn => by
  obtain ⟨g, ho, hc⟩ := row_placeK h hn
  refine ⟨g, 0, ho, fun j x hx => ?_⟩
  rw [Nat.zero_add]
  exact hc j _ (by rw [List.getElem?_map, hx]; rfl)
theorem t01 : (26 : TypeId) ≠ 34 := by decide
theorem t02 : (26 : TypeId) ≠ 2 := by decide
theorem t03 : (26 : TypeId) ≠ 3 := by decide
theorem t12 : (34 : TypeId) ≠ 2 := by decide
theorem t13 : (34 : TypeId) ≠ 3 := by decide
theorem t23 : (2 : TypeId) ≠ 3 := by decide
theorem t04 : (26 : TypeId) ≠ 28 := by decide
theorem t14 : (34 : TypeId) ≠ 28 := by decide
theorem t24 : (2 : TypeId) ≠ 28 := by decide
theorem t34 : (3 : TypeId) ≠ 28 := by decide
structure CmpS where
  A : List RowD
  ao : Option Addr
  ac : Nat
  R : List RowD
  no : Option Addr
  nc : Nat
  F : List Nat
  fo : Option Addr
  fc : Nat
  N : List Nat
  xo : Option Addr
  xc : Nat
abbrev CmpS.av (b : CmpS) : Value := .slice b.ao b.A.length b.ac
abbrev CmpS.nv (b : CmpS) : Value := .slice b.no b.R.length b.nc
abbrev CmpS.fv (b : CmpS) : Value := .slice b.fo b.F.length b.fc
abbrev CmpS.xv (b : CmpS) : Value := .slice b.xo b.N.length b.xc
def FreeC (B : Nat) (b : CmpS) (W : World) (k : Nat) : Prop := k < W.heap.size ∧ ¬ b.av.ownBlock = some k ∧ ¬ b.nv.ownBlock = some k ∧ ¬ b.fv.ownBlock = some k ∧ ¬ b.xv.ownBlock = some k ∧ k ≠ B
structure CmpI (w0 : World) (B : Nat) (b : CmpS) (W : World) : Prop where
  box : W.heap[B]? = some (mchO b.no b.R.length b.nc b.fo b.F.length b.fc)
  all : W.ownsRow w0.heap.size 26 1 b.av b.A.length (b.A.map slX)
  rows : W.ownsRow w0.heap.size 34 1 b.nv b.R.length (b.R.map slX)
  fits : W.ownsRow w0.heap.size 2 1 b.fv b.F.length (intsV b.F)
  next : W.ownsRow w0.heap.size 3 1 b.xv b.N.length (intsV b.N)
  sets : ∀ x ∈ b.A, NumsAt W x.1 x.2.1 ∧ (0 < x.2.1.length → ∀ k, inQ x.1 k → FreeC B b W k)
  row : ∀ x ∈ b.R, NumsAt W x.1 x.2.1 ∧ (0 < x.2.1.length → ∀ k, inQ x.1 k → FreeC B b W k)
  bel : Below w0.heap.size w0 W
  lo : w0.heap.size ≤ B
theorem inQ_own {o : Option Addr} {n c k : Nat} : inQ o k ↔ (Value.slice o n c).ownBlock = some k := by
  unfold inQ
  cases o with
  | none => simp [Value.ownBlock]
  | some a => simp [Value.ownBlock]
theorem CmpI.lts {w0 W : World} {B : Nat} {b : CmpS} (h : CmpI w0 B b W) : B < W.heap.size ∧ (∀ k, b.av.ownBlock = some k → k < W.heap.size) ∧ (∀ k, b.nv.ownBlock = some k → k < W.heap.size) ∧ (∀ k, b.fv.ownBlock = some k → k < W.heap.size) ∧ (∀ k, b.xv.ownBlock = some k → k < W.heap.size) :=
  ⟨(Array.getElem?_eq_some_iff.1 h.box).1, fun k hk => (h.all.lt k hk).2, fun k hk => (h.rows.lt k hk).2, fun k hk => (h.fits.lt k hk).2, fun k hk => (h.next.lt k hk).2⟩
theorem CmpI.below {w0 W W' : World} {B : Nat} {b : CmpS} (h : CmpI w0 B b W) (hb : Below W.heap.size W W') : CmpI w0 B b W' := by
  have hz := hb.size
  have hbz := h.bel.size
  exact ⟨row_below h.box hb, own_below h.all hb, own_below h.rows hb, own_below h.fits hb, own_below h.next hb, fun x hx => ⟨(h.sets x hx).1.below hb, fun h0 k hk => ⟨by have := ((h.sets x hx).2 h0 k hk).1; omega, ((h.sets x hx).2 h0 k hk).2⟩⟩,
    fun x hx => ⟨(h.row x hx).1.below hb, fun h0 k hk => ⟨by have := ((h.row x hx).2 h0 k hk).1; omega, ((h.row x hx).2 h0 k hk).2⟩⟩, h.bel.trans (hb.mono hbz), h.lo⟩
theorem CmpI.fresh {w0 W W' : World} {B : Nat} {b : CmpS} (h : CmpI w0 B b W) {e : TypeId} {n c : Nat} {o : Option Addr} {xs : List Value} (ho : W'.ownsRow W.heap.size e 1 (.slice o n c) n xs) {k : Nat} (hk : inQ o k) : FreeC B b W' k := by
  obtain ⟨l1, l2, l3, l4, l5⟩ := h.lts
  have hk2 := (inQ_own (n := n) (c := c)).1 hk
  have h1 := own_rowD' ho hk2
  have h2 := (ho.lt k hk2).2
  refine ⟨h2, fun e => ?_, fun e => ?_, fun e => ?_, fun e => ?_, by omega⟩
  · have := l2 k e; omega
  · have := l3 k e; omega
  · have := l4 k e; omega
  · have := l5 k e; omega
theorem FreeC.below {W W' : World} {B : Nat} {b : CmpS} {k : Nat} (h : FreeC B b W k) (hb : Below W.heap.size W W') : FreeC B b W' k := ⟨by have := h.1; have := hb.size; omega, h.2⟩
section
variable {w0 W : World} {B : Nat} {b : CmpS}
theorem CmpI.types (h : CmpI w0 B b W) : (∀ k, b.av.ownBlock = some k → ¬ b.nv.ownBlock = some k ∧ ¬ b.fv.ownBlock = some k ∧ ¬ b.xv.ownBlock = some k ∧ k ≠ B) ∧ (∀ k, b.nv.ownBlock = some k → ¬ b.av.ownBlock = some k ∧ ¬ b.fv.ownBlock = some k ∧ ¬ b.xv.ownBlock = some k ∧ k ≠ B) ∧
    (∀ k, b.fv.ownBlock = some k → ¬ b.av.ownBlock = some k ∧ ¬ b.nv.ownBlock = some k ∧ ¬ b.xv.ownBlock = some k ∧ k ≠ B) ∧ (∀ k, b.xv.ownBlock = some k → ¬ b.av.ownBlock = some k ∧ ¬ b.nv.ownBlock = some k ∧ ¬ b.fv.ownBlock = some k ∧ k ≠ B) := by
  refine ⟨fun k hk => ?_, fun k hk => ?_, fun k hk => ?_, fun k hk => ?_⟩
  · obtain ⟨c0, e0, _⟩ := own_rowD h.all hk
    refine ⟨fun e => ?_, fun e => ?_, fun e => ?_, other_type e0 h.box t04⟩
    · obtain ⟨c1, e1, _⟩ := own_rowD h.rows e; exact other_type e0 e1 t01 rfl
    · obtain ⟨c1, e1, _⟩ := own_rowD h.fits e; exact other_type e0 e1 t02 rfl
    · obtain ⟨c1, e1, _⟩ := own_rowD h.next e; exact other_type e0 e1 t03 rfl
  · obtain ⟨c0, e0, _⟩ := own_rowD h.rows hk
    refine ⟨fun e => ?_, fun e => ?_, fun e => ?_, other_type e0 h.box t14⟩
    · obtain ⟨c1, e1, _⟩ := own_rowD h.all e; exact other_type e1 e0 t01 rfl
    · obtain ⟨c1, e1, _⟩ := own_rowD h.fits e; exact other_type e0 e1 t12 rfl
    · obtain ⟨c1, e1, _⟩ := own_rowD h.next e; exact other_type e0 e1 t13 rfl
  · obtain ⟨c0, e0, _⟩ := own_rowD h.fits hk
    refine ⟨fun e => ?_, fun e => ?_, fun e => ?_, other_type e0 h.box t24⟩
    · obtain ⟨c1, e1, _⟩ := own_rowD h.all e; exact other_type e1 e0 t02 rfl
    · obtain ⟨c1, e1, _⟩ := own_rowD h.rows e; exact other_type e1 e0 t12 rfl
    · obtain ⟨c1, e1, _⟩ := own_rowD h.next e; exact other_type e0 e1 t23 rfl
  · obtain ⟨c0, e0, _⟩ := own_rowD h.next hk
    refine ⟨fun e => ?_, fun e => ?_, fun e => ?_, other_type e0 h.box t34⟩
    · obtain ⟨c1, e1, _⟩ := own_rowD h.all e; exact other_type e1 e0 t03 rfl
    · obtain ⟨c1, e1, _⟩ := own_rowD h.rows e; exact other_type e1 e0 t13 rfl
    · obtain ⟨c1, e1, _⟩ := own_rowD h.fits e; exact other_type e1 e0 t23 rfl
theorem CmpI.lows (h : CmpI w0 B b W) : (∀ k, b.av.ownBlock = some k → w0.heap.size ≤ k) ∧ (∀ k, b.nv.ownBlock = some k → w0.heap.size ≤ k) ∧ (∀ k, b.fv.ownBlock = some k → w0.heap.size ≤ k) ∧ (∀ k, b.xv.ownBlock = some k → w0.heap.size ≤ k) :=
  ⟨fun _ hk => own_rowD' h.all hk, fun _ hk => own_rowD' h.rows hk, fun _ hk => own_rowD' h.fits hk, fun _ hk => own_rowD' h.next hk⟩
theorem CmpI.addAll (h : CmpI w0 B b W) (x : RowD) (hx : NumsAt W x.1 x.2.1) (hf : 0 < x.2.1.length → ∀ k, inQ x.1 k → FreeC B b W k) (hl : b.A.length ≤ 2000000) :
    ∃ g cap w6, (appSem #[68, 68] 68 #[b.av, .slice (some ⟨W.heap.size, 0, none⟩) 1 1]).run Tryz.prog (W.alloc (.cells #[slX x] 26)) = .ok (.slice (some ⟨g, 0, none⟩) (b.A.length + 1) cap) w6 ∧
      CmpI w0 B { b with A := b.A ++ [x], ao := some ⟨g, 0, none⟩, ac := cap } w6 := by
  obtain ⟨g, cap, w6, k1, k2, k3, k4⟩ := app_setD W w0.heap.size b.A.length b.av (b.A.map slX) (slX x) ⟨_, rfl⟩ h.all hl h.bel.size
  obtain ⟨l1, l2, l3, l4, l5⟩ := h.lts
  obtain ⟨ta, tn, tf, tx⟩ := h.types
  have a1 : Below W.heap.size W (W.alloc (.cells #[slX x] 26)) := (Below.refl _ _).alloc (Nat.le_refl _) _
  have m6 : Moves (fun k => b.av.ownBlock = some k) W w6 := (Moves.of_below a1).trans (moves_grownH k3)
  have z6 := m6.size
  have hl1 : (b.A ++ [x]).length = b.A.length + 1 := by rw [List.length_append]; rfl
  have hfree : ∀ k, FreeC B b W k → FreeC B { b with A := b.A ++ [x], ao := some ⟨g, 0, none⟩, ac := cap } w6 k := fun k hk => ⟨by have := hk.1; omega, fun e => by
    have e2 : g = k := by simpa [Value.ownBlock] using e
    rcases k4 with k4 | k4
    · rw [e2] at k4; exact hk.2.1 k4
    · have := hk.1; omega, hk.2.2⟩
  refine ⟨g, cap, w6, k1, row_keep h.box m6 (fun e => (ta _ e).2.2.2 rfl), ?_, own_movesH h.rows m6 fun k hk => (tn k hk).1, own_movesH h.fits m6 fun k hk => (tf k hk).1, own_movesH h.next m6 fun k hk => (tx k hk).1, fun y hy => ?_, fun y hy => ?_, Moves.below h.bel h.bel.size m6 h.lows.1, h.lo⟩
  · show w6.ownsRow _ _ _ (.slice (some ⟨g, 0, none⟩) (b.A ++ [x]).length cap) (b.A ++ [x]).length ((b.A ++ [x]).map slX)
    rw [hl1, List.map_append]
    exact k2
  · rcases List.mem_append.1 hy with hy | hy
    · obtain ⟨s1, s2⟩ := h.sets y hy
      exact ⟨s1.moves m6 fun h0 k hk => (s2 h0 k hk).2.1, fun h0 k hk => hfree k (s2 h0 k hk)⟩
    · rw [List.mem_singleton.1 hy]
      exact ⟨hx.moves m6 fun h0 k hk => (hf h0 k hk).2.1, fun h0 k hk => hfree k (hf h0 k hk)⟩
  · obtain ⟨s1, s2⟩ := h.row y hy
    exact ⟨s1.moves m6 fun h0 k hk => (s2 h0 k hk).2.1, fun h0 k hk => hfree k (s2 h0 k hk)⟩
theorem CmpI.addNext (h : CmpI w0 B b W) (i : Nat) (hl : b.N.length ≤ 2000000) :
    ∃ g cap w6, (appSem #[34, 34] 34 #[b.xv, .slice (some ⟨W.heap.size, 0, none⟩) 1 1]).run Tryz.prog (W.alloc (.cells #[.int .i64 ((i : Nat) : Int)] 3)) = .ok (.slice (some ⟨g, 0, none⟩) (b.N.length + 1) cap) w6 ∧
      CmpI w0 B { b with N := b.N ++ [i], xo := some ⟨g, 0, none⟩, xc := cap } w6 := by
  obtain ⟨g, cap, w6, k1, k2, k3, k4⟩ := app_int W w0.heap.size b.N.length b.xv (intsV b.N) (.int .i64 ((i : Nat) : Int)) ⟨_, rfl⟩ h.next hl h.bel.size
  obtain ⟨l1, l2, l3, l4, l5⟩ := h.lts
  obtain ⟨ta, tn, tf, tx⟩ := h.types
  have a1 : Below W.heap.size W (W.alloc (.cells #[.int .i64 ((i : Nat) : Int)] 3)) := (Below.refl _ _).alloc (Nat.le_refl _) _
  have m6 : Moves (fun k => b.xv.ownBlock = some k) W w6 := (Moves.of_below a1).trans (moves_grownH k3)
  have z6 := m6.size
  have hl1 : (b.N ++ [i]).length = b.N.length + 1 := by rw [List.length_append]; rfl
  have hfree : ∀ k, FreeC B b W k → FreeC B { b with N := b.N ++ [i], xo := some ⟨g, 0, none⟩, xc := cap } w6 k := fun k hk => ⟨by have := hk.1; omega, hk.2.1, hk.2.2.1, hk.2.2.2.1, fun e => by
    have e2 : g = k := by simpa [Value.ownBlock] using e
    rcases k4 with k4 | k4
    · rw [e2] at k4; exact hk.2.2.2.2.1 k4
    · have := hk.1; omega, hk.2.2.2.2.2⟩
  refine ⟨g, cap, w6, k1, row_keep h.box m6 (fun e => (tx _ e).2.2.2 rfl), own_movesH h.all m6 fun k hk => (ta k hk).2.2.1, own_movesH h.rows m6 fun k hk => (tn k hk).2.2.1, own_movesH h.fits m6 fun k hk => (tf k hk).2.2.1, ?_, fun y hy => ?_, fun y hy => ?_, Moves.below h.bel h.bel.size m6 h.lows.2.2.2, h.lo⟩
  · show w6.ownsRow _ _ _ (.slice (some ⟨g, 0, none⟩) (b.N ++ [i]).length cap) (b.N ++ [i]).length (intsV (b.N ++ [i]))
    rw [hl1, intsV_snoc]
    exact k2
  · obtain ⟨s1, s2⟩ := h.sets y hy
    exact ⟨s1.moves m6 fun h0 k hk => (s2 h0 k hk).2.2.2.2.1, fun h0 k hk => hfree k (s2 h0 k hk)⟩
  · obtain ⟨s1, s2⟩ := h.row y hy
    exact ⟨s1.moves m6 fun h0 k hk => (s2 h0 k hk).2.2.2.2.1, fun h0 k hk => hfree k (s2 h0 k hk)⟩
theorem CmpI.addRow (h : CmpI w0 B b W) (hl : b.R.length ≤ 2000000) :
    ∃ g cap w6, (appSem #[25, 25] 25 #[b.nv, .slice (some ⟨W.heap.size, 0, none⟩) 1 1]).run Tryz.prog (W.alloc (.cells #[b.xv] 34)) = .ok (.slice (some ⟨g, 0, none⟩) (b.R.length + 1) cap) w6 ∧
      w6.cell? ⟨B, 0, none⟩ = some b.nv ∧ w6.frozen? ⟨B, 0, none⟩ = false ∧ B < w6.heap.size ∧
      CmpI w0 B { b with R := b.R ++ [(b.xo, natsZ b.N, b.xc)], no := some ⟨g, 0, none⟩, nc := cap, N := [], xo := none, xc := 0 } (w6.setCell ⟨B, 0, none⟩ (.slice (some ⟨g, 0, none⟩) (b.R.length + 1) cap)) := by
  have hxe : slX (b.xo, natsZ b.N, b.xc) = b.xv := by unfold slX; simp only [List.length_map]
  obtain ⟨g, cap, w6, k1, k2, k3, k4⟩ := app_rowD W w0.heap.size b.R.length b.nv (b.R.map slX) (slX (b.xo, natsZ b.N, b.xc)) ⟨_, rfl⟩ h.rows hl h.bel.size
  rw [hxe] at k1 k3
  obtain ⟨l1, l2, l3, l4, l5⟩ := h.lts
  obtain ⟨ta, tn, tf, tx⟩ := h.types
  have a1 : Below W.heap.size W (W.alloc (.cells #[b.xv] 34)) := (Below.refl _ _).alloc (Nat.le_refl _) _
  have m6 : Moves (fun k => b.nv.ownBlock = some k) W w6 := (Moves.of_below a1).trans (moves_grownH k3)
  have ms : Moves (fun k => k = B) w6 (w6.setCell ⟨B, 0, none⟩ (.slice (some ⟨g, 0, none⟩) (b.R.length + 1) cap)) := Moves.setCell rfl
  have m7 : Moves (fun k => b.nv.ownBlock = some k ∨ k = B) W (w6.setCell ⟨B, 0, none⟩ (.slice (some ⟨g, 0, none⟩) (b.R.length + 1) cap)) := (m6.mono fun _ h => .inl h).trans (ms.mono fun _ h => .inr h)
  have z6 := m6.size
  have z7 := m7.size
  have bx6 := row_keep h.box m6 (fun e => (tn _ e).2.2.2 rfl)
  obtain ⟨c0, c1, f0, f1, lt6⟩ := mac5 bx6
  have hl1 : (b.R ++ [(b.xo, natsZ b.N, b.xc)]).length = b.R.length + 1 := by rw [List.length_append]; rfl
  have hgB : g ≠ B := by
    rcases k4 with k4 | k4
    · exact (tn g k4).2.2.2
    · omega
  have hfree : ∀ k, (k < W.heap.size ∧ ¬ b.av.ownBlock = some k ∧ ¬ b.nv.ownBlock = some k ∧ ¬ b.fv.ownBlock = some k ∧ k ≠ B) → FreeC B { b with R := b.R ++ [(b.xo, natsZ b.N, b.xc)], no := some ⟨g, 0, none⟩, nc := cap, N := [], xo := none, xc := 0 } (w6.setCell ⟨B, 0, none⟩ (.slice (some ⟨g, 0, none⟩) (b.R.length + 1) cap)) k := fun k hk => ⟨by have := hk.1; omega, hk.2.1, fun e => by
    have e2 : g = k := by simpa [Value.ownBlock] using e
    rcases k4 with k4 | k4
    · rw [e2] at k4; exact hk.2.2.1 k4
    · have := hk.1; omega, hk.2.2.2.1, fun e => by simp [Value.ownBlock] at e, hk.2.2.2.2⟩
  have hmv : ∀ (y : RowD), NumsAt W y.1 y.2.1 → (0 < y.2.1.length → ∀ k, inQ y.1 k → k < W.heap.size ∧ ¬ b.av.ownBlock = some k ∧ ¬ b.nv.ownBlock = some k ∧ ¬ b.fv.ownBlock = some k ∧ k ≠ B) → NumsAt (w6.setCell ⟨B, 0, none⟩ (.slice (some ⟨g, 0, none⟩) (b.R.length + 1) cap)) y.1 y.2.1 ∧ (0 < y.2.1.length → ∀ k, inQ y.1 k → FreeC B { b with R := b.R ++ [(b.xo, natsZ b.N, b.xc)], no := some ⟨g, 0, none⟩, nc := cap, N := [], xo := none, xc := 0 } (w6.setCell ⟨B, 0, none⟩ (.slice (some ⟨g, 0, none⟩) (b.R.length + 1) cap)) k) := fun y hy1 hy2 =>
    ⟨hy1.moves m7 fun h0 k hk hs => by
      rcases hs with hs | hs
      · exact (hy2 h0 k hk).2.2.1 hs
      · exact (hy2 h0 k hk).2.2.2.2 hs, fun h0 k hk => hfree k (hy2 h0 k hk)⟩
  have hsm : ∀ k, FreeC B b W k → k < W.heap.size ∧ ¬ b.av.ownBlock = some k ∧ ¬ b.nv.ownBlock = some k ∧ ¬ b.fv.ownBlock = some k ∧ k ≠ B := fun k hk => ⟨hk.1, hk.2.1, hk.2.2.1, hk.2.2.2.1, hk.2.2.2.2.2⟩
  refine ⟨g, cap, w6, k1, c0, f0, lt6, ⟨?_, own_movesH h.all m7 fun k hk hs => ?_, ?_, own_movesH h.fits m7 fun k hk hs => ?_, World.ownsRow_nil _ _ _ _, fun y hy => hmv y (h.sets y hy).1 fun h0 k hk => hsm k ((h.sets y hy).2 h0 k hk), fun y hy => ?_, Moves.below h.bel h.bel.size m7 fun k hk => ?_, h.lo⟩⟩
  · show _ = some (mchO (some ⟨g, 0, none⟩) (b.R ++ [(b.xo, natsZ b.N, b.xc)]).length cap b.fo b.F.length b.fc)
    rw [hl1]
    exact mac_set0 _ bx6
  · rcases hs with hs | hs
    · exact (ta k hk).1 hs
    · exact (ta k hk).2.2.2 hs
  · show World.ownsRow _ _ _ _ (.slice (some ⟨g, 0, none⟩) (b.R ++ [(b.xo, natsZ b.N, b.xc)]).length cap) (b.R ++ [(b.xo, natsZ b.N, b.xc)]).length ((b.R ++ [(b.xo, natsZ b.N, b.xc)]).map slX)
    rw [hl1, List.map_append]
    exact own_movesH k2 ms fun k hk e => by
      have : g = k := by simpa [Value.ownBlock] using hk
      exact hgB (this.trans e)
  · rcases hs with hs | hs
    · exact (tf k hk).2.1 hs
    · exact (tf k hk).2.2.2 hs
  · rcases List.mem_append.1 hy with hy | hy
    · exact hmv y (h.row y hy).1 fun h0 k hk => hsm k ((h.row y hy).2 h0 k hk)
    · rw [List.mem_singleton.1 hy]
      refine hmv (b.xo, natsZ b.N, b.xc) (nums_ownN h.next) fun h0 k hk => ?_
      have hk2 : b.xv.ownBlock = some k := inQ_own.1 hk
      exact ⟨l5 k hk2, (tx k hk2).1, (tx k hk2).2.1, (tx k hk2).2.2.1, (tx k hk2).2.2.2⟩
  · rcases hk with hk | hk
    · exact h.lows.2.1 k hk
    · rw [hk]; exact h.lo
theorem CmpI.addFit (h : CmpI w0 B b W) (i : Nat) (hl : b.F.length ≤ 2000000) :
    ∃ g cap w6, (appSem #[26, 26] 26 #[b.fv, .slice (some ⟨W.heap.size, 0, none⟩) 1 1]).run Tryz.prog (W.alloc (.cells #[.int .i64 ((i : Nat) : Int)] 2)) = .ok (.slice (some ⟨g, 0, none⟩) (b.F.length + 1) cap) w6 ∧
      w6.cell? ⟨B, 1, none⟩ = some b.fv ∧ w6.frozen? ⟨B, 1, none⟩ = false ∧ B < w6.heap.size ∧
      CmpI w0 B { b with F := b.F ++ [i], fo := some ⟨g, 0, none⟩, fc := cap } (w6.setCell ⟨B, 1, none⟩ (.slice (some ⟨g, 0, none⟩) (b.F.length + 1) cap)) := by
  obtain ⟨g, cap, w6, k1, k2, k3, k4⟩ := app_i64 W w0.heap.size b.F.length b.fv (intsV b.F) (.int .i64 ((i : Nat) : Int)) ⟨_, rfl⟩ h.fits hl h.bel.size
  obtain ⟨l1, l2, l3, l4, l5⟩ := h.lts
  obtain ⟨ta, tn, tf, tx⟩ := h.types
  have a1 : Below W.heap.size W (W.alloc (.cells #[.int .i64 ((i : Nat) : Int)] 2)) := (Below.refl _ _).alloc (Nat.le_refl _) _
  have m6 : Moves (fun k => b.fv.ownBlock = some k) W w6 := (Moves.of_below a1).trans (moves_grownH k3)
  have ms : Moves (fun k => k = B) w6 (w6.setCell ⟨B, 1, none⟩ (.slice (some ⟨g, 0, none⟩) (b.F.length + 1) cap)) := Moves.setCell rfl
  have m7 : Moves (fun k => b.fv.ownBlock = some k ∨ k = B) W (w6.setCell ⟨B, 1, none⟩ (.slice (some ⟨g, 0, none⟩) (b.F.length + 1) cap)) := (m6.mono fun _ h => .inl h).trans (ms.mono fun _ h => .inr h)
  have z6 := m6.size
  have z7 := m7.size
  have bx6 := row_keep h.box m6 (fun e => (tf _ e).2.2.2 rfl)
  obtain ⟨c0, c1, f0, f1, lt6⟩ := mac5 bx6
  have hl1 : (b.F ++ [i]).length = b.F.length + 1 := by rw [List.length_append]; rfl
  have hgB : g ≠ B := by
    rcases k4 with k4 | k4
    · exact (tf g k4).2.2.2
    · omega
  have hfree : ∀ k, FreeC B b W k → FreeC B { b with F := b.F ++ [i], fo := some ⟨g, 0, none⟩, fc := cap } (w6.setCell ⟨B, 1, none⟩ (.slice (some ⟨g, 0, none⟩) (b.F.length + 1) cap)) k := fun k hk => ⟨by have := hk.1; omega, hk.2.1, hk.2.2.1, fun e => by
    have e2 : g = k := by simpa [Value.ownBlock] using e
    rcases k4 with k4 | k4
    · rw [e2] at k4; exact hk.2.2.2.1 k4
    · have := hk.1; omega, hk.2.2.2.2⟩
  have hmv : ∀ (y : RowD), (NumsAt W y.1 y.2.1 ∧ (0 < y.2.1.length → ∀ k, inQ y.1 k → FreeC B b W k)) → NumsAt (w6.setCell ⟨B, 1, none⟩ (.slice (some ⟨g, 0, none⟩) (b.F.length + 1) cap)) y.1 y.2.1 ∧ (0 < y.2.1.length → ∀ k, inQ y.1 k → FreeC B { b with F := b.F ++ [i], fo := some ⟨g, 0, none⟩, fc := cap } (w6.setCell ⟨B, 1, none⟩ (.slice (some ⟨g, 0, none⟩) (b.F.length + 1) cap)) k) := fun y hy =>
    ⟨hy.1.moves m7 fun h0 k hk hs => by
      rcases hs with hs | hs
      · exact (hy.2 h0 k hk).2.2.2.1 hs
      · exact (hy.2 h0 k hk).2.2.2.2.2 hs, fun h0 k hk => hfree k (hy.2 h0 k hk)⟩
  refine ⟨g, cap, w6, k1, c1, f1, lt6, ⟨?_, own_movesH h.all m7 fun k hk hs => ?_, own_movesH h.rows m7 fun k hk hs => ?_, ?_, own_movesH h.next m7 fun k hk hs => ?_, fun y hy => hmv y (h.sets y hy), fun y hy => hmv y (h.row y hy), Moves.below h.bel h.bel.size m7 fun k hk => ?_, h.lo⟩⟩
  · show _ = some (mchO b.no b.R.length b.nc (some ⟨g, 0, none⟩) (b.F ++ [i]).length cap)
    rw [hl1]
    exact mac_set1 _ bx6
  · rcases hs with hs | hs
    · exact (ta k hk).2.1 hs
    · exact (ta k hk).2.2.2 hs
  · rcases hs with hs | hs
    · exact (tn k hk).2.1 hs
    · exact (tn k hk).2.2.2 hs
  · show World.ownsRow _ _ _ _ (.slice (some ⟨g, 0, none⟩) (b.F ++ [i]).length cap) (b.F ++ [i]).length (intsV (b.F ++ [i]))
    rw [hl1, intsV_snoc]
    exact own_movesH k2 ms fun k hk e => by
      have : g = k := by simpa [Value.ownBlock] using hk
      exact hgB (this.trans e)
  · rcases hs with hs | hs
    · exact (tx k hk).2.2.1 hs
    · exact (tx k hk).2.2.2 hs
  · rcases hk with hk | hk
    · exact h.lows.2.2.1 k hk
    · rw [hk]; exact h.lo
abbrev CmpS.m (b : CmpS) : MachX := ⟨b.no, b.R, b.nc, b.fo, natsZ b.F, b.fc⟩
theorem CmpI.made (h : CmpI w0 B b W) : MachD W b.m := ⟨rows_ownD h.rows, fun x hx => (h.row x hx).1, nums_ownN h.fits⟩
theorem CmpI.rowsA (h : CmpI w0 B b W) : RowsD W b.ao b.A := rows_ownD h.all
end
end Go.Proofs.YtaoooocalpkhjaaGreatDoor
namespace Go.Proofs.YtaoooocalpkhjaaGreatDoor
open Go.RowKit Go.Shelf Go.Maps
attribute [local go_sem] Oper.semAt_some

theorem mac_end {w W : World} {a b u v : Value} (h : W.heap[w.heap.size]? = some (.cells #[u, v] 28 (0, 0))) (hb : Below w.heap.size w W) :
    W.cell? ⟨w.heap.size, 0, none⟩ = some u ∧ W.cell? ⟨w.heap.size, 1, none⟩ = some v ∧ W.frozen? ⟨w.heap.size, 0, none⟩ = false ∧ W.frozen? ⟨w.heap.size, 1, none⟩ = false ∧ w.heap.size < W.heap.size ∧
    ∃ W3, (W.setCell ⟨w.heap.size, 0, none⟩ a).setCell ⟨w.heap.size, 1, none⟩ b = W3 ∧ W3.heap[w.heap.size]? = some (.cells #[a, b] 28 (0, 0)) ∧ Below w.heap.size w W3 ∧ Moves (fun k => k = w.heap.size) W W3 := by
  obtain ⟨c0, c1, f0, f1, lt⟩ := mac5 h
  obtain ⟨q3, m3⟩ := two_setD a b h
  exact ⟨c0, c1, f0, f1, lt, _, rfl, q3, Moves.below hb hb.size m3 (fun k hk => by omega), m3⟩
set_option maxRecDepth 100000 in
set_option maxHeartbeats 4000000 in
theorem refCompile_bad (o : Option Addr) (l : List RulX) (cap : Nat) (n : Int) (hl : l.length ≤ 100000) (hfw : FewC l) (w : World) (hA : AtC w o l) (hI : ItsC w l) (hr : rightsU (l.map plX) n = false) :
    Calls Tryz.prog 12 #[.slice o l.length cap, .int .i64 n] w fun e w' => e = .returned (.tuple #[.agg #[.slice none 0 0, .slice none 0 0], .int .i64 90]) ∧ Below w.heap.size w w' := by
  obtain ⟨w1, hw1⟩ : ∃ w1, w.alloc (.cells #[.slice none 0 0, .slice none 0 0] 28) = w1 := ⟨_, rfl⟩
  have b1 : Below w.heap.size w w1 := by rw [← hw1]; exact (Below.refl _ _).alloc (Nat.le_refl _) _
  have r1 : w1.heap[w.heap.size]? = some (.cells #[.slice none 0 0, .slice none 0 0] 28 (0, 0)) := by rw [← hw1]; exact heap_alloc_new _ _
  have HR := Lib.hid (refRightJ_any o l cap n hl hfw w1 (hA.below b1) (hI.below b1))
  rw [hr] at HR
  have HW1 := Lib.hid hw1
  have HB1 := Lib.hid b1
  have HR1 := Lib.hid r1
  obtain ⟨k, hk⟩ : ∃ k, l.length = k := ⟨_, rfl⟩
  rw [hk] at HR ⊢
  clear hw1 b1 r1 hA hI hr hfw hl hk
  go_enter Tryz.func12, Tryz.ntmps12
  go_wp2_with fail
  rw [HW1.out]
  refine HR.out.mono ?_
  rintro e W2 ⟨rfl, b2⟩
  obtain ⟨c0, c1, f0, f1, lt, W3, hW3, q3, b3, _⟩ := mac_end (a := .slice none 0 0) (b := .slice none 0 0) (row_below HR1.out b2) (HB1.out.trans (b2.mono HB1.out.size))
  have HW3 := Lib.hid hW3
  have HR3 := Lib.hid q3
  have HB3 := Lib.hid b3
  clear b2 q3 hW3 b3
  go_wp2_with fail
  rw [HW3.out]
  exact bodyPost_ret (v := .tuple #[.agg #[.slice none 0 0, .slice none 0 0], .int .i64 90]) (results_cell_tmpD rfl _ _ w.heap.size _ _ _ _ _ rfl rfl HR3.out Tryz.underlying28 rfl (by kernel_rfl)) rfl ⟨rfl, HB3.out⟩
structure CmpF (R : List PatP) (n i : Nat) (b : CmpS) : Prop where
  all : b.A.map (·.2.1) = (runD R n (i * (n + 1))).1.map natsZ
  le : b.A.length ≤ 300
  at_ : i ≤ b.A.length
  rows : b.R.map (·.2.1) = rowsP n (runD R n (i * (n + 1))).2 i
  fits : b.F = ((runD R n (i * (n + 1))).1.take i).map (doneD R)
  next : b.N = []
  xnone : b.xo = none
  cap : b.xc = 0
structure CmpG (R : List PatP) (n i c : Nat) (b b' : CmpS) : Prop where
  all : b'.A.map (·.2.1) = (runD R n (i * (n + 1) + c)).1.map natsZ
  le : b'.A.length ≤ 300
  at_ : i < b'.A.length
  way : (runD R n (i * (n + 1) + c)).2 = (runD R n (i * (n + 1))).2 ++ b'.N
  len : b'.N.length = c
  rows : b'.R = b.R
  no : b'.no = b.no
  nc : b'.nc = b.nc
  fits : b'.F = b.F
  fo : b'.fo = b.fo
  fc : b'.fc = b.fc
section
variable {R : List PatP} {n i c : Nat} {b b' : CmpS}
theorem CmpF.lenA (h : CmpF R n i b) : b.A.length = (runD R n (i * (n + 1))).1.length := by
  have := congrArg List.length h.all
  rwa [List.length_map, List.length_map] at this
theorem CmpG.lenA (h : CmpG R n i c b b') : b'.A.length = (runD R n (i * (n + 1) + c)).1.length := by
  have := congrArg List.length h.all
  rwa [List.length_map, List.length_map] at this
theorem CmpF.start (h : CmpF R n i b) (hi : i < b.A.length) : CmpG R n i 0 b b :=
  ⟨h.all, h.le, hi, by rw [h.next, List.append_nil]; rfl, by rw [h.next]; rfl, rfl, rfl, rfl, rfl, rfl, rfl⟩
theorem CmpF.state (h : CmpF R n i b) (hi : i < b.A.length) : ∃ S x, (runD R n (i * (n + 1))).1[i]? = some S ∧ b.A[i]? = some x ∧ x.2.1 = natsZ S := by
  obtain ⟨S, hS⟩ : ∃ S, (runD R n (i * (n + 1))).1[i]? = some S := ⟨_, List.getElem?_eq_getElem (by rw [← h.lenA]; exact hi)⟩
  obtain ⟨x, hx⟩ : ∃ x, b.A[i]? = some x := ⟨_, List.getElem?_eq_getElem hi⟩
  refine ⟨S, x, hS, hx, ?_⟩
  have e := congrArg (fun z => z[i]?) h.all
  simp only [List.getElem?_map, hx, hS] at e
  exact Option.some.inj e
theorem CmpG.state (h : CmpG R n i c b b') {S : List Nat} (hS : (runD R n (i * (n + 1))).1[i]? = some S) : (runD R n (i * (n + 1) + c)).1[i]? = some S ∧ ∃ x, b'.A[i]? = some x ∧ x.2.1 = natsZ S := by
  have h1 := prefix_get (run_prefix R n (show i * (n + 1) ≤ i * (n + 1) + c by omega)) hS
  obtain ⟨x, hx⟩ : ∃ x, b'.A[i]? = some x := ⟨_, List.getElem?_eq_getElem h.at_⟩
  refine ⟨h1, x, hx, ?_⟩
  have e := congrArg (fun z => z[i]?) h.all
  simp only [List.getElem?_map, hx, h1] at e
  exact Option.some.inj e
theorem CmpG.met (h : CmpG R n i c b b') (hi : i < 300) (hc : c ≤ n) {S : List Nat} (hS : (runD R n (i * (n + 1))).1[i]? = some S) {j : Nat} (hj : (b'.A.map (·.2.1)).idxOf (natsZ (stepD R S ((c : Nat) : Int))) = j) :
    (j = 300 ∧ 300 < (finD R n).1.length) ∨
    (j = b'.A.length ∧ j < 300 ∧ ∀ lo lc ao ac xo xc, CmpG R n i (c + 1) b { b' with A := b'.A ++ [(lo, natsZ (stepD R S ((c : Nat) : Int)), lc)], ao := ao, ac := ac, N := b'.N ++ [j], xo := xo, xc := xc }) ∨
    (j < b'.A.length ∧ j < 300 ∧ ∀ xo xc, CmpG R n i (c + 1) b { b' with N := b'.N ++ [j], xo := xo, xc := xc }) := by
  obtain ⟨hp, hm⟩ := place_next (i := i) hc
  have hS2 := (h.state hS).1
  rw [h.all, idx_nats] at hj
  have hq : i * (n + 1) + c < 300 * (n + 1) := by
    have : (i + 1) * (n + 1) ≤ 300 * (n + 1) := Nat.mul_le_mul_right _ hi
    rw [Nat.succ_mul] at this
    omega
  have hlen := h.lenA
  have hle := h.le
  have hat := h.at_
  have hcs := met_cases (R := R) (n := n) (q := i * (n + 1) + c) (S := S) (by rw [hp]; exact hS2) hq (by omega)
  rw [hm, hj] at hcs
  rcases hcs with h1 | ⟨h1, h2, h3⟩ | ⟨h1, h2⟩
  · exact .inl h1
  · refine .inr (.inl ⟨by omega, by omega, fun lo lc ao ac xo xc => ⟨?_, ?_, ?_, ?_, ?_, h.rows, h.no, h.nc, h.fits, h.fo, h.fc⟩⟩)
    · show List.map (fun x : RowD => x.2.1) (b'.A ++ [(lo, natsZ (stepD R S ((c : Nat) : Int)), lc)]) = (runD R n (i * (n + 1) + c + 1)).1.map natsZ
      rw [h3, List.map_append, List.map_append, h.all]
      rfl
    · show (b'.A ++ [(lo, natsZ (stepD R S ((c : Nat) : Int)), lc)]).length ≤ 300
      rw [List.length_append, List.length_singleton]
      omega
    · show i < (b'.A ++ [(lo, natsZ (stepD R S ((c : Nat) : Int)), lc)]).length
      rw [List.length_append]
      omega
    · show (runD R n (i * (n + 1) + c + 1)).2 = _ ++ (b'.N ++ [j])
      rw [h3, h.way, List.append_assoc, ← h1]
    · show (b'.N ++ [j]).length = c + 1
      rw [List.length_append, h.len]
      rfl
  · refine .inr (.inr ⟨by omega, by omega, fun xo xc => ⟨?_, hle, hat, ?_, ?_, h.rows, h.no, h.nc, h.fits, h.fo, h.fc⟩⟩)
    · show b'.A.map (·.2.1) = (runD R n (i * (n + 1) + c + 1)).1.map natsZ
      rw [h2, h.all]
    · show (runD R n (i * (n + 1) + c + 1)).2 = _ ++ (b'.N ++ [j])
      rw [h2, h.way, List.append_assoc]
    · show (b'.N ++ [j]).length = c + 1
      rw [List.length_append, h.len]
      rfl
theorem CmpF.step (h : CmpF R n i b) (g : CmpG R n i (n + 1) b b') {S : List Nat} (hS : (runD R n (i * (n + 1))).1[i]? = some S) (hi : i < b.A.length) (ro no fo : Option Addr) (nc fc rc : Nat) :
    CmpF R n (i + 1) { b' with R := b'.R ++ [(ro, natsZ b'.N, rc)], no := no, nc := nc, F := b'.F ++ [doneD R S], fo := fo, fc := fc, N := [], xo := none, xc := 0 } := by
  have hq : (i + 1) * (n + 1) = i * (n + 1) + (n + 1) := Nat.succ_mul _ _
  have hlen := h.lenA
  have hpre := run_prefix R n (show i * (n + 1) ≤ (i + 1) * (n + 1) by omega)
  refine ⟨?_, g.le, ?_, ?_, ?_, rfl, rfl, rfl⟩
  · show b'.A.map (·.2.1) = _
    rw [hq, g.all]
  · show i + 1 ≤ b'.A.length
    exact g.at_
  · show List.map (fun x : RowD => x.2.1) (b'.R ++ [(ro, natsZ b'.N, rc)]) = _
    rw [hq, g.way, List.map_append, g.rows, h.rows, rowsP_snoc ?_ g.len]
    · rfl
    · exact ways_row (c := 0) (by rw [← hlen]; exact hi) (by omega)
  · show b'.F ++ [doneD R S] = _
    rw [g.fits, h.fits, List.take_add_one, prefix_get hpre hS, Option.toList_some, List.map_append, take_prefix hpre (by omega)]
    rfl
theorem CmpF.end_ (h : CmpF R n i b) (hi : i = b.A.length) : (finD R n).1.length ≤ 300 ∧ b.m.rows.map (·.2.1) = finR R n ∧ b.m.fits = finF R n := by
  have hlen := h.lenA
  have hle := h.le
  obtain ⟨h1, h2⟩ := run_over (R := R) (n := n) (i := i) (by omega) (by omega)
  refine ⟨by omega, ?_, ?_⟩
  · show b.R.map (·.2.1) = rowsP n (finD R n).2 (finD R n).1.length
    rw [h.rows, h1, h2]
  · show natsZ b.F = doneP R (finD R n).1
    rw [h.fits, h1, List.take_of_length_le (by omega)]
    unfold doneP
    simp only [natsZ, List.map_map, Function.comp_def]
end
end Go.Proofs.YtaoooocalpkhjaaGreatDoor
