/- RuleTurned: rules that say all the other way about. -/
import Derived.Test.YtnmhdcbpbaanoaaGreatDoorBunA25
namespace Go.Proofs.YtnmhdcbpbaanoaaGreatDoor
open Go.RowKit Go.Shelf Go.Maps
attribute [local go_sem] Oper.semAt_some
attribute [local go_sem ↓] app_hide

def turnX (x : RulX) : RulX := (x.1, x.2.1, !x.2.2)
theorem turn_plX (l : List RulX) : (l.map turnX).map plX = (l.map plX).map turnP := by
  rw [List.map_map, List.map_map]
  rfl
theorem itsC_turn {w : World} {l : List RulX} (h : ItsC w l) : ItsC w (l.map turnX) := fun y hy => by
  obtain ⟨x, hx, rfl⟩ := List.mem_map.1 hy
  exact h x hx
theorem fewC_turn {l : List RulX} (h : FewC l) : FewC (l.map turnX) := fun y hy => by
  obtain ⟨x, hx, rfl⟩ := List.mem_map.1 hy
  exact h x hx
theorem turn_own {W : World} {base j : Nat} {ro : Option Addr} {rc : Nat} {F : List RulX} {x : RulX} (ho : W.ownsRow base 37 5 (.slice ro j rc) j (rulsC ((F.take j).map turnX))) (hx : F[j]? = some x) (hj : j ≤ 1000) (hb : base ≤ W.heap.size) :
    ∃ g' cap' w6, (appSem #[22, 22] 22 #[.slice ro j rc, .slice (some ⟨W.heap.size, 0, none⟩) 1 1]).run Tryz.prog (W.alloc (rulO (turnX x))).drew = .ok (.slice (some ⟨g', 0, none⟩) (j + 1) cap') w6 ∧
      w6.ownsRow base 37 5 (.slice (some ⟨g', 0, none⟩) (j + 1) cap') (j + 1) (rulsC ((F.take (j + 1)).map turnX)) ∧ Below base W w6 := by
  have hd : Below W.heap.size W W.drew := (Below.refl _ _).drew
  obtain ⟨g', cap', w6, hrun, hown', hgrow, _⟩ := rul_own (W := W.drew) (turnX x) (own_below ho hd) hj hb
  have e : rulsC ((F.take (j + 1)).map turnX) = rulsC ((F.take j).map turnX) ++ (rulC (turnX x)).toList := by
    rw [List.take_add_one, hx, List.map_append]
    exact rulsC_snoc _ _
  refine ⟨g', cap', w6, hrun, by rw [e]; exact hown', ?_⟩
  exact ((hd.mono hb).alloc hb _).grown hgrow (by have := World.size_alloc W.drew (rulO (turnX x)); show base ≤ _; have : W.drew.heap.size = W.heap.size := rfl; omega) (fun k hk => own_rowJ ho hk)
set_option maxRecDepth 100000 in
set_option maxHeartbeats 4000000 in
theorem ruleTurned_anyL (o lo : Option Addr) (l : List RulX) (cap lcap : Nat) (L : List Int) (a : Int) (w : World) (aU aS : Addr) (hQ : GlobQ w aU aS) (hG : KGlob w) {m : Int} (hMx : w.cell? ⟨3, 0, none⟩ = some (.int .i64 m)) (hA : AtC w o l) (hI : ItsC w l) (hL : ListJ w lo L lcap) :
    Calls Tryz.prog 9 #[.slice o l.length cap, .slice lo L.length lcap, .int .i64 a] w fun e w' => e = .returned (.bool true) ∧ Below w.heap.size w w' := by
  obtain ⟨P, hP⟩ : ∃ P, (fun (e : Ending) (w' : World) => e = .returned (.bool true) ∧ Below w.heap.size w w') = P := ⟨_, rfl⟩
  have HP := Lib.hid hP
  rw [hP]
  have HPP : Hid (∀ W, Below w.heap.size w W → P (.returned (.bool true)) W) := by rw [← HP.out]; exact Lib.hid fun W h => ⟨rfl, h⟩
  have HSH := Lib.hid (shownJ_any w aU aS hQ hG hMx)
  have HFW := Lib.hid (fun W (hb : Below w.heap.size w W) => Few_anyJ o l cap W (hA.below hb) (hI.below hb))
  have HLI := Lib.hid (fun W => list_anyJ lo L.length lcap hL.le W)
  have hl30 : (L.take 30).length = min L.length 30 := by rw [List.length_take]; omega
  have HLL := Lib.hid (fun W (hb : Below w.heap.size w W) => (listJ_take hL 30).below hb)
  have HIF := Lib.hid (itsC_few hI)
  have HFF := Lib.hid (fewC_few l)
  have hfl := fewL_len l
  rw [← hl30] at HLI
  obtain ⟨Lk, hLk⟩ : ∃ q, L.take 30 = q := ⟨_, rfl⟩
  rw [hLk] at HLI HLL hl30
  have hlk : Lk.length ≤ 30 := by rw [hl30]; omega
  obtain ⟨F, hF⟩ : ∃ q, fewL l = q := ⟨_, rfl⟩
  rw [hF] at HFW HIF HFF hfl
  obtain ⟨ll, hll⟩ : ∃ q, L.length = q := ⟨_, rfl⟩
  obtain ⟨nl, hnl⟩ : ∃ q, l.length = q := ⟨_, rfl⟩
  rw [hnl] at HFW ⊢
  rw [hll] at HLI ⊢
  clear hP hQ hG hMx hA hI hL hl30 hLk hF hll hnl HP
  go_enter Tryz.func9, Tryz.ntmps9
  go_wp2_with fail
  refine HSH.out.mono ?_
  rintro e w1 ⟨rfl, b1⟩
  have HB1 := Lib.hid b1
  clear b1
  go_wp2_with fail
  refine (HFW.out w1 HB1.out).mono ?_
  rintro e w2 ⟨o2, c2, rfl, ho, b2⟩
  have HB2 := Lib.hid (HB1.out.trans (b2.mono HB1.out.size))
  have HAF := Lib.hid (atC_own ho rfl)
  have HIW := Lib.hid (HIF.out.below HB2.out)
  obtain ⟨nf, hnf⟩ : ∃ q, F.length = q := ⟨_, rfl⟩
  have HNF := Lib.hid hnf
  rw [hnf] at hfl ⊢
  clear ho b2 hnf HSH HFW
  go_wp2_with fail
  refine (HLI.out w2).mono ?_
  rintro e _ ⟨rfl, rfl⟩
  have HLJ := Lib.hid (HLL.out w2 HB2.out)
  obtain ⟨nk, hnk⟩ : ∃ q, Lk.length = q := ⟨_, rfl⟩
  have HNK := Lib.hid hnk
  rw [hnk] at hlk ⊢
  clear hnk HLI HLL
  go_wp2_with fail
  go_loopg [8, 9] nf (fun k v8 v9 wr => ∃ (j : Nat) (ro : Option Addr) (rc : Nat), v9 = .int .i64 (j : Nat) ∧ v8 = .slice ro j rc ∧ j ≤ nf ∧ k = nf - j ∧ Hid (wr.ownsRow w2.heap.size 37 5 (.slice ro j rc) j (rulsC ((F.take j).map turnX))) ∧ Hid (Below w2.heap.size w2 wr))
  case atStart => exact ⟨0, none, 0, rfl, rfl, by omega, rfl, Lib.hid (World.ownsRow_nil _ _ _ _), Lib.hid (Below.refl _ _)⟩
  case round =>
    obtain ⟨j, ro, rc, rfl, rfl, hjn, rfl, HO, HB⟩ := hrel
    rcases Nat.lt_or_ge j nf with hlt | hge
    · have d1 : decide (((j : Nat) : Int) < ((nf : Nat) : Int)) = true := decide_eq_true (by omega)
      obtain ⟨x, hx⟩ : ∃ x, F[j]? = some x := ⟨_, List.getElem?_eq_getElem (by rw [HNF.out]; exact hlt)⟩
      obtain ⟨g, off, rfl, hc⟩ := HAF.out (by rw [HNF.out]; omega)
      obtain ⟨q0, q1, q2, q3, q4⟩ := hc j x hx
      have hb2 := HB.out
      have t0 := cell_keepQ hb2 q0
      have t1 := cell_keepQ hb2 q1
      have t2 := cell_keepQ hb2 q2
      have t3 := cell_keepQ hb2 q3
      have t4 := cell_keepQ hb2 q4
      obtain ⟨g', cap', w6, hrun, hown', hb6⟩ := turn_own HO.out hx (by omega) hb2.size
      have HO6 := Lib.hid hown'
      have HB6 := Lib.hid (hb2.trans hb6)
      have hjm : j < 1000000 := by omega
      obtain ⟨⟨s1, p1, xs1, c1⟩, ⟨s2, p2, xs2, c2'⟩, br⟩ := x
      simp only [turnX, rulO, rulC] at hrun
      simp only at t0 t1 t2 t3 t4
      obtain ⟨m1, hm1⟩ : ∃ k, xs1.length = k := ⟨_, rfl⟩
      obtain ⟨m2, hm2⟩ : ∃ k, xs2.length = k := ⟨_, rfl⟩
      simp only [hm1, hm2] at hrun t1 t3
      have hgw := World.block_lt_of_cell? wr _ t0
      clear hc hx q0 q1 q2 q3 q4 hb2 hown' hb6 hm1 hm2 HO HB
      go_wp2_with fail
      go_region
      all_goals
        go_wp2
        go_roundg (nf - (j + 1))
        case measure => omega
        case rel => exact ⟨j + 1, _, _, by simp, rfl, by omega, rfl, HO6, HB6⟩
    · obtain rfl : j = nf := by omega
      have hall : F.take j = F := List.take_of_length_le (by rw [HNF.out]; exact Nat.le_refl _)
      have ho := HO.out
      rw [hall] at ho
      have hlen : (F.map turnX).length = j := by rw [List.length_map, HNF.out]
      have HAT := Lib.hid (atC_own ho hlen.symm)
      have HIT := Lib.hid (itsC_turn (HIW.out.below HB.out))
      have HIW2 := Lib.hid (HIW.out.below HB.out)
      have HAF2 := Lib.hid (HAF.out.below HB.out)
      have HLJ2 := Lib.hid (HLJ.out.below HB.out)
      have K1 := Lib.hid (DecideJ_any o2 lo F c2 lcap Lk a (by rw [HNF.out]; omega) (by rw [HNK.out]; omega) HFF.out wr HAF2.out HIW2.out HLJ2.out)
      have K2 := Lib.hid (fun W (hb : Below wr.heap.size wr W) => DecideJ_any ro lo (F.map turnX) rc lcap Lk a (by rw [hlen]; omega) (by rw [HNK.out]; omega) (fewC_turn HFF.out) W (HAT.out.below hb) (HIT.out.below hb) (HLJ2.out.below hb))
      have K3 := Lib.hid (fun W (hb : Below wr.heap.size wr W) => RightJ_any o2 F c2 32 (by rw [HNF.out]; omega) HFF.out W (HAF2.out.below hb) (HIW2.out.below hb))
      have K4 := Lib.hid (fun W (hb : Below wr.heap.size wr W) => RightJ_any ro (F.map turnX) rc 32 (by rw [hlen]; omega) (fewC_turn HFF.out) W (HAT.out.below hb) (HIT.out.below hb))
      rw [turn_plX, decide_turn] at K2
      rw [turn_plX, rights_turn] at K4
      rw [hlen] at K2 K4
      rw [HNF.out] at K1 K3
      rw [HNK.out] at K1 K2
      obtain ⟨⟨q1, q2⟩, hq⟩ : ∃ q, decideU (F.map plX) Lk a = q := ⟨_, rfl⟩
      obtain ⟨r, hr⟩ : ∃ r, rightsU (F.map plX) 32 = r := ⟨_, rfl⟩
      rw [hq] at K1 K2
      rw [hr] at K3 K4
      simp only at K1 K2
      have HBW := Lib.hid (HB2.out.trans (HB.out.mono HB2.out.size))
      clear hq hr ho hall hlen HO HB HAT HIT HIW2 HAF2 HLJ2 HAF HIW HLJ HFF HIF HB1 HB2
      have d1 : decide (((j : Nat) : Int) < ((j : Nat) : Int)) = false := decide_eq_false (by omega)
      go_wp2_with fail
      refine K1.out.mono ?_
      rintro e w3 ⟨rfl, b3⟩
      have K2' := Lib.hid (K2.out w3 b3)
      have HB3 := Lib.hid b3
      clear b3 K1 K2
      by_cases h : q2 < 0
      · rw [if_pos h] at K2'
        have e1 : decide (q2 < 0) = true := decide_eq_true h
        simp only at K2'
        go_wp2_with fail
        refine K2'.out.mono ?_
        rintro e w4 ⟨rfl, b4⟩
        have HB4 := Lib.hid (HB3.out.trans (b4.mono HB3.out.size))
        have K3' := Lib.hid (K3.out w4 HB4.out)
        clear b4 K3 K2'
        go_wp2_with fail
        refine K3'.out.mono ?_
        rintro e w5 ⟨rfl, b5⟩
        have HB5 := Lib.hid (HB4.out.trans (b5.mono HB4.out.size))
        have K4' := Lib.hid (K4.out w5 HB5.out)
        clear b5 K3' K4
        go_wp2_with fail
        refine K4'.out.mono ?_
        rintro e w6 ⟨rfl, b6⟩
        have HQ := Lib.hid (HPP.out w6 (HBW.out.trans ((HB5.out.trans (b6.mono HB5.out.size)).mono HBW.out.size)))
        clear b6 K4'
        cases q1 <;> cases r <;> (go_wp2_with fail; exact HQ.out)
      · rw [if_neg h] at K2'
        have e1 : decide (q2 < 0) = false := decide_eq_false h
        have e2 : decide (0 ≤ q2) = true := decide_eq_true (by omega)
        simp only at K2'
        go_wp2_with fail
        refine K2'.out.mono ?_
        rintro e w4 ⟨rfl, b4⟩
        have HB4 := Lib.hid (HB3.out.trans (b4.mono HB3.out.size))
        have K3' := Lib.hid (K3.out w4 HB4.out)
        clear b4 K3 K2'
        go_wp2_with fail
        refine K3'.out.mono ?_
        rintro e w5 ⟨rfl, b5⟩
        have HB5 := Lib.hid (HB4.out.trans (b5.mono HB4.out.size))
        have K4' := Lib.hid (K4.out w5 HB5.out)
        clear b5 K3' K4
        go_wp2_with fail
        refine K4'.out.mono ?_
        rintro e w6 ⟨rfl, b6⟩
        have HQ := Lib.hid (HPP.out w6 (HBW.out.trans ((HB5.out.trans (b6.mono HB5.out.size)).mono HBW.out.size)))
        clear b6 K4'
        cases q1 <;> cases r <;> (go_wp2_with fail; exact HQ.out)
/-- The same, as its card wants it. -/
theorem ruleTurned_card (l : List RulX) (o : Option Addr) (cap : Nat) (L : List Int) (lo : Option Addr) (lcap : Nat) (a : Int) (_h0 : l.length ≤ cap) (h1 : L.length ≤ lcap) (w : World) (aU aS : Addr) (hQ : GlobQ w aU aS) (hG : KGlob w) (hS : w.ShapedOpen Tryz.prog) (A0 : AtC w o l ∧ ItsC w l) (A1 : NumsInQ w lo L ∧ (lo = none → lcap = 0) ∧ ∀ p, lo = some p → 0 < lcap → p.spot = none) :
    Calls Tryz.prog 9 #[.slice o l.length cap, .slice lo L.length lcap, .int .i64 a] w fun e w' => e = .returned (.bool true) ∧ Below w.heap.size w w' := by
  obtain ⟨m, hMx⟩ := mx_shapedJ hS
  exact ruleTurned_anyL o lo l cap lcap L a w aU aS hQ hG hMx A0.1 A0.2 ⟨A1.1.1, h1, A1.2.1, A1.2.2⟩
end Go.Proofs.YtnmhdcbpbaanoaaGreatDoor
