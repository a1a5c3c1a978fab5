/- RuleMore: rules that say nothing of a place leave it to those behind. -/
import Derived.Test.YtnmhdcbpbaanoaaGreatDoorBunA25
namespace Go.Proofs.YtnmhdcbpbaanoaaGreatDoor
open Go.RowKit Go.Shelf Go.Maps
attribute [local go_sem] Oper.semAt_some
attribute [local go_sem ↓] app_hide

set_option maxRecDepth 100000 in
set_option maxHeartbeats 4000000 in
theorem ruleMore_anyL (o ob lo : Option Addr) (l lb : List RulX) (cap capb lcap : Nat) (L : List Int) (a : Int) (hlc : l.length ≤ cap) (hlcb : lb.length ≤ capb) (w : World) (aU aS : Addr) (hQ : GlobQ w aU aS) (hG : KGlob w) {m : Int} (hMx : w.cell? ⟨3, 0, none⟩ = some (.int .i64 m)) (hA : AtC w o l) (hI : ItsC w l) (hAb : AtC w ob lb) (hIb : ItsC w lb) (hL : ListJ w lo L lcap) :
    Calls Tryz.prog 8 #[.slice o l.length cap, .slice ob lb.length capb, .slice lo L.length lcap, .int .i64 a] w fun e w' => e = .returned (.bool true) ∧ Below w.heap.size w w' := by
  obtain ⟨P, hP⟩ : ∃ P, (fun (e : Ending) (w' : World) => e = .returned (.bool true) ∧ Below w.heap.size w w') = P := ⟨_, rfl⟩
  have HP := Lib.hid hP
  rw [hP]
  have HPP : Hid (∀ W, Below w.heap.size w W → P (.returned (.bool true)) W) := by rw [← HP.out]; exact Lib.hid fun W h => ⟨rfl, h⟩
  have HSH := Lib.hid (shownJ_any w aU aS hQ hG hMx)
  have HLI := Lib.hid (fun W => list_anyJ lo L.length lcap hL.le W)
  have hl30 : (L.take 30).length = min L.length 30 := by rw [List.length_take]; omega
  have HLL := Lib.hid (fun W (hb : Below w.heap.size w W) => (listJ_take hL 30).below hb)
  rw [← hl30] at HLI
  obtain ⟨Lk, hLk⟩ : ∃ q, L.take 30 = q := ⟨_, rfl⟩
  rw [hLk] at HLI HLL hl30
  have hlk : Lk.length ≤ 30 := by rw [hl30]; omega
  have hk : min ((l.length : Nat) : Int) 20 = (((l.take 20).length : Nat) : Int) := by rw [List.length_take]; omega
  have hkc : (l.take 20).length ≤ cap := by rw [List.length_take]; omega
  have hkn : (l.take 20).length ≤ l.length := by rw [List.length_take]; omega
  have HFW := Lib.hid (fun W (hb : Below w.heap.size w W) => Few_anyJ o (l.take 20) cap W (atC_take (hA.below hb) 20) (itsC_take (hI.below hb) 20))
  have HIF := Lib.hid (itsC_few (itsC_take hI 20))
  have HFF := Lib.hid (fewC_few (l.take 20))
  have hfl : (fewL (l.take 20)).length ≤ 20 := by unfold fewL; rw [List.length_map, List.length_take, List.length_take]; omega
  obtain ⟨F, hF⟩ : ∃ q, fewL (l.take 20) = q := ⟨_, rfl⟩
  rw [hF] at HFW HIF HFF hfl
  obtain ⟨nt, hnt⟩ : ∃ q, (l.take 20).length = q := ⟨_, rfl⟩
  rw [hnt] at HFW hk hkc hkn
  obtain ⟨nl, hnl⟩ : ∃ q, l.length = q := ⟨_, rfl⟩
  rw [hnl] at hk hkn ⊢
  have hkb : min ((lb.length : Nat) : Int) 20 = (((lb.take 20).length : Nat) : Int) := by rw [List.length_take]; omega
  have hkcb : (lb.take 20).length ≤ capb := by rw [List.length_take]; omega
  have hknb : (lb.take 20).length ≤ lb.length := by rw [List.length_take]; omega
  have HFWb := Lib.hid (fun W (hb : Below w.heap.size w W) => Few_anyJ ob (lb.take 20) capb W (atC_take (hAb.below hb) 20) (itsC_take (hIb.below hb) 20))
  have HIFb := Lib.hid (itsC_few (itsC_take hIb 20))
  have HFFb := Lib.hid (fewC_few (lb.take 20))
  have hflb : (fewL (lb.take 20)).length ≤ 20 := by unfold fewL; rw [List.length_map, List.length_take, List.length_take]; omega
  obtain ⟨Fb, hFb⟩ : ∃ q, fewL (lb.take 20) = q := ⟨_, rfl⟩
  rw [hFb] at HFWb HIFb HFFb hflb
  obtain ⟨ntb, hntb⟩ : ∃ q, (lb.take 20).length = q := ⟨_, rfl⟩
  rw [hntb] at HFWb hkb hkcb hknb
  obtain ⟨nlb, hnlb⟩ : ∃ q, lb.length = q := ⟨_, rfl⟩
  rw [hnlb] at hkb hknb ⊢
  obtain ⟨ll, hll⟩ : ∃ q, L.length = q := ⟨_, rfl⟩
  rw [hll] at HLI ⊢
  clear hP hQ hG hMx hA hI hAb hIb hL hl30 hLk hF hnt hnl hFb hntb hnlb hll HP hlc hlcb
  go_enter Tryz.func8, Tryz.ntmps8
  go_wp2_with fail
  refine HSH.out.mono ?_
  rintro e w1 ⟨rfl, b1⟩
  have HB1 := Lib.hid b1
  clear b1
  go_wp2_with fail
  refine (HFW.out w1 HB1.out).mono ?_
  rintro e w2 ⟨o2, c2, rfl, ho, b2⟩
  have HB2 := Lib.hid (HB1.out.trans (b2.mono HB1.out.size))
  have HAF0 := Lib.hid (atC_own ho rfl)
  obtain ⟨nf, hnf⟩ : ∃ q, F.length = q := ⟨_, rfl⟩
  have HNF := Lib.hid hnf
  rw [hnf] at hfl ⊢
  clear ho b2 hnf
  go_wp2_with fail
  refine (HFWb.out w2 HB2.out).mono ?_
  rintro e wq ⟨p2, d2, rfl, hob, bq⟩
  have HBq := Lib.hid (HB2.out.trans (bq.mono HB2.out.size))
  have HAF := Lib.hid (HAF0.out.below bq)
  have HAFb := Lib.hid (atC_own hob rfl)
  have HIW := Lib.hid (HIF.out.below HBq.out)
  have HIWb := Lib.hid (HIFb.out.below HBq.out)
  obtain ⟨o3, c3, w3, hr3, ho3, b3⟩ := ruls_own F o2 c2 HAF.out (World.ownsRow_nil wq wq.heap.size 37 5) (by rw [HNF.out]; omega) (Nat.le_refl _)
  rw [Nat.zero_add] at hr3 ho3
  rw [List.nil_append] at ho3
  obtain ⟨o4, c4, w4, hr4, ho4, b4⟩ := ruls_own Fb p2 d2 (HAFb.out.below b3) ho3 (by rw [HNF.out]; omega) b3.size
  rw [← rulsC_append] at ho4
  have B4 := b3.trans b4
  have HAL := Lib.hid (atC_own ho4 (by rw [List.length_append]))
  have HBW := Lib.hid (HBq.out.trans (B4.mono HBq.out.size))
  have HLJ := Lib.hid (HLL.out w4 HBW.out)
  have K1 := Lib.hid (DecideJ_any o2 lo F c2 lcap Lk a (by rw [HNF.out]; omega) (by omega) HFF.out w4 (HAF.out.below B4) (HIW.out.below B4) HLJ.out)
  have K2 := Lib.hid (fun W (hb : Below w4.heap.size w4 W) => DecideJ_any p2 lo Fb d2 lcap Lk a (by omega) (by omega) HFFb.out W ((HAFb.out.below B4).below hb) ((HIWb.out.below B4).below hb) (HLJ.out.below hb))
  have HIA := Lib.hid (itsC_append (HIW.out.below B4) (HIWb.out.below B4))
  have K3 := Lib.hid (fun W (hb : Below w4.heap.size w4 W) => DecideJ_any o4 lo (F ++ Fb) c4 lcap Lk a (by rw [List.length_append, HNF.out]; omega) (by omega) (fewC_append HFF.out HFFb.out) W (HAL.out.below hb) (HIA.out.below hb) (HLJ.out.below hb))
  have K4 := Lib.hid (fun W (hb : Below w4.heap.size w4 W) => RightJ_any o4 (F ++ Fb) c4 32 (by rw [List.length_append, HNF.out]; omega) (fewC_append HFF.out HFFb.out) W (HAL.out.below hb) (HIA.out.below hb))
  have HDW := Lib.hid (fun h => decide_wrong (l := F.map plX ++ Fb.map plX) (L := Lk) (a := a) h)
  have HDM := Lib.hid (fun h1 h2 => decide_more (A := F.map plX) (B := Fb.map plX) (L := Lk) (a := a) h1 h2)
  have HPI := Lib.hid (place_iff Lk a)
  rw [List.map_append, List.length_append] at K3 K4
  rw [List.length_map, HNF.out] at HDM
  rw [HNF.out] at K1 K3 K4 hr3 hr4
  obtain ⟨⟨x1, i1⟩, hx⟩ : ∃ q, decideU (F.map plX) Lk a = q := ⟨_, rfl⟩
  obtain ⟨⟨y1, j1⟩, hy⟩ : ∃ q, decideU (Fb.map plX) Lk a = q := ⟨_, rfl⟩
  obtain ⟨⟨z1, k1⟩, hz⟩ : ∃ q, decideU (F.map plX ++ Fb.map plX) Lk a = q := ⟨_, rfl⟩
  obtain ⟨r, hr⟩ : ∃ q, rightsU (F.map plX ++ Fb.map plX) 32 = q := ⟨_, rfl⟩
  obtain ⟨pl, hpl⟩ : ∃ q, placeU Lk a = q := ⟨_, rfl⟩
  have HJ1 : Hid (j1 ≤ 100) := Lib.hid (by
    have h := decide_small (Fb.map plX) Lk a
    rw [hy, List.length_map] at h
    simp only at h
    omega)
  rw [hx] at K1
  rw [hy] at K2
  rw [hz] at K3
  rw [hr] at K4
  rw [hx, hy, hz, hr, hpl] at HDM
  rw [hz, hr, hpl] at HDW
  rw [hpl] at HPI
  simp only at K1 K2 K3 HDM
  obtain ⟨ng, hng⟩ : ∃ q, Fb.length = q := ⟨_, rfl⟩
  rw [hng] at hflb hr4 K2 K3 K4 ⊢
  obtain ⟨nk, hnk⟩ : ∃ q, Lk.length = q := ⟨_, rfl⟩
  rw [hnk] at hlk K1 K2 K3 HLI HPI
  have HLI2 := Lib.hid (HLI.out wq)
  clear hob bq ho3 ho4 b3 b4 B4 hx hy hz hr hpl hnk hng HLI HLL HFW HFWb HSH HAF0 HAF HAFb HIW HIWb HIA HAL HLJ HIF HIFb HFF HFFb HNF
  go_wp2_with fail
  refine HLI2.out.mono ?_
  rintro e _ ⟨rfl, rfl⟩
  go_wp2_with fail
  refine K1.out.mono ?_
  rintro e w5 ⟨rfl, b5⟩
  have HB5 := Lib.hid b5
  have K2' := Lib.hid (K2.out w5 b5)
  clear b5 K1 K2
  go_wp2_with fail
  refine K2'.out.mono ?_
  rintro e w6 ⟨rfl, b6⟩
  have HB6 := Lib.hid (HB5.out.trans (b6.mono HB5.out.size))
  have K3' := Lib.hid (K3.out w6 HB6.out)
  clear b6 K2' K3
  go_wp2_with fail
  refine K3'.out.mono ?_
  rintro e w7 ⟨rfl, b7⟩
  have HB7 := Lib.hid (HB6.out.trans (b7.mono HB6.out.size))
  have K4' := Lib.hid (K4.out w7 HB7.out)
  clear b7 K3' K4
  go_wp2_with fail
  refine K4'.out.mono ?_
  rintro e w8 ⟨rfl, b8⟩
  have HQ := Lib.hid (HPP.out w8 (HBW.out.trans ((HB7.out.trans (b8.mono HB7.out.size)).mono HBW.out.size)))
  clear b8 K4'
  cases r with
  | false =>
    obtain ⟨rfl, rfl⟩ : z1 = false ∧ k1 = -1 := by simpa using HDW.out (.inl rfl)
    clear HDM HDW HPI
    go_wp2_with fail
    exact HQ.out
  | true =>
    by_cases h3 : a ≤ 0
    · obtain ⟨rfl, rfl⟩ : z1 = false ∧ k1 = -1 := by simpa using HDW.out (.inr (by cases pl with | false => rfl | true => exact absurd (HPI.out.1 rfl).1 (by omega)))
      have e3 : decide (a ≤ 0) = true := decide_eq_true h3
      clear HDM HDW HPI
      go_wp2_with fail
      exact HQ.out
    · have e3 : decide (a ≤ 0) = false := decide_eq_false h3
      by_cases h4 : ((nk : Nat) : Int) ≤ a
      · obtain ⟨rfl, rfl⟩ : z1 = false ∧ k1 = -1 := by simpa using HDW.out (.inr (by cases pl with | false => rfl | true => exact absurd (HPI.out.1 rfl).2 (by omega)))
        have e4 : decide (((nk : Nat) : Int) ≤ a) = true := decide_eq_true h4
        clear HDM HDW HPI
        go_wp2_with fail
        exact HQ.out
      · have e4 : decide (((nk : Nat) : Int) ≤ a) = false := decide_eq_false h4
        obtain ⟨m1, m2⟩ := HDM.out rfl (HPI.out.2 ⟨by omega, by omega⟩)
        clear HDM HDW HPI
        by_cases h5 : 0 ≤ i1
        · obtain ⟨rfl, rfl⟩ : z1 = x1 ∧ k1 = i1 := by simpa using m1 h5
          have e5 : decide (0 ≤ k1) = true := decide_eq_true h5
          clear m1 m2
          cases z1 <;> (go_wp2_with fail; exact HQ.out)
        · have e5 : decide (0 ≤ i1) = false := decide_eq_false h5
          obtain ⟨rfl, m3⟩ := m2 (by omega)
          clear m1 m2
          rcases m3 with ⟨h6, rfl⟩ | ⟨h6, rfl⟩
          · have e6 : decide (j1 < 0) = true := decide_eq_true h6
            cases z1 <;> (go_wp2_with fail; exact HQ.out)
          · have e6 : decide (j1 < 0) = false := decide_eq_false (by omega)
            have e7 : decide (0 ≤ j1) = true := decide_eq_true h6
            have e8 : IntKind.i64.wrap (j1 + ((nf : Nat) : Int)) = j1 + ((nf : Nat) : Int) := wrap_id (by omega) (by have := HJ1.out; omega)
            have e9 : IntKind.i64.wrap (((nf : Nat) : Int) + j1) = ((nf : Nat) : Int) + j1 := wrap_id (by omega) (by have := HJ1.out; omega)
            cases z1 <;> (go_wp2_with fail; exact HQ.out)
/-- The same, as its card wants it. -/
theorem ruleMore_card (l : List RulX) (o : Option Addr) (cap : Nat) (lb : List RulX) (ob : Option Addr) (capb : Nat) (L : List Int) (lo : Option Addr) (lcap : Nat) (a : Int) (h0 : l.length ≤ cap) (hb : lb.length ≤ capb) (h1 : L.length ≤ lcap) (w : World) (aU aS : Addr) (hQ : GlobQ w aU aS) (hG : KGlob w) (hS : w.ShapedOpen Tryz.prog) (A0 : AtC w o l ∧ ItsC w l) (AB : AtC w ob lb ∧ ItsC w lb) (A1 : NumsInQ w lo L ∧ (lo = none → lcap = 0) ∧ ∀ p, lo = some p → 0 < lcap → p.spot = none) :
    Calls Tryz.prog 8 #[.slice o l.length cap, .slice ob lb.length capb, .slice lo L.length lcap, .int .i64 a] w fun e w' => e = .returned (.bool true) ∧ Below w.heap.size w w' := by
  obtain ⟨m, hMx⟩ := mx_shapedJ hS
  exact ruleMore_anyL o ob lo l lb cap capb lcap L a h0 hb w aU aS hQ hG hMx A0.1 A0.2 AB.1 AB.2 ⟨A1.1.1, h1, A1.2.1, A1.2.2⟩
end Go.Proofs.YtnmhdcbpbaanoaaGreatDoor
