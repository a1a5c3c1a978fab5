/- RuleTwice: rules, and the same rules once more behind them. -/
import Derived.Test.YtnmhdcbpbaanoaaGreatDoorBunA25
namespace Go.Proofs.YtnmhdcbpbaanoaaGreatDoor
open Go.RowKit Go.Shelf Go.Maps
attribute [local go_sem] Oper.semAt_some
attribute [local go_sem ↓] app_hide

set_option maxRecDepth 100000 in
set_option maxHeartbeats 4000000 in
theorem ruleTwice_anyL (o lo : Option Addr) (l : List RulX) (cap lcap : Nat) (L : List Int) (hlc : l.length ≤ cap) (w : World) (aU aS : Addr) (hQ : GlobQ w aU aS) (hG : KGlob w) {m : Int} (hMx : w.cell? ⟨3, 0, none⟩ = some (.int .i64 m)) (hA : AtC w o l) (hI : ItsC w l) (hL : ListJ w lo L lcap) :
    Calls Tryz.prog 10 #[.slice o l.length cap, .slice lo L.length lcap] w fun e w' => e = .returned (.bool true) ∧ Below w.heap.size w w' := by
  obtain ⟨P, hP⟩ : ∃ P, (fun (e : Ending) (w' : World) => e = .returned (.bool true) ∧ Below w.heap.size w w') = P := ⟨_, rfl⟩
  have HP := Lib.hid hP
  rw [hP]
  have HPP : Hid (∀ W, Below w.heap.size w W → P (.returned (.bool true)) W) := by rw [← HP.out]; exact Lib.hid fun W h => ⟨rfl, h⟩
  have HSH := Lib.hid (shownJ_any w aU aS hQ hG hMx)
  have HLI := Lib.hid (fun W => list_anyJ lo L.length lcap hL.le W)
  have hl30 : (L.take 30).length = min L.length 30 := by rw [List.length_take]; omega
  have HLL := Lib.hid (fun W (hb : Below w.heap.size w W) => (listJ_take hL 30).below hb)
  rw [← hl30] at HLI
  obtain ⟨Lk, hLk⟩ : ∃ q, L.take 30 = q := ⟨_, rfl⟩
  rw [hLk] at HLI HLL hl30
  have hlk : Lk.length ≤ 30 := by rw [hl30]; omega
  have hk : min ((l.length : Nat) : Int) 20 = (((l.take 20).length : Nat) : Int) := by rw [List.length_take]; omega
  have hkc : (l.take 20).length ≤ cap := by rw [List.length_take]; omega
  have hkn : (l.take 20).length ≤ l.length := by rw [List.length_take]; omega
  have HFW := Lib.hid (fun W (hb : Below w.heap.size w W) => Few_anyJ o (l.take 20) cap W (atC_take (hA.below hb) 20) (itsC_take (hI.below hb) 20))
  have HIF := Lib.hid (itsC_few (itsC_take hI 20))
  have HFF := Lib.hid (fewC_few (l.take 20))
  have hfl : (fewL (l.take 20)).length ≤ 20 := by unfold fewL; rw [List.length_map, List.length_take, List.length_take]; omega
  obtain ⟨F, hF⟩ : ∃ q, fewL (l.take 20) = q := ⟨_, rfl⟩
  rw [hF] at HFW HIF HFF hfl
  obtain ⟨nt, hnt⟩ : ∃ q, (l.take 20).length = q := ⟨_, rfl⟩
  rw [hnt] at HFW hk hkc hkn
  obtain ⟨nl, hnl⟩ : ∃ q, l.length = q := ⟨_, rfl⟩
  rw [hnl] at hk hkn ⊢
  have HGW := Lib.hid (fun W (hb : Below w.heap.size w W) => hG.below hb)
  obtain ⟨ll, hll⟩ : ∃ q, L.length = q := ⟨_, rfl⟩
  rw [hll] at HLI ⊢
  clear hP hQ hG hMx hA hI hL hl30 hLk hF hnt hnl hll HP hlc
  go_enter Tryz.func10, Tryz.ntmps10
  go_wp2_with fail
  refine HSH.out.mono ?_
  rintro e w1 ⟨rfl, b1⟩
  have HB1 := Lib.hid b1
  clear b1
  go_wp2_with fail
  refine (HFW.out w1 HB1.out).mono ?_
  rintro e w2 ⟨o2, c2, rfl, ho, b2⟩
  have HB2 := Lib.hid (HB1.out.trans (b2.mono HB1.out.size))
  have HAF := Lib.hid (atC_own ho rfl)
  have HIW := Lib.hid (HIF.out.below HB2.out)
  obtain ⟨o3, c3, w3, hr3, ho3, b3⟩ := ruls_own F o2 c2 HAF.out (World.ownsRow_nil w2 w2.heap.size 37 5) (by omega) (Nat.le_refl _)
  rw [Nat.zero_add] at hr3 ho3
  rw [List.nil_append] at ho3
  obtain ⟨o4, c4, w4, hr4, ho4, b4⟩ := ruls_own F o2 c2 (HAF.out.below b3) ho3 (by omega) b3.size
  rw [← rulsC_append] at ho4
  have B4 := b3.trans b4
  have HAL := Lib.hid (atC_own ho4 (by rw [List.length_append]))
  have HBW := Lib.hid (HB2.out.trans (B4.mono HB2.out.size))
  have HAF4 := Lib.hid (HAF.out.below B4)
  have HI4 := Lib.hid (HIW.out.below B4)
  have HLJ := Lib.hid (HLL.out w4 HBW.out)
  have K1 := Lib.hid (CutsJ_any o2 lo F c2 lcap Lk (by omega) (by omega) HFF.out w4 (HGW.out w4 HBW.out) HAF4.out HI4.out HLJ.out)
  have K2 := Lib.hid (fun W (hb : Below w4.heap.size w4 W) => CutsJ_any o4 lo (F ++ F) c4 lcap Lk (by rw [List.length_append]; omega) (by omega) (fewC_append HFF.out HFF.out) W ((HGW.out w4 HBW.out).below hb) (HAL.out.below hb) (itsC_append (HI4.out.below hb) (HI4.out.below hb)) (HLJ.out.below hb))
  have hct := cuts_twice (l := F.map plX) Lk (by rw [List.length_map]; exact hfl)
  rw [List.map_append, hct.1, hct.2, List.length_append] at K2
  have hcl : (cutsV (F.map plX) Lk).length ≤ 32 := by
    unfold cutsV
    split
    · rw [← cutsW_eq, List.length_map]
      have := cutsW_len (F.map plX) Lk
      omega
    · simp
  have hce : (cutsE (F.map plX) = 0) ∨ (cutsE (F.map plX) = 90 ∧ (cutsV (F.map plX) Lk).length = 0) := by
    unfold cutsE cutsV
    split
    · exact .inl rfl
    · exact .inr ⟨rfl, rfl⟩
  unfold CutsQ at K1 K2
  obtain ⟨C, hC⟩ : ∃ q, cutsV (F.map plX) Lk = q := ⟨_, rfl⟩
  obtain ⟨ce, hCE⟩ : ∃ q, cutsE (F.map plX) = q := ⟨_, rfl⟩
  rw [hC] at K1 K2 hcl hce
  rw [hCE] at K1 K2 hce
  have K5 := Lib.hid (fun oa ob ca cb W (h1 : NumsAt W oa C) (h2 : NumsAt W ob C) => ints_sameK oa ob C ca cb (by omega) W h1 h2)
  obtain ⟨nf, hnf⟩ : ∃ q, F.length = q := ⟨_, rfl⟩
  rw [hnf] at hfl hr3 hr4 K1 K2 ⊢
  obtain ⟨nk, hnk⟩ : ∃ q, Lk.length = q := ⟨_, rfl⟩
  rw [hnk] at hlk K1 K2
  rw [hnk] at HLI
  have HLI2 := Lib.hid (HLI.out w2)
  obtain ⟨nc, hnc⟩ : ∃ q, C.length = q := ⟨_, rfl⟩
  rw [hnc] at K1 K2 K5 hce hcl
  clear ho b2 ho3 ho4 b3 b4 B4 hct hC hCE hnf hnk hnc HLI HLL HFW HSH HAF HIW HAL HAF4 HI4 HLJ HIF HFF HGW
  go_wp2_with fail
  refine HLI2.out.mono ?_
  rintro e _ ⟨rfl, rfl⟩
  go_wp2_with fail
  refine K1.out.mono ?_
  rintro e w5 ⟨oa, ca, rfl, na, _, b5⟩
  have HB5 := Lib.hid b5
  have HNA := Lib.hid na
  have K2' := Lib.hid (K2.out w5 b5)
  clear b5 na K1 K2
  go_wp2_with fail
  refine K2'.out.mono ?_
  rintro e w6 ⟨ob, cb, rfl, nb, _, b6⟩
  have HB6 := Lib.hid (HB5.out.trans (b6.mono HB5.out.size))
  have K5' := Lib.hid (K5.out oa ob ca cb w6 (HNA.out.below b6) nb)
  clear b6 nb K2' K5
  go_wp2_with fail
  refine K5'.out.mono ?_
  rintro e w7 ⟨rfl, b7⟩
  have HQ := Lib.hid (HPP.out w7 (HBW.out.trans ((HB6.out.trans (b7.mono HB6.out.size)).mono HBW.out.size)))
  clear b7 K5'
  rcases hce with rfl | ⟨rfl, rfl⟩
  · go_wp2_with fail
    exact HQ.out
  · go_wp2_with fail
    exact HQ.out
/-- The same, as its card wants it. -/
theorem ruleTwice_card (l : List RulX) (o : Option Addr) (cap : Nat) (L : List Int) (lo : Option Addr) (lcap : Nat) (h0 : l.length ≤ cap) (h1 : L.length ≤ lcap) (w : World) (aU aS : Addr) (hQ : GlobQ w aU aS) (hG : KGlob w) (hS : w.ShapedOpen Tryz.prog) (A0 : AtC w o l ∧ ItsC w l) (A1 : NumsInQ w lo L ∧ (lo = none → lcap = 0) ∧ ∀ p, lo = some p → 0 < lcap → p.spot = none) :
    Calls Tryz.prog 10 #[.slice o l.length cap, .slice lo L.length lcap] w fun e w' => e = .returned (.bool true) ∧ Below w.heap.size w w' := by
  obtain ⟨m, hMx⟩ := mx_shapedJ hS
  exact ruleTwice_anyL o lo l cap lcap L h0 w aU aS hQ hG hMx A0.1 A0.2 ⟨A1.1.1, h1, A1.2.1, A1.2.2⟩
end Go.Proofs.YtnmhdcbpbaanoaaGreatDoor
