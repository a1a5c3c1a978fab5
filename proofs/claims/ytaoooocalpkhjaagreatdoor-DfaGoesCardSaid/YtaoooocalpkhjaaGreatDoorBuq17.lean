/- Shaken by bunq.py. -/
import Derived.Test.YtaoooocalpkhjaaGreatDoorBuq14
import Derived.Test.YtaoooocalpkhjaaGreatDoorBuq16
import Derived.Deep.RegionHeld3
import Derived.Test.YtaoooocalpkhjaaGreatDoorBuq8
import Derived.Test.YtaoooocalpkhjaaGreatDoorBuq5
import Derived.Test.YtaoooocalpkhjaaGreatDoorCards
import Derived.Test.YtaoooocalpkhjaaGreatDoorTie
import Derived.Test.YtaoooocalpkhjaaGreatDoorChecked
import Derived.ProofKit
import Derived.OpenShut
import Derived.Below
import Derived.ChangeSame
import Derived.ChangeMaps5
import Derived.Carry
import Derived.Deep.DeepHandedRow
import Derived.Deep.DeepWitnessRowRef
import Derived.LaidSub
import Derived.LaidHandle
import Derived.Lay
import Derived.MakeChecks
import Derived.Shelf.Vars
import Derived.LaidMore
import Derived.Stop.LaidTwo
namespace Go.Proofs.YtaoooocalpkhjaaGreatDoor
open Go.RowKit Go.Shelf Go.Maps
attribute [local go_sem] Oper.semAt_some

theorem mach_kept {W W' : World} {g : Nat} {u v : Option Addr × Nat × Nat} {m : MachX} (h : MachD W m) (hrow : W.heap[g]? = some (.cells #[.slice u.1 u.2.1 u.2.2, .slice v.1 v.2.1 v.2.2] 28 (0, 0))) (hno : ∀ k, inQ m.no k → k ≠ g) (hm : Moves (fun k => k = g) W W') : MachD W' m := by
  have key : ∀ (o : Option Addr) (l : List Int), NumsAt W o l → 0 < l.length → ∀ k, inQ o k → k ≠ g := fun o l hl h0 k hk e => by
    obtain ⟨g', off, ho, hc⟩ := hl h0
    obtain ⟨a, ha, rfl⟩ := hk
    rw [ho] at ha
    obtain rfl := Option.some.inj ha
    have e : g' = g := e
    subst e
    have h1 := hc 0 _ (List.getElem?_eq_getElem h0)
    rw [cell_of_row _ _ _ _ _ _ hrow] at h1
    match off, h1 with
    | 0, h1 => simp at h1
    | 1, h1 => simp at h1
    | n + 2, h1 => simp at h1
  exact ⟨h.rows.moves hm fun h0 k hk => hno k hk, fun x hx => (h.row x hx).moves hm fun h0 k hk => key _ _ (h.row x hx) h0 k hk, h.fits.moves hm fun h0 k hk => key _ _ h.fits h0 k hk⟩
theorem keep4D {w9 W W' : World} {a0 a1 a2 a3 : Addr} {v0 v1 v2 v3 : Value} (hb : Below W.heap.size W W') (h0 : W.cell? a0 = some v0) (h1 : W.cell? a1 = some v1) (h2 : W.cell? a2 = some v2) (h3 : W.cell? a3 = some v3) (h6 : Below w9.heap.size w9 W) :
    W'.cell? a0 = some v0 ∧ W'.cell? a1 = some v1 ∧ W'.cell? a2 = some v2 ∧ W'.cell? a3 = some v3 ∧ Below w9.heap.size w9 W' :=
  ⟨cell_keepQ hb h0, cell_keepQ hb h1, cell_keepQ hb h2, cell_keepQ hb h3, h6.trans (hb.mono h6.size)⟩
theorem tab_small (m : MachX) (o : Option Addr) (c : Nat) : MachS (tabX m o c) := by
  refine ⟨?_, ?_, fun x hx => ?_⟩
  · show ((m.rows.take 302).map cutX).length ≤ _
    rw [List.length_map, List.length_take]; omega
  · show (m.fits.take 302).length ≤ _
    rw [List.length_take]; omega
  · have hx2 : x ∈ (m.rows.take 302).map cutX := hx
    obtain ⟨y, hy, rfl⟩ := List.mem_map.1 hx2
    show (y.2.1.take 34).length ≤ _
    rw [List.length_take]; omega
set_option maxRecDepth 100000 in
set_option maxHeartbeats 16000000 in
theorem dfaGoes_anyL (m0 o0 : MachX) (hrm : RoomM m0) (hro : RoomM o0) (n : Int) (lo : Option Addr) (L0 : List Int) (lcap : Nat) (hlc : L0.length ≤ lcap) (w : World) (aR aM aP aS : Addr) (hG : GlobD w aR aM) (hQ : GlobH w aP aS) (hM : MachD w m0) (hO : MachD w o0) (hL : NumsAt w lo L0) :
    Calls Tryz.prog 4 #[m0.v, o0.v, .int .i64 n, .slice lo L0.length lcap] w fun e w' => e = .returned (.bool true) ∧ Below w.heap.size w w' := by
  obtain ⟨P, hP⟩ : ∃ P, (fun (e : Ending) (w' : World) => e = .returned (.bool true) ∧ Below w.heap.size w w') = P := ⟨_, rfl⟩
  have HPP : Hid (∀ W, Below w.heap.size w W → P (.returned (.bool true)) W) := by rw [← hP]; exact Lib.hid fun W h => ⟨rfl, h⟩
  rw [hP]
  obtain ⟨w0, hw0⟩ : ∃ w0, w.alloc (.cells #[.slice m0.no m0.rows.length m0.nc, .slice m0.fo m0.fits.length m0.fc] 28) = w0 := ⟨_, rfl⟩
  have b0 : Below w.heap.size w w0 := by rw [← hw0]; exact (Below.refl _ _).alloc (Nat.le_refl _) _
  have r0 : w0.heap[w.heap.size]? = some (mchO m0.no m0.rows.length m0.nc m0.fo m0.fits.length m0.fc) := by rw [← hw0]; exact heap_alloc_new _ _
  have z0 : w0.heap.size = w.heap.size + 1 := by rw [← hw0]; simp
  obtain ⟨w1, hw1⟩ : ∃ w1, w0.alloc (.cells #[.slice o0.no o0.rows.length o0.nc, .slice o0.fo o0.fits.length o0.fc] 28) = w1 := ⟨_, rfl⟩
  have b1' : Below w0.heap.size w0 w1 := by rw [← hw1]; exact (Below.refl _ _).alloc (Nat.le_refl _) _
  have r1 : w1.heap[w.heap.size + 1]? = some (mchO o0.no o0.rows.length o0.nc o0.fo o0.fits.length o0.fc) := by rw [← hw1, ← z0]; exact heap_alloc_new _ _
  have z1 : w1.heap.size = w.heap.size + 2 := by rw [← hw1]; simp; omega
  have b1 := b0.trans (b1'.mono b0.size)
  have r01 := row_below r0 b1'
  have HSH := Lib.hid (shown12_any w1 aR aM aP aS (hG.below b1) (hQ.below b1))
  have HW1 : Hid ((w.alloc (.cells #[.slice m0.no m0.rows.length m0.nc, .slice m0.fo m0.fits.length m0.fc] 28)).alloc (.cells #[.slice o0.no o0.rows.length o0.nc, .slice o0.fo o0.fits.length o0.fc] 28) = w1) := Lib.hid (by rw [hw0, hw1])
  have HTM := Lib.hid (fun W (hb : Below w.heap.size w W) => table12_any m0 hrm.1 hrm.2 W (hM.below hb))
  have HTO := Lib.hid (fun W (hb : Below w.heap.size w W) => table12_any o0 hro.1 hro.2 W (hO.below hb))
  have HLI := Lib.hid (fun W => list12_any lo L0.length lcap hlc W)
  have HLN := Lib.hid (fun W (hb : Below w.heap.size w W) => (hL.below hb).takeD 30)
  have hl30 : (L0.take 30).length = min L0.length 30 := by rw [List.length_take, Nat.min_comm]
  have HGD := Lib.hid hG
  obtain ⟨L, hLL⟩ : ∃ L, L0.take 30 = L := ⟨_, rfl⟩
  rw [hLL] at HLN hl30
  obtain ⟨l0, hl0⟩ : ∃ q, L0.length = q := ⟨_, rfl⟩
  rw [hl0] at HLI hl30 ⊢
  rw [← hl30] at HLI
  have hL30 : L.length ≤ 30 := by omega
  have HB1 := Lib.hid b1
  have HZ1 := Lib.hid z1
  have HTS := Lib.hid (fun o c => tab_small m0 o c)
  have HOS := Lib.hid (fun o c => tab_small o0 o c)
  have HR0 := Lib.hid r01
  have HR1 := Lib.hid r1
  clear hP hw0 hw1 b0 b1 b1' r0 r01 r1 z0 z1 hG hQ hM hO hL hrm hro hlc hLL hl0 hl30
  go_enter Tryz.func4, Tryz.ntmps4
  go_wp2_with fail
  rw [HW1.out]
  refine HSH.out.mono ?_
  rintro e w2 ⟨rfl, b2⟩
  have z2 : w.heap.size + 2 ≤ w2.heap.size := by have := b2.size; have := HZ1.out; omega
  have hr0 := row_below HR0.out b2
  have hr1 := row_below HR1.out b2
  have hb2 := HB1.out.trans (b2.mono HB1.out.size)
  obtain ⟨c0, c1, _, _, l2⟩ := mac5 hr0
  have HTM2 := Lib.hid (HTM.out w2 hb2)
  have HRA := Lib.hid hr0
  have HRB := Lib.hid hr1
  have HB2 := Lib.hid hb2
  clear b2 hr0 hr1 hb2 HSH HW1 HR0 HR1 HB1 HTM
  obtain ⟨q0, hq0⟩ : ∃ q, m0.rows.length = q := ⟨_, rfl⟩
  obtain ⟨f0, hf0⟩ : ∃ q, m0.fits.length = q := ⟨_, rfl⟩
  simp only [MachX.v, hq0, hf0] at HTM2 c0 c1 HRA
  simp only [MachX.v, hq0, hf0]
  go_wp2_with fail
  refine HTM2.out.mono ?_
  rintro e w3 ⟨o1, k1, he, hM3, hno3, b3⟩
  have hts := HTS.out o1 k1
  obtain ⟨m, hm⟩ : ∃ m, tabX m0 o1 k1 = m := ⟨_, rfl⟩
  have hmo : o1 = m.no := by rw [← hm]
  have he : e = .returned m.v := by rw [← hm]; exact he
  rw [hm] at hM3 hts
  rw [hmo] at hno3
  subst he
  have hr03 := row_below HRA.out b3
  have hr13 := row_below HRB.out b3
  have hb3 := HB2.out.trans (b3.mono HB2.out.size)
  obtain ⟨c0, c1, g0, g1, l3⟩ := mac5 hr03
  obtain ⟨q, hq⟩ : ∃ q, m.rows.length = q := ⟨_, rfl⟩
  obtain ⟨f, hf⟩ : ∃ q, m.fits.length = q := ⟨_, rfl⟩
  have HQ := Lib.hid hq
  have HF := Lib.hid hf
  obtain ⟨hr4, m4⟩ := two_setD (.slice m.no q m.nc) (.slice m.fo f m.fc) hr03
  obtain ⟨W4, hW4⟩ : ∃ W4, (w3.setCell ⟨w.heap.size, 0, none⟩ (.slice m.no q m.nc)).setCell ⟨w.heap.size, 1, none⟩ (.slice m.fo f m.fc) = W4 := ⟨_, rfl⟩
  rw [hW4] at hr4 m4
  have hM4 := mach_kept (u := (_, _, _)) (v := (_, _, _)) hM3 hr03 (fun k hk => by have := hno3 k hk; omega) m4
  have hr14 := row_keep hr13 m4 (by omega)
  have hb4 := Moves.below hb3 hb3.size m4 (fun k hk => by omega)
  have HW4 := Lib.hid hW4
  have HM4 := Lib.hid hM4
  have HNO3 := Lib.hid hno3
  have HRA4 := Lib.hid hr4
  have HRB4 := Lib.hid hr14
  have HB4 := Lib.hid hb4
  have HTO4 := Lib.hid (HTO.out W4 hb4)
  have HTS2 := Lib.hid hts
  have hz34 := m4.size
  have hz4 : w.heap.size + 2 ≤ W4.heap.size := by have := b3.size; omega
  obtain ⟨d0, d1, _, _, l4⟩ := mac5 hr14
  obtain ⟨e0, e1, _, _, l3o⟩ := mac5 hr13
  rw [← hW4] at d0 d1 l4
  clear b3 hr03 hr13 hb3 hM3 hM4 hr4 m4 hW4 hno3 hmo hm hr14 hb4 HTM2 HTO HTS HRA HRB HB2 hts hz34
  obtain ⟨q1, hq1⟩ : ∃ q, o0.rows.length = q := ⟨_, rfl⟩
  obtain ⟨f1, hf1⟩ : ∃ q, o0.fits.length = q := ⟨_, rfl⟩
  simp only [MachX.v, hq1, hf1] at HTO4 d0 d1 e0 e1 HRB4
  simp only [MachX.v, hq, hf, hq1, hf1]
  clear hq hf
  go_wp2_with fail
  rw [HW4.out]
  clear d0 d1 e0 e1 l4 l3o c0 c1 g0 g1 l3
  refine HTO4.out.mono ?_
  rintro e w5 ⟨o2, k2, he, hO5, hno5, b5⟩
  have hts := HOS.out o2 k2
  obtain ⟨o, hm⟩ : ∃ m, tabX o0 o2 k2 = m := ⟨_, rfl⟩
  have hmo : o2 = o.no := by rw [← hm]
  have he : e = .returned o.v := by rw [← hm]; exact he
  rw [hm] at hO5 hts
  rw [hmo] at hno5
  subst he
  have hr05 := row_below HRA4.out b5
  have hr15 := row_below HRB4.out b5
  have hb5 := HB4.out.trans (b5.mono HB4.out.size)
  obtain ⟨d0, d1, g0, g1, l5⟩ := mac5 hr15
  obtain ⟨q2, hq2⟩ : ∃ q, o.rows.length = q := ⟨_, rfl⟩
  obtain ⟨f2, hf2⟩ : ∃ q, o.fits.length = q := ⟨_, rfl⟩
  obtain ⟨hr6, m6⟩ := two_setD (.slice o.no q2 o.nc) (.slice o.fo f2 o.fc) hr15
  obtain ⟨W6, hW6⟩ : ∃ W6, (w5.setCell ⟨w.heap.size + 1, 0, none⟩ (.slice o.no q2 o.nc)).setCell ⟨w.heap.size + 1, 1, none⟩ (.slice o.fo f2 o.fc) = W6 := ⟨_, rfl⟩
  rw [hW6] at hr6 m6
  have hM6 := mach_kept (u := (_, _, _)) (v := (_, _, _)) (HM4.out.below b5) hr15 (fun k hk => by have := HNO3.out k hk; omega) m6
  have hO6 := mach_kept (u := (_, _, _)) (v := (_, _, _)) hO5 hr15 (fun k hk => by have := hno5 k hk; omega) m6
  have hr06 := row_keep hr05 m6 (by omega)
  have hb6 := Moves.below hb5 hb5.size m6 (fun k hk => by omega)
  have HK : Hid (∀ W, Below W6.heap.size W6 W → W.heap[w.heap.size]? = some (mchO m.no q m.nc m.fo f m.fc) ∧ W.heap[w.heap.size + 1]? = some (mchO o.no q2 o.nc o.fo f2 o.fc) ∧ MachD W m ∧ MachD W o ∧ NumsAt W lo L ∧ Below w.heap.size w W) := Lib.hid fun W hb =>
    ⟨row_below hr06 hb, row_below hr6 hb, hM6.below hb, hO6.below hb, HLN.out W (hb6.trans (hb.mono hb6.size)), hb6.trans (hb.mono hb6.size)⟩
  have hsm := HTS2.out
  have HGo := Lib.hid (fun W (hM : MachD W m) (hN : NumsAt W lo L) (hG : GlobD W aR aM) => Go_ans m n lo L lcap (by omega) hsm.1 hsm.2.1 W aR aM hG hM hN)
  have HrGo := Lib.hid (fun W (hM : MachD W m) (hN : NumsAt W lo L) => refGo_ans m n lo L lcap (by omega) hsm.1 hsm.2.1 W hM hN)
  have HFi := Lib.hid (fun W (hM : MachD W m) (hN : NumsAt W lo L) (hG : GlobD W aR aM) => Fits_ans m n lo L lcap (by omega) hsm.1 hsm.2.1 W aR aM hG hM hN)
  have HrFi := Lib.hid (fun W (hM : MachD W m) (hN : NumsAt W lo L) => refFits_ans m n lo L lcap (by omega) hsm.1 hsm.2.1 W hM hN)
  have HRe := Lib.hid (fun W (hM : MachD W m) (hG : GlobD W aR aM) => Reached_ans m n hsm.1 hsm.2.1 W aR aM hG hM)
  have HrRe := Lib.hid (fun W (hM : MachD W m) => refReached_ans m n hsm.1 hsm.2.1 W hM)
  have HRi := Lib.hid (fun W (hM : MachD W m) => RightD_any m n W hM (by have := hsm.1; omega) (by have := hsm.2.1; omega))
  have HrRi := Lib.hid (fun W (hM : MachD W m) => refRight12_any m n hsm.1 hsm.2.1 W hM)
  have HSmo := Lib.hid (fun W (hM : MachD W m) (hO : MachD W o) => SameD_ans m o hsm W hM hO)
  have HrS := Lib.hid (fun W (hM : MachD W m) (hO : MachD W o) => refSameD_any m o hsm W hM hO)
  have HSmm := Lib.hid (fun W (hM : MachD W m) => SameD_ans m m hsm W hM hM)
  rw [decide_eq_true (⟨rfl, rfl⟩ : m.R = m.R ∧ m.fits = m.fits)] at HSmm
  obtain ⟨La, hLa⟩ : ∃ x, goM m n L = x := ⟨_, rfl⟩
  obtain ⟨Lc, hLc⟩ : ∃ x, fitM m n L = x := ⟨_, rfl⟩
  obtain ⟨Li, hLi⟩ : ∃ x, rchM m n = x := ⟨_, rfl⟩
  obtain ⟨b, hb⟩ : ∃ x, m.B n = x := ⟨_, rfl⟩
  obtain ⟨d, hd⟩ : ∃ x, decide (m.R = o.R ∧ m.fits = o.fits) = x := ⟨_, rfl⟩
  have hLaz : La.length ≤ 1000 := by
    rw [← hLa]; unfold goM; split
    · rw [List.length_map, allD_len]; omega
    · simp
  have hLcz : Lc.length ≤ 1000 := by
    rw [← hLc]; unfold fitM; split
    · rw [List.length_map, allD_len]; omega
    · simp
  have hLiz : Li.length ≤ 1000000 := by
    rw [← hLi]; unfold rchM; split
    · rw [List.length_map]
      have h1 : (reachL (m.rows.map (·.2.1)) n.toNat).length ≤ (List.range (m.rows.map (·.2.1)).length).length := List.length_filter_le _ _
      rw [List.length_range, List.length_map] at h1
      have := hsm.1
      omega
    · simp
  rw [hLa, hb] at HGo HrGo
  rw [hLc, hb] at HFi HrFi
  rw [hLi, hb] at HRe HrRe
  rw [hb] at HRi HrRi
  rw [hd] at HSmo HrS
  unfold AnsQ at HGo HrGo HFi HrFi HRe HrRe
  obtain ⟨c, hc⟩ : ∃ x, codeM b = x := ⟨_, rfl⟩
  rw [hc] at HGo HrGo HFi HrFi HRe HrRe
  obtain ⟨nl, hnl⟩ : ∃ x, L.length = x := ⟨_, rfl⟩
  have hq := HQ.out
  have hf := HF.out
  simp only [MachX.v, hq, hf, hq2, hf2, hnl] at HGo HrGo HFi HrFi HRe HrRe HRi HrRi HSmo HrS HSmm
  rw [hnl] at HLI
  have HW6 := Lib.hid hW6
  have HZ6 : Hid (w.heap.size + 2 ≤ W6.heap.size) := Lib.hid (by have := b5.size; have := m6.size; omega)
  clear b5 hr05 hr15 hb5 hO5 hno5 hr6 m6 hW6 hM6 hO6 hr06 hb6 hsm hm hmo hts HTO4 HM4 HNO3 HRA4 HRB4 HB4 HTS2 HOS HLN hLa hLc hLi hb hd hc hz4 z2
  simp only [MachX.v, hq2, hf2]
  clear hq2 hf2
  go_wp2_with fail
  rw [HW6.out]
  refine (HLI.out W6).mono ?_
  rintro e _ ⟨rfl, rfl⟩
  have HBB : Hid (Below W6.heap.size W6 W6) := Lib.hid (Below.refl _ _)
  obtain ⟨h0, _, hM, _, hN, hb⟩ := HK.out W6 HBB.out
  obtain ⟨c0, c1, _, _, l6⟩ := mac5 h0
  have HC := Lib.hid (HGo.out W6 hM hN (HGD.out.below hb))
  clear h0 hM hN hb
  go_wp2_with fail
  clear c0 c1 l6
  refine HC.out.mono ?_
  rintro e v0 ⟨oa, ka, rfl, na, ba⟩
  have hbb := HBB.out.trans (ba.mono HBB.out.size)
  have Na := Lib.hid na
  clear ba na HC HBB
  have HBB := Lib.hid hbb
  clear hbb
  obtain ⟨h0, h1, hM, hO, hN, hb⟩ := HK.out v0 HBB.out
  obtain ⟨c0, c1, _, _, l6⟩ := mac5 h0
  clear h1 hO
  have HC := Lib.hid (HrGo.out v0 hM hN)
  clear h0 hM hN hb
  go_wp2_with fail
  clear c0 c1 l6
  refine HC.out.mono ?_
  rintro e v1 ⟨ob, kb, rfl, nb, bb⟩
  have hbb := HBB.out.trans (bb.mono HBB.out.size)
  replace Na := Lib.hid (Na.out.below bb)
  have Nb := Lib.hid nb
  clear bb nb HC HBB
  have HBB := Lib.hid hbb
  clear hbb
  obtain ⟨h0, h1, hM, hO, hN, hb⟩ := HK.out v1 HBB.out
  obtain ⟨c0, c1, _, _, l6⟩ := mac5 h0
  clear h1 hO
  have HC := Lib.hid (HFi.out v1 hM hN (HGD.out.below hb))
  clear h0 hM hN hb
  go_wp2_with fail
  clear c0 c1 l6
  refine HC.out.mono ?_
  rintro e v2 ⟨oc, kc, rfl, nc, bc⟩
  have hbb := HBB.out.trans (bc.mono HBB.out.size)
  replace Na := Lib.hid (Na.out.below bc)
  replace Nb := Lib.hid (Nb.out.below bc)
  have Nc := Lib.hid nc
  clear bc nc HC HBB
  have HBB := Lib.hid hbb
  clear hbb
  obtain ⟨h0, h1, hM, hO, hN, hb⟩ := HK.out v2 HBB.out
  obtain ⟨c0, c1, _, _, l6⟩ := mac5 h0
  clear h1 hO
  have HC := Lib.hid (HrFi.out v2 hM hN)
  clear h0 hM hN hb
  go_wp2_with fail
  clear c0 c1 l6
  refine HC.out.mono ?_
  rintro e v3 ⟨od, kd, rfl, nd, bd⟩
  have hbb := HBB.out.trans (bd.mono HBB.out.size)
  replace Na := Lib.hid (Na.out.below bd)
  replace Nb := Lib.hid (Nb.out.below bd)
  replace Nc := Lib.hid (Nc.out.below bd)
  have Nd := Lib.hid nd
  clear bd nd HC HBB
  have HBB := Lib.hid hbb
  clear hbb
  obtain ⟨h0, h1, hM, hO, hN, hb⟩ := HK.out v3 HBB.out
  obtain ⟨c0, c1, _, _, l6⟩ := mac5 h0
  clear h1 hO
  have HC := Lib.hid (HRe.out v3 hM (HGD.out.below hb))
  clear h0 hM hN hb
  go_wp2_with fail
  clear c0 c1 l6
  refine HC.out.mono ?_
  rintro e v4 ⟨oi, ki, rfl, ni, bi⟩
  have hbb := HBB.out.trans (bi.mono HBB.out.size)
  replace Na := Lib.hid (Na.out.below bi)
  replace Nb := Lib.hid (Nb.out.below bi)
  replace Nc := Lib.hid (Nc.out.below bi)
  replace Nd := Lib.hid (Nd.out.below bi)
  have Ni := Lib.hid ni
  clear bi ni HC HBB
  have HBB := Lib.hid hbb
  clear hbb
  obtain ⟨h0, h1, hM, hO, hN, hb⟩ := HK.out v4 HBB.out
  obtain ⟨c0, c1, _, _, l6⟩ := mac5 h0
  clear h1 hO
  have HC := Lib.hid (HrRe.out v4 hM)
  clear h0 hM hN hb
  go_wp2_with fail
  clear c0 c1 l6
  refine HC.out.mono ?_
  rintro e v5 ⟨oj, kj, rfl, nj, bj⟩
  have hbb := HBB.out.trans (bj.mono HBB.out.size)
  replace Na := Lib.hid (Na.out.below bj)
  replace Nb := Lib.hid (Nb.out.below bj)
  replace Nc := Lib.hid (Nc.out.below bj)
  replace Nd := Lib.hid (Nd.out.below bj)
  replace Ni := Lib.hid (Ni.out.below bj)
  have Nj := Lib.hid nj
  clear bj nj HC HBB
  have HBB := Lib.hid hbb
  clear hbb
  obtain ⟨h0, h1, hM, hO, hN, hb⟩ := HK.out v5 HBB.out
  obtain ⟨c0, c1, _, _, l6⟩ := mac5 h0
  obtain ⟨d0, d1, _, _, l7⟩ := mac5 h1
  have HK5 : Hid (∀ W, Below v5.heap.size v5 W → MachD W m ∧ MachD W o ∧ Below w.heap.size w W) := Lib.hid fun W hb => by
    obtain ⟨_, _, k1, k2, _, k3⟩ := HK.out W (HBB.out.trans (hb.mono HBB.out.size))
    exact ⟨k1, k2, k3⟩
  have K1 : Hid (∀ W, W.cell? ⟨w.heap.size, 0, none⟩ = some (.slice m.no q m.nc) ∧ W.cell? ⟨w.heap.size, 1, none⟩ = some (.slice m.fo f m.fc) ∧ W.cell? ⟨w.heap.size + 1, 0, none⟩ = some (.slice o.no q2 o.nc) ∧ W.cell? ⟨w.heap.size + 1, 1, none⟩ = some (.slice o.fo f2 o.fc) ∧ Below v5.heap.size v5 W → Calls Tryz.prog 22 #[.agg #[.slice m.no q m.nc, .slice m.fo f m.fc], .int .i64 n] W fun e W' => e = .returned (.bool b) ∧ W'.cell? ⟨w.heap.size, 0, none⟩ = some (.slice m.no q m.nc) ∧ W'.cell? ⟨w.heap.size, 1, none⟩ = some (.slice m.fo f m.fc) ∧ W'.cell? ⟨w.heap.size + 1, 0, none⟩ = some (.slice o.no q2 o.nc) ∧ W'.cell? ⟨w.heap.size + 1, 1, none⟩ = some (.slice o.fo f2 o.fc) ∧ Below v5.heap.size v5 W') := Lib.hid fun W hW => by
    obtain ⟨p0, p1, p2, p3, p6⟩ := hW
    obtain ⟨k1, k2, k3⟩ := HK5.out W p6
    exact (HRi.out W k1).mono fun e W' h => ⟨h.1, keep4D h.2 p0 p1 p2 p3 p6⟩
  have K2 : Hid (∀ W, W.cell? ⟨w.heap.size, 0, none⟩ = some (.slice m.no q m.nc) ∧ W.cell? ⟨w.heap.size, 1, none⟩ = some (.slice m.fo f m.fc) ∧ W.cell? ⟨w.heap.size + 1, 0, none⟩ = some (.slice o.no q2 o.nc) ∧ W.cell? ⟨w.heap.size + 1, 1, none⟩ = some (.slice o.fo f2 o.fc) ∧ Below v5.heap.size v5 W → Calls Tryz.prog 23 #[.agg #[.slice m.no q m.nc, .slice m.fo f m.fc], .int .i64 n] W fun e W' => e = .returned (.bool b) ∧ W'.cell? ⟨w.heap.size, 0, none⟩ = some (.slice m.no q m.nc) ∧ W'.cell? ⟨w.heap.size, 1, none⟩ = some (.slice m.fo f m.fc) ∧ W'.cell? ⟨w.heap.size + 1, 0, none⟩ = some (.slice o.no q2 o.nc) ∧ W'.cell? ⟨w.heap.size + 1, 1, none⟩ = some (.slice o.fo f2 o.fc) ∧ Below v5.heap.size v5 W') := Lib.hid fun W hW => by
    obtain ⟨p0, p1, p2, p3, p6⟩ := hW
    obtain ⟨k1, k2, k3⟩ := HK5.out W p6
    exact (HrRi.out W k1).mono fun e W' h => ⟨h.1, keep4D h.2 p0 p1 p2 p3 p6⟩
  have K3 : Hid (∀ W, W.cell? ⟨w.heap.size, 0, none⟩ = some (.slice m.no q m.nc) ∧ W.cell? ⟨w.heap.size, 1, none⟩ = some (.slice m.fo f m.fc) ∧ W.cell? ⟨w.heap.size + 1, 0, none⟩ = some (.slice o.no q2 o.nc) ∧ W.cell? ⟨w.heap.size + 1, 1, none⟩ = some (.slice o.fo f2 o.fc) ∧ Below v5.heap.size v5 W → Calls Tryz.prog 24 #[.slice oa La.length ka, .slice ob La.length kb] W fun e W' => e = .returned (.bool true) ∧ W'.cell? ⟨w.heap.size, 0, none⟩ = some (.slice m.no q m.nc) ∧ W'.cell? ⟨w.heap.size, 1, none⟩ = some (.slice m.fo f m.fc) ∧ W'.cell? ⟨w.heap.size + 1, 0, none⟩ = some (.slice o.no q2 o.nc) ∧ W'.cell? ⟨w.heap.size + 1, 1, none⟩ = some (.slice o.fo f2 o.fc) ∧ Below v5.heap.size v5 W') := Lib.hid fun W hW => by
    obtain ⟨p0, p1, p2, p3, p6⟩ := hW
    obtain ⟨k1, k2, k3⟩ := HK5.out W p6
    have HI0 := intsR_any oa ob La La ka kb (by omega) W (Na.out.below p6) (Nb.out.below p6)
    rw [decide_eq_true rfl] at HI0
    exact (HI0).mono fun e W' h => ⟨h.1, keep4D h.2 p0 p1 p2 p3 p6⟩
  have K4 : Hid (∀ W, W.cell? ⟨w.heap.size, 0, none⟩ = some (.slice m.no q m.nc) ∧ W.cell? ⟨w.heap.size, 1, none⟩ = some (.slice m.fo f m.fc) ∧ W.cell? ⟨w.heap.size + 1, 0, none⟩ = some (.slice o.no q2 o.nc) ∧ W.cell? ⟨w.heap.size + 1, 1, none⟩ = some (.slice o.fo f2 o.fc) ∧ Below v5.heap.size v5 W → Calls Tryz.prog 25 #[.slice oc Lc.length kc, .slice od Lc.length kd] W fun e W' => e = .returned (.bool true) ∧ W'.cell? ⟨w.heap.size, 0, none⟩ = some (.slice m.no q m.nc) ∧ W'.cell? ⟨w.heap.size, 1, none⟩ = some (.slice m.fo f m.fc) ∧ W'.cell? ⟨w.heap.size + 1, 0, none⟩ = some (.slice o.no q2 o.nc) ∧ W'.cell? ⟨w.heap.size + 1, 1, none⟩ = some (.slice o.fo f2 o.fc) ∧ Below v5.heap.size v5 W') := Lib.hid fun W hW => by
    obtain ⟨p0, p1, p2, p3, p6⟩ := hW
    obtain ⟨k1, k2, k3⟩ := HK5.out W p6
    have HI0 := setsL12_any oc od Lc Lc kc kd (by omega) W (Nc.out.below p6) (Nd.out.below p6)
    rw [decide_eq_true rfl] at HI0
    exact (HI0).mono fun e W' h => ⟨h.1, keep4D h.2 p0 p1 p2 p3 p6⟩
  have K5 : Hid (∀ W, W.cell? ⟨w.heap.size, 0, none⟩ = some (.slice m.no q m.nc) ∧ W.cell? ⟨w.heap.size, 1, none⟩ = some (.slice m.fo f m.fc) ∧ W.cell? ⟨w.heap.size + 1, 0, none⟩ = some (.slice o.no q2 o.nc) ∧ W.cell? ⟨w.heap.size + 1, 1, none⟩ = some (.slice o.fo f2 o.fc) ∧ Below v5.heap.size v5 W → Calls Tryz.prog 24 #[.slice oi Li.length ki, .slice oj Li.length kj] W fun e W' => e = .returned (.bool true) ∧ W'.cell? ⟨w.heap.size, 0, none⟩ = some (.slice m.no q m.nc) ∧ W'.cell? ⟨w.heap.size, 1, none⟩ = some (.slice m.fo f m.fc) ∧ W'.cell? ⟨w.heap.size + 1, 0, none⟩ = some (.slice o.no q2 o.nc) ∧ W'.cell? ⟨w.heap.size + 1, 1, none⟩ = some (.slice o.fo f2 o.fc) ∧ Below v5.heap.size v5 W') := Lib.hid fun W hW => by
    obtain ⟨p0, p1, p2, p3, p6⟩ := hW
    obtain ⟨k1, k2, k3⟩ := HK5.out W p6
    have HI0 := intsR_any oi oj Li Li ki kj (by omega) W (Ni.out.below p6) (Nj.out.below p6)
    rw [decide_eq_true rfl] at HI0
    exact (HI0).mono fun e W' h => ⟨h.1, keep4D h.2 p0 p1 p2 p3 p6⟩
  have K6 : Hid (∀ W, W.cell? ⟨w.heap.size, 0, none⟩ = some (.slice m.no q m.nc) ∧ W.cell? ⟨w.heap.size, 1, none⟩ = some (.slice m.fo f m.fc) ∧ W.cell? ⟨w.heap.size + 1, 0, none⟩ = some (.slice o.no q2 o.nc) ∧ W.cell? ⟨w.heap.size + 1, 1, none⟩ = some (.slice o.fo f2 o.fc) ∧ Below v5.heap.size v5 W → Calls Tryz.prog 26 #[.agg #[.slice m.no q m.nc, .slice m.fo f m.fc], .agg #[.slice o.no q2 o.nc, .slice o.fo f2 o.fc]] W fun e W' => e = .returned (.bool d) ∧ W'.cell? ⟨w.heap.size, 0, none⟩ = some (.slice m.no q m.nc) ∧ W'.cell? ⟨w.heap.size, 1, none⟩ = some (.slice m.fo f m.fc) ∧ W'.cell? ⟨w.heap.size + 1, 0, none⟩ = some (.slice o.no q2 o.nc) ∧ W'.cell? ⟨w.heap.size + 1, 1, none⟩ = some (.slice o.fo f2 o.fc) ∧ Below v5.heap.size v5 W') := Lib.hid fun W hW => by
    obtain ⟨p0, p1, p2, p3, p6⟩ := hW
    obtain ⟨k1, k2, k3⟩ := HK5.out W p6
    exact (HSmo.out W k1 k2).mono fun e W' h => ⟨h.1, keep4D h.2 p0 p1 p2 p3 p6⟩
  have K7 : Hid (∀ W, W.cell? ⟨w.heap.size, 0, none⟩ = some (.slice m.no q m.nc) ∧ W.cell? ⟨w.heap.size, 1, none⟩ = some (.slice m.fo f m.fc) ∧ W.cell? ⟨w.heap.size + 1, 0, none⟩ = some (.slice o.no q2 o.nc) ∧ W.cell? ⟨w.heap.size + 1, 1, none⟩ = some (.slice o.fo f2 o.fc) ∧ Below v5.heap.size v5 W → Calls Tryz.prog 13 #[.agg #[.slice m.no q m.nc, .slice m.fo f m.fc], .agg #[.slice o.no q2 o.nc, .slice o.fo f2 o.fc]] W fun e W' => e = .returned (.bool d) ∧ W'.cell? ⟨w.heap.size, 0, none⟩ = some (.slice m.no q m.nc) ∧ W'.cell? ⟨w.heap.size, 1, none⟩ = some (.slice m.fo f m.fc) ∧ W'.cell? ⟨w.heap.size + 1, 0, none⟩ = some (.slice o.no q2 o.nc) ∧ W'.cell? ⟨w.heap.size + 1, 1, none⟩ = some (.slice o.fo f2 o.fc) ∧ Below v5.heap.size v5 W') := Lib.hid fun W hW => by
    obtain ⟨p0, p1, p2, p3, p6⟩ := hW
    obtain ⟨k1, k2, k3⟩ := HK5.out W p6
    exact (HrS.out W k1 k2).mono fun e W' h => ⟨h.1, keep4D h.2 p0 p1 p2 p3 p6⟩
  have K8 : Hid (∀ W, W.cell? ⟨w.heap.size, 0, none⟩ = some (.slice m.no q m.nc) ∧ W.cell? ⟨w.heap.size, 1, none⟩ = some (.slice m.fo f m.fc) ∧ W.cell? ⟨w.heap.size + 1, 0, none⟩ = some (.slice o.no q2 o.nc) ∧ W.cell? ⟨w.heap.size + 1, 1, none⟩ = some (.slice o.fo f2 o.fc) ∧ Below v5.heap.size v5 W → Calls Tryz.prog 26 #[.agg #[.slice m.no q m.nc, .slice m.fo f m.fc], .agg #[.slice m.no q m.nc, .slice m.fo f m.fc]] W fun e W' => e = .returned (.bool true) ∧ W'.cell? ⟨w.heap.size, 0, none⟩ = some (.slice m.no q m.nc) ∧ W'.cell? ⟨w.heap.size, 1, none⟩ = some (.slice m.fo f m.fc) ∧ W'.cell? ⟨w.heap.size + 1, 0, none⟩ = some (.slice o.no q2 o.nc) ∧ W'.cell? ⟨w.heap.size + 1, 1, none⟩ = some (.slice o.fo f2 o.fc) ∧ Below v5.heap.size v5 W') := Lib.hid fun W hW => by
    obtain ⟨p0, p1, p2, p3, p6⟩ := hW
    obtain ⟨k1, k2, k3⟩ := HK5.out W p6
    exact (HSmm.out W k1).mono fun e W' h => ⟨h.1, keep4D h.2 p0 p1 p2 p3 p6⟩
  have HPQ : Hid (∀ W, Below v5.heap.size v5 W → P (.returned (.bool true)) W) := Lib.hid fun W h => HPP.out W (HK5.out W h).2.2
  have HD : v5.drew.cell? ⟨w.heap.size, 0, none⟩ = some (.slice m.no q m.nc) ∧ v5.drew.cell? ⟨w.heap.size, 1, none⟩ = some (.slice m.fo f m.fc) ∧ v5.drew.cell? ⟨w.heap.size + 1, 0, none⟩ = some (.slice o.no q2 o.nc) ∧ v5.drew.cell? ⟨w.heap.size + 1, 1, none⟩ = some (.slice o.fo f2 o.fc) ∧ Below v5.heap.size v5 v5.drew := ⟨c0, c1, d0, d1, (Below.refl _ _).drew⟩
  have hbb : (b == b) = true := by simp
  have hdd : (d == d) = true := by simp
  have hcc : (c == c) = true := by simp
  have hfol : Tryz.prog.follows .mixedOrders = true := by kernel_rfl
  clear h0 h1 hM hO hN hb HK HK5 HBB Na Nb Nc Nd Ni Nj HGo HrGo HFi HrFi HRe HrRe HRi HrRi HSmo HrS HSmm HGD HPP HLI HW6 HW4 HQ HF
  obtain ⟨la, hla⟩ : ∃ x, La.length = x := ⟨_, rfl⟩
  obtain ⟨lc, hlc⟩ : ∃ x, Lc.length = x := ⟨_, rfl⟩
  obtain ⟨li, hli⟩ : ∃ x, Li.length = x := ⟨_, rfl⟩
  rw [hla] at K3
  rw [hlc] at K4
  rw [hli] at K5
  rw [hla, hlc, hli]
  clear hla hlc hli hLaz hLcz hLiz
  go_wp2_with fail
  try go_wp2_with fail
  go_region_held3 (fun W => W.cell? ⟨w.heap.size, 0, none⟩ = some (.slice m.no q m.nc) ∧ W.cell? ⟨w.heap.size, 1, none⟩ = some (.slice m.fo f m.fc) ∧ W.cell? ⟨w.heap.size + 1, 0, none⟩ = some (.slice o.no q2 o.nc) ∧ W.cell? ⟨w.heap.size + 1, 1, none⟩ = some (.slice o.fo f2 o.fc) ∧ Below v5.heap.size v5 W) (first | assumption | exact HD | go_keep) (first | (go_at_call 22; refine (K1.out _ (by first | assumption | exact HD | exact hg)).mono ?_; rintro e w' ⟨rfl, hg⟩) | (go_at_call 23; refine (K2.out _ (by first | assumption | exact HD | exact hg)).mono ?_; rintro e w' ⟨rfl, hg⟩) | (go_at_call 24; (first | with_reducible refine (K3.out _ (by first | assumption | exact HD | exact hg)).mono ?_ | with_reducible refine (K5.out _ (by first | assumption | exact HD | exact hg)).mono ?_); rintro e w' ⟨rfl, hg⟩) | (go_at_call 25; refine (K4.out _ (by first | assumption | exact HD | exact hg)).mono ?_; rintro e w' ⟨rfl, hg⟩) | (go_at_call 26; (first | with_reducible refine (K6.out _ (by first | assumption | exact HD | exact hg)).mono ?_ | with_reducible refine (K8.out _ (by first | assumption | exact HD | exact hg)).mono ?_); rintro e w' ⟨rfl, hg⟩) | (go_at_call 13; refine (K7.out _ (by first | assumption | exact HD | exact hg)).mono ?_; rintro e w' ⟨rfl, hg⟩))
  go_wp2
  exact HPQ.out _ hg.2.2.2.2
end Go.Proofs.YtaoooocalpkhjaaGreatDoor
namespace Go.Proofs.YtaoooocalpkhjaaGreatDoor
open Go.ChangeShapes Go.WideShapes Go.ChangeAt Go.RowKit Go.ChangeMaps Go.Shelf

theorem ownQ : ownKnob Tryz.prog.godebug = none := by kernel_rfl
theorem gPatQ : Tryz.prog.globalNamed "virama/nfa.errPattern" = some 6 := by kernel_rfl
theorem gStaQ : Tryz.prog.globalNamed "virama/nfa.errStates" = some 7 := by kernel_rfl
theorem gFarQ : Tryz.prog.globalNamed "virama/nfa.far" = some 8 := by kernel_rfl
theorem gPatTypeQ : (Tryz.prog.globals[6]?).map (·.type) = some 62 := by kernel_rfl
theorem gStaTypeQ : (Tryz.prog.globals[7]?).map (·.type) = some 62 := by kernel_rfl
theorem gFarTypeQ : (Tryz.prog.globals[8]?).map (·.type) = some 267 := by kernel_rfl
theorem cellsEQ : Tryz.prog.cellsOf 288 = 1 := by kernel_rfl
theorem cellsSQ : Tryz.prog.cellsOf 9 = 1 := by kernel_rfl
theorem starEQ : "*" ++ "errors.errorString" = "*errors.errorString" := by decide
theorem rowEQ (u : TypeId) (h : Tryz.prog.typeName? 3 u = some "*errors.errorString") : u = 268 :=
  typeName_ptr_named (nm := "errors.errorString") (by rw [starEQ]; kernel_rfl) (by kernel_rfl) (by decide) u (by rw [starEQ]; exact h)
abbrev laid2Q : List (String × DataW Unit) := [("virama/nfa.errPattern", Rows.laid_virama_nfa_errPattern), ("virama/nfa.errStates", Rows.laid_virama_nfa_errStates)]
abbrev laidTQ : List (String × DataW Unit) := [("virama/nfa.far", Rows.laid_virama_nfa_far)]
theorem gRulD : Tryz.prog.globalNamed "virama/dfa.errRule" = some 0 := by kernel_rfl
theorem gRulTypeD : (Tryz.prog.globals[0]?).map (·.type) = some 62 := by kernel_rfl
theorem gMacD : Tryz.prog.globalNamed "virama/dfa.errMachine" = some 1 := by kernel_rfl
theorem gMacTypeD : (Tryz.prog.globals[1]?).map (·.type) = some 62 := by kernel_rfl
abbrev laid2D : List (String × DataW Unit) := [("virama/dfa.errRule", Rows.laid_virama_dfa_errRule), ("virama/dfa.errMachine", Rows.laid_virama_dfa_errMachine)]
abbrev laidAQ : List (String × DataW Unit) := [("virama/nfa.errPattern", Rows.laid_virama_nfa_errPattern), ("virama/nfa.errStates", Rows.laid_virama_nfa_errStates), ("virama/nfa.far", Rows.laid_virama_nfa_far), ("virama/dfa.errRule", Rows.laid_virama_dfa_errRule), ("virama/dfa.errMachine", Rows.laid_virama_dfa_errMachine)]
theorem far_of_laidQ {W : World} (h : laidMetH Tryz.prog laidAQ W) : ∀ j x, j < 3 → [(2 : Int), 0, 1][j]? = some x → W.cell? ⟨8, j, none⟩ = some (.int .i64 x) := by
  intro j x hj hx
  have h1 := laidMetH.filter (fun x => x.1 == "virama/nfa.far") h
  have h2 : laidMetH Tryz.prog laidTQ W := h1
  rw [MakeChecks.laidMetH_plain _ _ _ (by kernel_rfl)] at h2
  obtain ⟨ps, ⟨g, t, cs, fuel, p, q, hg, ht, hv, hd, _, _⟩, _, _⟩ := h2
  obtain rfl := Option.some.inj (gFarQ.symm.trans hg)
  obtain rfl := Option.some.inj (gFarTypeQ.symm.trans ht)
  obtain ⟨xs, m, _, ex, _, hl, hel⟩ := DataW.trod_array Tryz.underlying267 hd
  have c5 : Tryz.prog.cellsOf 3 = 1 := by kernel_rfl
  have hlt : j < xs.length := by clear ex hd hel; omega
  have hE := hel j hj
  rw [c5, Nat.mul_one, List.getElem?_eq_getElem hlt] at hE
  obtain ⟨z, e1, e2, _⟩ := DataW.trod_int Tryz.underlying3 hE
  have e3 : .agg (xs.map (·.1)) = Rows.laid_virama_nfa_far (H := Unit) := (Prod.mk.inj ex).1.symm
  have e4 : (xs.map (·.1))[j]? = some (.lit (.int .i64 x)) := by
    have := DataW.agg.inj e3
    rw [this]
    match j, hj, hx with
    | 0, _, hx => cases hx; rfl
    | 1, _, hx => cases hx; rfl
    | 2, _, hx => cases hx; rfl
  rw [List.getElem?_map, List.getElem?_eq_getElem hlt, Option.map_some, e2] at e4
  have hz : z = x := by simpa using e4
  rw [World.var?_cell gFarQ hv j]
  have h0 : ((cs.toList.drop j).take 1)[0]? = some (.int .i64 z) := by rw [e1]; rfl
  rw [hz] at h0
  simpa using h0
theorem glob_ofQ {W : World} (h : laidMetH Tryz.prog laidAQ W) : ∃ aP aS, GlobH W aP aS := by
  have h1 := laidMetH.filter (fun x => x.1 == "virama/nfa.errPattern" || x.1 == "virama/nfa.errStates") h
  have h2 : laidMetH Tryz.prog laid2Q W := h1
  have h' : laidMet Tryz.prog laid2Q W := by rw [MakeChecks.laidMetH_plain _ _ _ (by kernel_rfl)] at h2; exact h2
  obtain ⟨a0, a1, s0, s1, c0, c1, t0, t1, hv0, hv1, hc0, hs0, hz0, hc1, hs1, hz1, hne, hb0, hb1⟩ :=
    laid_sentinels2 h' gPatQ gPatTypeQ gStaQ gStaTypeQ Tryz.underlying62 rowEQ Tryz.underlying268 Tryz.underlying288 rfl rfl Tryz.underlying9 cellsEQ cellsSQ
  have hP : W.cell? ⟨6, 0, none⟩ = some (errVQ a0) := by simpa using World.var?_cell gPatQ hv0 0
  have hS : W.cell? ⟨7, 0, none⟩ = some (errVQ a1) := by simpa using World.var?_cell gStaQ hv1 0
  have lt : ∀ {g j : Nat} {v : Value}, W.cell? ⟨g, j, none⟩ = some v → g < W.heap.size := by
    intro g j v hc
    exact World.block_lt_of_cell? W _ hc
  have f0 := far_of_laidQ h 0 2 (by decide) rfl
  have f1 := far_of_laidQ h 1 0 (by decide) rfl
  have f2 := far_of_laidQ h 2 1 (by decide) rfl
  exact ⟨a0, a1, hP, hS, hne, ⟨c0, t0, hb0⟩, ⟨c1, t1, hb1⟩, lt hP, lt hS, lt f0, f0, f1, f2⟩

theorem glob_ofD {W : World} (h : laidMetH Tryz.prog laidAQ W) : ∃ aR aM, GlobD W aR aM := by
  have h1 := laidMetH.filter (fun x => x.1 == "virama/dfa.errRule" || x.1 == "virama/dfa.errMachine") h
  have h2 : laidMetH Tryz.prog laid2D W := h1
  have h' : laidMet Tryz.prog laid2D W := by rw [MakeChecks.laidMetH_plain _ _ _ (by kernel_rfl)] at h2; exact h2
  obtain ⟨a0, a1, s0, s1, c0, c1, t0, t1, hv0, hv1, hc0, hs0, hz0, hc1, hs1, hz1, hne, hb0, hb1⟩ :=
    laid_sentinels2 h' gRulD gRulTypeD gMacD gMacTypeD Tryz.underlying62 rowEQ Tryz.underlying268 Tryz.underlying288 rfl rfl Tryz.underlying9 cellsEQ cellsSQ
  have hP : W.cell? ⟨0, 0, none⟩ = some (errVQ a0) := by simpa using World.var?_cell gRulD hv0 0
  have hS : W.cell? ⟨1, 0, none⟩ = some (errVQ a1) := by simpa using World.var?_cell gMacD hv1 0
  have lt : ∀ {g j : Nat} {v : Value}, W.cell? ⟨g, j, none⟩ = some v → g < W.heap.size := by
    intro g j v hc
    exact World.block_lt_of_cell? W _ hc
  exact ⟨a0, a1, hP, hS, hne, ⟨c0, t0, hb0⟩, ⟨c1, t1, hb1⟩, lt hP, lt hS⟩

noncomputable def lowQ : Nat := (World.holding Tryz.prog default ⟨#[], #[], []⟩).heap.size
abbrev patSQ : ByteArray := ⟨#[110, 102, 97, 58, 32, 97, 32, 112, 97, 116, 116, 101, 114, 110, 32, 116, 104, 97, 116, 32, 105, 115, 32, 110, 111, 116, 32, 114, 105, 103, 104, 116]⟩
abbrev staSQ : ByteArray := ⟨#[110, 102, 97, 58, 32, 115, 116, 97, 116, 101, 115, 32, 116, 104, 97, 116, 32, 116, 104, 101, 32, 112, 97, 116, 116, 101, 114, 110, 32, 104, 97, 115, 32, 110, 111, 116]⟩
abbrev rulSQ : ByteArray := ⟨#[100, 102, 97, 58, 32, 114, 117, 108, 101, 115, 32, 116, 104, 97, 116, 32, 97, 114, 101, 32, 110, 111, 116, 32, 114, 105, 103, 104, 116]⟩
abbrev macSQ : ByteArray := ⟨#[100, 102, 97, 58, 32, 97, 32, 109, 97, 99, 104, 105, 110, 101, 32, 116, 104, 97, 116, 32, 105, 115, 32, 110, 111, 116, 32, 114, 105, 103, 104, 116, 44, 32, 111, 114, 32, 119, 111, 117, 108, 100, 32, 104, 97, 118, 101, 32, 116, 111, 111, 32, 109, 97, 110, 121, 32, 115, 116, 97, 116, 101, 115]⟩
noncomputable def baseWorldQ (os : Os) : World :=
  let w0 := World.holding Tryz.prog os ⟨#[.cells #[.string patSQ] 288, .cells #[.string staSQ] 288, .cells #[.string rulSQ] 288, .cells #[.string macSQ] 288], #[], []⟩
  { w0 with heap := ((((w0.heap.modify 6 fun
      | .cells _ t frozen => .cells #[errVQ ⟨lowQ, 0, none⟩] t frozen
      | o => o).modify 7 fun
      | .cells _ t frozen => .cells #[errVQ ⟨lowQ + 1, 0, none⟩] t frozen
      | o => o).modify 0 fun
      | .cells _ t frozen => .cells #[errVQ ⟨lowQ + 2, 0, none⟩] t frozen
      | o => o).modify 1 fun
      | .cells _ t frozen => .cells #[errVQ ⟨lowQ + 3, 0, none⟩] t frozen
      | o => o) }
noncomputable def laidWorldQ (os : Os) : World := (baseWorldQ os).layVars Tryz.prog laidTQ
theorem laidWorld_osQ (os : Os) : (laidWorldQ os).os = os := World.layVars_os _ _ _
set_option maxRecDepth 100000 in
theorem laid_met_wQ (os : Os) (args : Array Value) : laidMet Tryz.prog laidAQ ((laidWorldQ os).forCall (fun _ _ => 0) ⟨#[], args, []⟩).memory :=
  laidMet_of_run' 8 (by kernel_rfl) (by kernel_rfl)
theorem laid_metQ (os : Os) (args : Array Value) : laidMetH Tryz.prog laidAQ ((laidWorldQ os).forCall (fun _ _ => 0) ⟨#[], args, []⟩).memory := by
  rw [MakeChecks.laidMetH_plain _ _ _ (by kernel_rfl)]
  exact laid_met_wQ os args

theorem true_postQ {H : Type} {enc : TypeId × Value → H} {f : Func} {s : ChangeSpec} {W W' : World} {args : Array Value} {ds gs : List (DataW H)} {before : List MemPlace}
    (hW : DataW.Whole enc Tryz.prog f.params.toList s.vars false W args.toList ds gs before) (hr : f.resultTypes = #[4]) (hfn : s.fn H (ds ++ gs) = { results := [.lit (.bool true)], args := ds }) (hv : s.vars = [])
    (hargs : DataW.TrodAll enc Tryz.prog W' 0 (fun b => decide (b < W.heap.size)) true f.params.toList args.toList ds before) (hb : Below W.heap.size W W') :
    s.post enc Tryz.prog f false true false false W args (.bool true) W' := by
  refine ⟨ds, gs, before, [], before, [], hW, ?_, ?_, ?_, ?_, fun h => by cases h⟩
  · rw [hr, hfn]
    exact trodAll_cons_mk (shut_bool Tryz.underlying4 _) trodAll_mk0
  · rw [hfn]
    exact hargs
  · rw [hv, hfn]
    rfl
  · exact World.keptBut_mono (fun p hp => ⟨hp, .inr (.inl hp)⟩) (hb.frame (· ∈ before))

abbrev In64K (n : Int) : Prop := -9223372036854775808 ≤ n ∧ n ≤ 9223372036854775807
def NumsInQ (w : World) (o : Option Addr) (l : List Int) : Prop := NumsAt w o l ∧ ∀ c ∈ l, In64K c
theorem in64_wfQ {n : Int} (h : (Lit.int .i64 n).wf = true) : In64K n := by
  simp [Lit.wf, IntKind.min, IntKind.max, IntKind.signed, IntKind.bits] at h
  exact h
theorem list_ofQ {α : Type} {Q : Nat → α → Prop} : ∀ n : Nat, (∀ i, i < n → ∃ x, Q i x) → ∃ l : List α, l.length = n ∧ ∀ i x, l[i]? = some x → Q i x
  | 0, _ => ⟨[], rfl, fun i x h => by simp at h⟩
  | n + 1, h => by
    obtain ⟨l, hl, hq⟩ := list_ofQ n fun i hi => h i (by omega)
    obtain ⟨y, hy⟩ := h n (by omega)
    refine ⟨l ++ [y], by simp [hl], fun i x hx => ?_⟩
    rcases Nat.lt_or_ge i l.length with hi | hi
    · rw [List.getElem?_append_left hi] at hx
      exact hq i x hx
    · rw [List.getElem?_append_right hi] at hx
      have hi2 : i - l.length = 0 := by
        have := (List.getElem?_eq_some_iff.1 hx).1
        simp at this
        omega
      rw [hi2] at hx
      cases hx
      rw [show i = n from by omega]
      exact hy
theorem add_atQ2 (g off k : Nat) : (⟨g, off, none⟩ : Addr).add k = ⟨g, off + k, none⟩ := by unfold Addr.add; split <;> simp_all
theorem cellsIntQ : Tryz.prog.cellsOf 3 = 1 := by kernel_rfl
theorem cellsI64Q : Tryz.prog.cellsOf 2 = 1 := by kernel_rfl
section
variable {H : Type} {enc : TypeId × Value → H} {W : World}
theorem open_intsQ {fuel : Nat} {v : Value} {x : DataW H × List MemPlace} (h : DataW.trod enc Tryz.prog W 0 (fun _ => true) true fuel 34 [v] = some x) :
    ∃ (o : Option Addr) (l : List Int) (cap : Nat), v = .slice o l.length cap ∧ (NumsInQ W o l ∧ (o = none → cap = 0) ∧ ∀ p, o = some p → 0 < cap → p.spot = none) ∧ l.length ≤ cap := by
  rcases DataW.trod_slice Tryz.underlying34 h with ⟨hv, _⟩ | ⟨a, len, cap, elems, rest, n, _, hv, _, _, hle, hcap, hlen, hc, hr, _⟩
  · obtain rfl : v = .slice none 0 0 := by simpa using hv
    exact ⟨none, [], 0, rfl, ⟨⟨fun h => absurd h (Nat.not_lt_zero _), fun c h => by cases h⟩, fun _ => rfl, fun p h => by cases h⟩, Nat.le_refl _⟩
  · obtain rfl : v = .slice (some a) len cap := by simpa using hv
    have hall : ∀ i, i < len → ∃ X : Int, W.cell? ((a.add (i * 1)).add 0) = some (.int .i64 X) ∧ In64K X := fun i hi => by
      have he := hc i hi
      rw [cellsIntQ, List.getElem?_eq_getElem (by omega)] at he
      obtain ⟨cs, hcs, ht⟩ := Option.bind_eq_some_iff.1 he
      obtain ⟨_, hl, hg⟩ := World.cells?_some hcs
      obtain ⟨b, c1, _, cw⟩ := DataW.trod_int Tryz.underlying3 ht
      exact ⟨b, by rw [hg 0 (by omega), c1]; rfl, in64_wfQ cw⟩
    have hsp : 0 < cap → a.spot = none := fun h0 => by
      rcases Nat.eq_zero_or_pos len with hz | hz
      · obtain ⟨hrl, hrc⟩ := hr rfl
        have h0l : 0 < rest.length := by rw [hrl, hz]; exact h0
        have he := hrc 0 (by rw [hz]; exact h0)
        rw [cellsIntQ, hz, List.getElem?_eq_getElem h0l] at he
        obtain ⟨cs, hcs, ht⟩ := Option.bind_eq_some_iff.1 he
        obtain ⟨_, hl, hg⟩ := World.cells?_some hcs
        have h1 := hg 0 (by omega)
        rw [List.getElem?_eq_getElem (by rw [hl]; exact Nat.one_pos)] at h1
        simpa [Addr.add] using World.cell?_spot h1
      · obtain ⟨X, h1, _⟩ := hall 0 hz
        simpa [Addr.add] using World.cell?_spot h1
    obtain ⟨rs, hrl, hrs⟩ := list_ofQ len hall
    subst hrl
    refine ⟨some a, rs, cap, rfl, ⟨⟨fun hn => ?_, fun c hc => by obtain ⟨i, hi⟩ := List.getElem?_of_mem hc; exact (hrs i c hi).2⟩, (fun h => by cases h), (fun p h h0 => by cases h; exact hsp h0)⟩, by omega⟩
    have h0 := (hrs 0 _ (List.getElem?_eq_getElem hn)).1
    obtain ⟨g, off, spot⟩ := a
    have hspot : spot = none := by simpa [Addr.add] using World.cell?_spot h0
    subst hspot
    refine ⟨g, off, rfl, fun j x hx => ?_⟩
    have c0 := (hrs j x hx).1
    rwa [add_atQ2, add_atQ2, Nat.mul_one, Nat.add_zero] at c0
theorem list1Q {α : Type} {cs : List α} (h : cs.length = 1) : ∃ c0, cs = [c0] := by
  match cs, h with
  | [c0], _ => exact ⟨c0, rfl⟩
theorem list2Q {α : Type} {cs : List α} (h : cs.length = 2) : ∃ c0 c1, cs = [c0, c1] := by
  match cs, h with
  | [c0, c1], _ => exact ⟨c0, c1, rfl⟩
end

section
variable {H : Type} {enc : TypeId × Value → H} {W : World}
end
end Go.Proofs.YtaoooocalpkhjaaGreatDoor
namespace Go.Proofs.YtaoooocalpkhjaaGreatDoor
open Go.ChangeShapes Go.WideShapes Go.ChangeAt Go.RowKit Go.ChangeMaps

theorem cellsMachD : Tryz.prog.cellsOf 28 = 2 := by kernel_rfl
theorem cellsIntsD : Tryz.prog.cellsOf 34 = 1 := by kernel_rfl
theorem cellsI64sD : Tryz.prog.cellsOf 26 = 1 := by kernel_rfl
theorem cellsRowsD : Tryz.prog.cellsOf 25 = 1 := by kernel_rfl
section
variable {H : Type} {enc : TypeId × Value → H} {W : World}
theorem open_i64sD {fuel : Nat} {v : Value} {x : DataW H × List MemPlace} (h : DataW.trod enc Tryz.prog W 0 (fun _ => true) true fuel 26 [v] = some x) :
    ∃ (o : Option Addr) (l : List Int) (cap : Nat), v = .slice o l.length cap ∧ NumsAt W o l ∧ l.length ≤ cap := by
  rcases DataW.trod_slice Tryz.underlying26 h with ⟨hv, _⟩ | ⟨a, len, cap, elems, rest, n, _, hv, _, _, hle, hcap, hlen, hc, _, _⟩
  · obtain rfl : v = .slice none 0 0 := by simpa using hv
    exact ⟨none, [], 0, rfl, fun h => absurd h (Nat.not_lt_zero _), Nat.le_refl _⟩
  · obtain rfl : v = .slice (some a) len cap := by simpa using hv
    have hall : ∀ i, i < len → ∃ X : Int, W.cell? ((a.add (i * 1)).add 0) = some (.int .i64 X) := fun i hi => by
      have he := hc i hi
      rw [cellsI64Q, List.getElem?_eq_getElem (by omega)] at he
      obtain ⟨cs, hcs, ht⟩ := Option.bind_eq_some_iff.1 he
      obtain ⟨_, hl, hg⟩ := World.cells?_some hcs
      obtain ⟨b, c1, _, _⟩ := DataW.trod_int Tryz.underlying2 ht
      exact ⟨b, by rw [hg 0 (by omega), c1]; rfl⟩
    obtain ⟨rs, hrl, hrs⟩ := list_ofQ len hall
    subst hrl
    refine ⟨some a, rs, cap, rfl, fun hn => ?_, by omega⟩
    have h0 := hrs 0 _ (List.getElem?_eq_getElem hn)
    obtain ⟨g, off, spot⟩ := a
    have hspot : spot = none := by simpa [Addr.add] using World.cell?_spot h0
    subst hspot
    refine ⟨g, off, rfl, fun j x hx => ?_⟩
    have c0 := hrs j x hx
    rwa [add_atQ2, add_atQ2, Nat.mul_one, Nat.add_zero] at c0
theorem open_rowsD {fuel : Nat} {v : Value} {x : DataW H × List MemPlace} (h : DataW.trod enc Tryz.prog W 0 (fun _ => true) true fuel 25 [v] = some x) :
    ∃ (o : Option Addr) (l : List RowD) (cap : Nat), v = .slice o l.length cap ∧ RowsD W o l ∧ ∀ y ∈ l, NumsAt W y.1 y.2.1 ∧ y.2.1.length ≤ y.2.2 := by
  rcases DataW.trod_slice Tryz.underlying25 h with ⟨hv, _⟩ | ⟨a, len, cap, elems, rest, n, _, hv, _, _, hle, hcap, hlen, hc, _, _⟩
  · obtain rfl : v = .slice none 0 0 := by simpa using hv
    exact ⟨none, [], 0, rfl, fun h => absurd h (Nat.not_lt_zero _), fun y hy => by cases hy⟩
  · obtain rfl : v = .slice (some a) len cap := by simpa using hv
    have hall : ∀ i, i < len → ∃ X : RowD, W.cell? ((a.add (i * 1)).add 0) = some (.slice X.1 X.2.1.length X.2.2) ∧ NumsAt W X.1 X.2.1 ∧ X.2.1.length ≤ X.2.2 := fun i hi => by
      have he := hc i hi
      rw [cellsIntsD, List.getElem?_eq_getElem (by omega)] at he
      obtain ⟨cs, hcs, ht⟩ := Option.bind_eq_some_iff.1 he
      obtain ⟨_, hl, hg⟩ := World.cells?_some hcs
      obtain ⟨c0, rfl⟩ := list1Q hl
      obtain ⟨so, l, sc, rfl, hI, hsc⟩ := open_intsQ ht
      exact ⟨(so, l, sc), by rw [hg 0 (by omega)]; rfl, hI.1.1, hsc⟩
    obtain ⟨rs, hrl, hrs⟩ := list_ofQ len hall
    subst hrl
    refine ⟨some a, rs, cap, rfl, fun hn => ?_, fun y hy => by
      obtain ⟨i, hi⟩ := List.getElem?_of_mem hy
      exact (hrs i y hi).2⟩
    have h0 := (hrs 0 _ (List.getElem?_eq_getElem hn)).1
    obtain ⟨g, off, spot⟩ := a
    have hspot : spot = none := by simpa [Addr.add] using World.cell?_spot h0
    subst hspot
    refine ⟨g, off, rfl, fun j x hx => ?_⟩
    have c0 := (hrs j x hx).1
    rwa [add_atQ2, add_atQ2, Nat.mul_one, Nat.add_zero] at c0
theorem open_machD {fuel : Nat} {cs : List Value} {x : DataW H × List MemPlace} (h : DataW.trod enc Tryz.prog W 0 (fun _ => true) true fuel 28 cs = some x) :
    ∃ (m : MachX), cs = [.slice m.no m.rows.length m.nc, .slice m.fo m.fits.length m.fc] ∧ MachD W m ∧ RoomM m := by
  obtain ⟨y0, y1, n, _, hl, h0, h1⟩ := trod_struct2 Tryz.underlying28 h
  rw [cellsMachD] at hl
  obtain ⟨k0, k1, rfl⟩ := list2Q hl
  change DataW.trod enc Tryz.prog W 0 (fun _ => true) true n 25 (List.take (Tryz.prog.cellsOf 25) (List.drop 0 [k0, k1])) = _ at h0
  change DataW.trod enc Tryz.prog W 0 (fun _ => true) true n 26 (List.take (Tryz.prog.cellsOf 26) (List.drop 1 [k0, k1])) = _ at h1
  rw [cellsRowsD] at h0
  rw [cellsI64sD] at h1
  obtain ⟨no, rows, nc, rfl, hR, hY⟩ := open_rowsD (v := k0) h0
  obtain ⟨fo, fits, fc, rfl, hF, hfc⟩ := open_i64sD (v := k1) h1
  exact ⟨⟨no, rows, nc, fo, fits, fc⟩, rfl, ⟨hR, fun y hy => (hY y hy).1, hF⟩, hfc, fun y hy => (hY y hy).2⟩
end
end Go.Proofs.YtaoooocalpkhjaaGreatDoor
