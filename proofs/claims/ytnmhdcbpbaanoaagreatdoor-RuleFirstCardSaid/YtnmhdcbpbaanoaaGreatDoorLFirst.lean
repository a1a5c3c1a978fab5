/- RuleFirst: a place is a boundary just if the first rule that applies says so, or none does. -/
import Derived.Test.YtnmhdcbpbaanoaaGreatDoorBunA25
namespace Go.Proofs.YtnmhdcbpbaanoaaGreatDoor
open Go.RowKit Go.Shelf Go.Maps
attribute [local go_sem] Oper.semAt_some
attribute [local go_sem ↓] app_hide

theorem mem_takeJ {C : List Int} {p : Nat} {y a : Int} (h : C[p]? = some y) : decide (a ∈ C.take (p + 1)) = (decide (a ∈ C.take p) || decide (y = a)) := by
  rw [List.take_add_one, h, ← Bool.decide_or]
  exact decide_eq_decide.2 (by simp [eq_comm])
set_option maxRecDepth 100000 in
set_option maxHeartbeats 4000000 in
theorem ruleFirst_anyL (o lo : Option Addr) (l : List RulX) (cap lcap : Nat) (L : List Int) (a : Int) (w : World) (aU aS : Addr) (hQ : GlobQ w aU aS) (hG : KGlob w) {m : Int} (hMx : w.cell? ⟨3, 0, none⟩ = some (.int .i64 m)) (hA : AtC w o l) (hI : ItsC w l) (hL : ListJ w lo L lcap) :
    Calls Tryz.prog 6 #[.slice o l.length cap, .slice lo L.length lcap, .int .i64 a] w fun e w' => e = .returned (.bool true) ∧ Below w.heap.size w w' := by
  obtain ⟨P, hP⟩ : ∃ P, (fun (e : Ending) (w' : World) => e = .returned (.bool true) ∧ Below w.heap.size w w') = P := ⟨_, rfl⟩
  have HP := Lib.hid hP
  rw [hP]
  have HPP : Hid (∀ W, Below w.heap.size w W → P (.returned (.bool true)) W) := by rw [← HP.out]; exact Lib.hid fun W h => ⟨rfl, h⟩
  have HSH := Lib.hid (shownJ_any w aU aS hQ hG hMx)
  have HLI := Lib.hid (fun W => list_anyJ lo L.length lcap hL.le W)
  have hl30 : (L.take 30).length = min L.length 30 := by rw [List.length_take]; omega
  have HLL := Lib.hid (fun W (hb : Below w.heap.size w W) => (listJ_take hL 30).below hb)
  rw [← hl30] at HLI
  obtain ⟨Lk, hLk⟩ : ∃ q, L.take 30 = q := ⟨_, rfl⟩
  rw [hLk] at HLI HLL hl30
  have hlk : Lk.length ≤ 30 := by rw [hl30]; omega
  have HFW := Lib.hid (fun W (hb : Below w.heap.size w W) => Few_anyJ o l cap W (hA.below hb) (hI.below hb))
  have HIF := Lib.hid (itsC_few hI)
  have HFF := Lib.hid (fewC_few l)
  have hfl := fewL_len l
  obtain ⟨F, hF⟩ : ∃ q, fewL l = q := ⟨_, rfl⟩
  rw [hF] at HFW HIF HFF hfl
  obtain ⟨nl, hnl⟩ : ∃ q, l.length = q := ⟨_, rfl⟩
  rw [hnl] at HFW ⊢
  have HGW := Lib.hid (fun W (hb : Below w.heap.size w W) => hG.below hb)
  obtain ⟨ll, hll⟩ : ∃ q, L.length = q := ⟨_, rfl⟩
  rw [hll] at HLI ⊢
  clear hP hQ hG hMx hA hI hL hl30 hLk hF hnl hll HP
  go_enter Tryz.func6, Tryz.ntmps6
  go_wp2_with fail
  refine HSH.out.mono ?_
  rintro e w1 ⟨rfl, b1⟩
  have HB1 := Lib.hid b1
  clear b1
  go_wp2_with fail
  refine (HFW.out w1 HB1.out).mono ?_
  rintro e w2 ⟨o2, c2, rfl, ho, b2⟩
  have HB2 := Lib.hid (HB1.out.trans (b2.mono HB1.out.size))
  have HAF := Lib.hid (atC_own ho rfl)
  have HIW := Lib.hid (HIF.out.below HB2.out)
  have HLJ := Lib.hid (HLL.out w2 HB2.out)
  have K1 := Lib.hid (CutsJ_any o2 lo F c2 lcap Lk (by omega) (by omega) HFF.out w2 (HGW.out w2 HB2.out) HAF.out HIW.out HLJ.out)
  have K2 := Lib.hid (fun W (hb : Below w2.heap.size w2 W) => DecideJ_any o2 lo F c2 lcap Lk a (by omega) (by omega) HFF.out W (HAF.out.below hb) (HIW.out.below hb) (HLJ.out.below hb))
  unfold CutsQ at K1
  have HAPP := Lib.hid (fun (x : RulX) (hx : x ∈ F) W (hb : Below w2.heap.size w2 W) => AppliesJ_any x lo lcap Lk a (by omega) (fun z hz => HFF.out z (by rw [List.mem_singleton.1 hz]; exact hx)) W (fun z hz => (HIW.out.below hb) z (by rw [List.mem_singleton.1 hz]; exact hx)) (HLJ.out.below hb))
  have HDW := Lib.hid (fun h => decide_wrong (l := F.map plX) (L := Lk) (a := a) h)
  have HPI := Lib.hid (place_iff Lk a)
  have hcl : (cutsV (F.map plX) Lk).length ≤ 32 := by
    unfold cutsV
    split
    · rw [← cutsW_eq, List.length_map]
      have := cutsW_len (F.map plX) Lk
      omega
    · simp
  obtain ⟨nf, hnf⟩ : ∃ q, F.length = q := ⟨_, rfl⟩
  have HNF := Lib.hid hnf
  rw [hnf] at hfl K1 K2 ⊢
  obtain ⟨nk, hnk⟩ : ∃ q, Lk.length = q := ⟨_, rfl⟩
  rw [hnk] at hlk K1 K2 HLI HPI HAPP
  have HLI2 := Lib.hid (HLI.out w2)
  obtain ⟨r, hr⟩ : ∃ q, rightsU (F.map plX) 32 = q := ⟨_, rfl⟩
  have HR := Lib.hid hr
  have HDU : Hid (r = true → placeU Lk a = true → decideU (F.map plX) Lk a = firstU Lk a (F.map plX) 0 ∧ cutsV (F.map plX) Lk = cutsU (F.map plX) Lk ∧ cutsE (F.map plX) = 0) := Lib.hid fun h1 h2 => by
    unfold decideU cutsV cutsE
    rw [hr, h1, h2]
    exact ⟨rfl, rfl, rfl⟩
  have HCE : Hid (r = false → cutsE (F.map plX) = 90) := Lib.hid fun h => by unfold cutsE; rw [hr, h]; rfl
  have HCE2 : Hid (r = true → cutsE (F.map plX) = 0) := Lib.hid fun h => by unfold cutsE; rw [hr, h]; rfl
  rw [hr] at HDW
  obtain ⟨⟨q1, q2⟩, hq⟩ : ∃ q, decideU (F.map plX) Lk a = q := ⟨_, rfl⟩
  obtain ⟨C, hC⟩ : ∃ q, cutsV (F.map plX) Lk = q := ⟨_, rfl⟩
  obtain ⟨ce, hCC⟩ : ∃ q, cutsE (F.map plX) = q := ⟨_, rfl⟩
  rw [hq] at K2 HDW HDU
  rw [hC] at K1 HDU hcl
  rw [hCC] at K1 HDU HCE HCE2
  simp only at K2
  obtain ⟨nc, hnc⟩ : ∃ q, C.length = q := ⟨_, rfl⟩
  have HNC := Lib.hid hnc
  rw [hnc] at K1 hcl
  clear ho b2 hq hC hCC hnf hnk hnc hr HLI HLL HFW HSH HIW HLJ HIF HFF HGW
  go_wp2_with fail
  refine HLI2.out.mono ?_
  rintro e _ ⟨rfl, rfl⟩
  go_wp2_with fail
  refine K1.out.mono ?_
  rintro e w3 ⟨oa, ca, rfl, na, _, b3⟩
  have HNA0 := Lib.hid na
  have HB3 := Lib.hid b3
  have K2' := Lib.hid (K2.out w3 b3)
  clear b3 na K1 K2
  go_wp2_with fail
  refine K2'.out.mono ?_
  rintro e w4 ⟨rfl, b4⟩
  have HNA := Lib.hid (HNA0.out.below b4)
  have HB4 := Lib.hid (HB3.out.trans (b4.mono HB3.out.size))
  have HQ := Lib.hid (HPP.out w4 (HB2.out.trans (HB4.out.mono HB2.out.size)))
  clear b4 K2' HNA0
  cases r with
  | false =>
    obtain ⟨rfl, rfl⟩ : q1 = false ∧ q2 = -1 := by simpa using HDW.out (.inl rfl)
    obtain rfl := HCE.out rfl
    clear HDU HCE HCE2 HDW HPI
    go_wp2_with fail
    exact HQ.out
  | true =>
    obtain rfl := HCE2.out rfl
    by_cases h3 : a ≤ 0
    · obtain ⟨rfl, rfl⟩ : q1 = false ∧ q2 = -1 := by simpa using HDW.out (.inr (by cases pl : placeU Lk a with | false => rfl | true => exact absurd (HPI.out.1 pl).1 (by omega)))
      have e3 : decide (a ≤ 0) = true := decide_eq_true h3
      clear HDU HCE HCE2 HDW HPI
      go_wp2_with fail
      exact HQ.out
    have e3 : decide (a ≤ 0) = false := decide_eq_false h3
    by_cases h4 : ((nk : Nat) : Int) ≤ a
    · obtain ⟨rfl, rfl⟩ : q1 = false ∧ q2 = -1 := by simpa using HDW.out (.inr (by cases pl : placeU Lk a with | false => rfl | true => exact absurd (HPI.out.1 pl).2 (by omega)))
      have e4 : decide (((nk : Nat) : Int) ≤ a) = true := decide_eq_true h4
      clear HDU HCE HCE2 HDW HPI
      go_wp2_with fail
      exact HQ.out
    have e4 : decide (((nk : Nat) : Int) ≤ a) = false := decide_eq_false h4
    have hpl : placeU Lk a = true := HPI.out.2 ⟨by omega, by omega⟩
    obtain ⟨hd, hcu, _⟩ := HDU.out rfl hpl
    have HD := Lib.hid hd
    have HIN : Hid (decide (a ∈ C) = q1) := Lib.hid (by
      have h := mem_cuts (l := F.map plX) hpl
      rw [← hcu, ← hd] at h
      cases q1 with
      | true => exact decide_eq_true (h.2 rfl)
      | false => exact decide_eq_false (fun hm => by have := h.1 hm; cases this))
    have HRS := Lib.hid (fun (x : RulX) (hx : x ∈ F) => applies_right (L := Lk) HR.out hpl (List.mem_map_of_mem (f := plX) hx))
    clear hd hcu hpl HDU HCE HCE2 HDW HPI HR h3 h4
    go_wp2_with fail
    go_loopg [12, 13, 14] nf (fun k v12 v13 v14 wr => ∃ (j : Nat) (z : Int), j ≤ nf ∧ k = j ∧ v14 = .int .i64 z ∧ z = ((j : Nat) : Int) - 1 ∧ v12 = .bool (firstU Lk a ((F.map plX).drop j) j).1 ∧ v13 = .int .i64 (firstU Lk a ((F.map plX).drop j) j).2 ∧ Hid (Below w4.heap.size w4 wr))
    case atStart =>
      have hdn : (F.map plX).drop nf = [] := List.drop_eq_nil_of_le (by rw [List.length_map, HNF.out]; exact Nat.le_refl _)
      exact ⟨nf, _, Nat.le_refl _, rfl, rfl, by omega, by rw [hdn]; rfl, by rw [hdn]; rfl, Lib.hid (Below.refl _ _)⟩
    case round =>
      obtain ⟨j, z, hj, rfl, rfl, hz, rfl, rfl, HB⟩ := hrel
      cases gk with
      | zero =>
        obtain rfl : z = -1 := by omega
        rw [List.drop_zero, ← HD.out]
        simp only
        clear hz
        go_wp2_with fail
        go_loopg [15, 16] nc (fun k v15 v16 wq => ∃ (p : Nat), p ≤ nc ∧ k = nc - p ∧ v16 = .int .i64 (p : Nat) ∧ v15 = .bool (decide (a ∈ C.take p)) ∧ Hid (Below w4.heap.size w4 wq))
        case atStart => exact ⟨0, Nat.zero_le _, rfl, rfl, by simp, HB⟩
        case round =>
          obtain ⟨p, hp, rfl, rfl, rfl, HBq⟩ := hrel
          rcases Nat.lt_or_ge p nc with hlt | hge
          · have d1 : decide (((p : Nat) : Int) < ((nc : Nat) : Int)) = true := decide_eq_true (by omega)
            obtain ⟨y, hy⟩ : ∃ y, C[p]? = some y := ⟨_, List.getElem?_eq_getElem (by rw [HNC.out]; exact hlt)⟩
            obtain ⟨g, off, rfl, hc⟩ := HNA.out (by rw [HNC.out]; omega)
            have t0 := cell_keepQ HBq.out (hc p y hy)
            have HMT := Lib.hid (mem_takeJ (a := a) hy)
            have hpm : p < 1000000 := by omega
            clear hc hy
            obtain ⟨b, hb⟩ : ∃ b, decide (a ∈ C.take p) = b := ⟨_, rfl⟩
            rw [hb] at HMT ⊢
            clear hb
            cases b with
            | true =>
              go_wp2_with fail
              go_roundg (nc - (p + 1))
              case measure => omega
              case rel => exact ⟨p + 1, by omega, rfl, by simp, by rw [HMT.out]; rfl, HBq⟩
            | false =>
              obtain ⟨q, hq⟩ : ∃ q, decide (y = a) = q := ⟨_, rfl⟩
              have HMQ := Lib.hid (show decide (a ∈ C.take (p + 1)) = q by rw [HMT.out, Bool.false_or]; exact hq)
              clear HMT
              go_wp2_with fail
              go_roundg (nc - (p + 1))
              case measure => omega
              case rel => exact ⟨p + 1, by omega, rfl, by simp, by rw [HMQ.out]; exact congrArg Value.bool hq, HBq⟩
          · obtain rfl : p = nc := by omega
            have d1 : decide (((p : Nat) : Int) < ((p : Nat) : Int)) = false := decide_eq_false (by omega)
            have hin : decide (a ∈ C.take p) = q1 := by rw [List.take_of_length_le (by rw [HNC.out]; exact Nat.le_refl _)]; exact HIN.out
            rw [hin]
            have HQ2 := Lib.hid (HPP.out _ (HB2.out.trans ((HB4.out.trans (HBq.out.mono HB4.out.size)).mono HB2.out.size)))
            clear hin
            cases q1 <;> (go_wp2_with fail; exact HQ2.out)
      | succ i =>
        obtain rfl : z = ((i : Nat) : Int) := by omega
        have d1 : decide ((0 : Int) ≤ ((i : Nat) : Int)) = true := decide_eq_true (by omega)
        have hw : IntKind.i64.wrap (((i : Nat) : Int) - 1) = ((i : Nat) : Int) - 1 := wrap_id (by omega) (by omega)
        have hlt : i < nf := by omega
        obtain ⟨x, hx⟩ : ∃ x, F[i]? = some x := ⟨_, List.getElem?_eq_getElem (by rw [HNF.out]; exact hlt)⟩
        have hxm := List.mem_of_getElem? hx
        have hfb := first_back (L := Lk) (a := a) (l := F.map plX) (j := i) (x := plX x) (by rw [List.getElem?_map, hx]; rfl)
        have hb2 := HB4.out.trans (HB.out.mono HB4.out.size)
        obtain ⟨g, off, rfl, hc⟩ := HAF.out (by rw [HNF.out]; omega)
        obtain ⟨u0, u1, u2, u3, u4⟩ := hc i x hx
        have t0 := cell_keepQ hb2 u0
        have t1 := cell_keepQ hb2 u1
        have t2 := cell_keepQ hb2 u2
        have t3 := cell_keepQ hb2 u3
        have t4 := cell_keepQ hb2 u4
        have K := HAPP.out x hxm wr hb2
        rw [HRS.out x hxm] at K
        obtain ⟨s, hs⟩ : ∃ s, sideU Lk a (plX x) = s := ⟨_, rfl⟩
        rw [hs] at K hfb
        have hlt2 := World.block_lt_of_cell? wr _ t0
        obtain ⟨⟨s1, p1, xs1, k1⟩, ⟨s2, p2, xs2, k2⟩, br⟩ := x
        replace K : Calls Tryz.prog 18 #[.agg #[.bool s1, .slice p1 xs1.length k1, .bool s2, .slice p2 xs2.length k2, .bool br], .slice lo nk lcap, .int .i64 a] wr fun e w' => e = .returned (.bool s) ∧ Below wr.heap.size wr w' := K
        simp only at t0 t1 t2 t3 t4
        obtain ⟨m1, hm1⟩ : ∃ k, xs1.length = k := ⟨_, rfl⟩
        obtain ⟨m2, hm2⟩ : ∃ k, xs2.length = k := ⟨_, rfl⟩
        simp only [hm1, hm2] at K t1 t3
        have HK := Lib.hid K
        have HFB := Lib.hid hfb
        have HT4 := Lib.hid t4
        have him : i < 1000000 := by omega
        clear hc hx hxm hb2 u0 u1 u2 u3 u4 K hs hm1 hm2 hz hfb
        go_wp2_with fail
        refine HK.out.mono ?_
        rintro e wn ⟨rfl, bn⟩
        have HBn := Lib.hid (HB.out.trans (bn.mono HB.out.size))
        have v4 := cell_keepQ bn HT4.out
        clear bn t0 t1 t2 t3 t4 HK HB
        cases s with
        | true =>
          go_wp2_with fail
          go_roundg (i)
          case measure => omega
          case rel => exact ⟨i, _, by omega, rfl, rfl, rfl, by rw [HFB.out]; rfl, by rw [HFB.out]; rfl, HBn⟩
        | false =>
          go_wp2_with fail
          go_roundg (i)
          case measure => omega
          case rel => exact ⟨i, _, by omega, rfl, rfl, rfl, by rw [HFB.out]; rfl, by rw [HFB.out]; rfl, HBn⟩
/-- The same, as its card wants it. -/
theorem ruleFirst_card (l : List RulX) (o : Option Addr) (cap : Nat) (L : List Int) (lo : Option Addr) (lcap : Nat) (a : Int) (_h0 : l.length ≤ cap) (h1 : L.length ≤ lcap) (w : World) (aU aS : Addr) (hQ : GlobQ w aU aS) (hG : KGlob w) (hS : w.ShapedOpen Tryz.prog) (A0 : AtC w o l ∧ ItsC w l) (A1 : NumsInQ w lo L ∧ (lo = none → lcap = 0) ∧ ∀ p, lo = some p → 0 < lcap → p.spot = none) :
    Calls Tryz.prog 6 #[.slice o l.length cap, .slice lo L.length lcap, .int .i64 a] w fun e w' => e = .returned (.bool true) ∧ Below w.heap.size w w' := by
  obtain ⟨m, hMx⟩ := mx_shapedJ hS
  exact ruleFirst_anyL o lo l cap lcap L a w aU aS hQ hG hMx A0.1 A0.2 ⟨A1.1.1, h1, A1.2.1, A1.2.2⟩
end Go.Proofs.YtnmhdcbpbaanoaaGreatDoor
