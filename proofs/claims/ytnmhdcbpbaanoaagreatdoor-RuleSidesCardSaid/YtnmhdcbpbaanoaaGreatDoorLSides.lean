/- RuleSides: a rule applies just where its sides fit. -/
import Derived.Test.YtnmhdcbpbaanoaaGreatDoorBunA25
import Derived.Deep.RegionHeld3
namespace Go.Proofs.YtnmhdcbpbaanoaaGreatDoor
open Go.RowKit Go.Shelf Go.Maps
attribute [local go_sem] Oper.semAt_some

theorem applies_sides {x : RuleP} {L : List Int} {a : Int} (hs : x.2.1.1 = false) (h0 : 1 ≤ a) (h1 : a < ((L.length : Nat) : Int)) : appliesU x L a = (behindA x.1.1 x.1.2 L a && aheadA x.2.1.1 x.2.1.2 L a) := by
  have hb : behindA x.1.1 x.1.2 L a = true → rightB x.1.2 32 = true := fun h => by
    unfold behindA at h
    simp only [Bool.and_eq_true] at h
    simp_all
  have hc : aheadA x.2.1.1 x.2.1.2 L a = true → rightB x.2.1.2 32 = true := fun h => by
    unfold aheadA at h
    simp only [Bool.and_eq_true] at h
    simp_all
  unfold appliesU rightU placeU sideU
  rw [decide_eq_true h0, decide_eq_true h1, hs]
  rw [hs] at hc
  cases h3 : behindA x.1.1 x.1.2 L a <;> cases h4 : aheadA false x.2.1.2 L a <;> simp_all
theorem applies_not {x : RuleP} {L : List Int} {a : Int} (hs : x.2.1.1 = true) : appliesU x L a = false := by
  unfold appliesU rightU
  rw [hs]
  simp
set_option maxRecDepth 100000 in
set_option maxHeartbeats 4000000 in
theorem ruleSides_anyL (o lo : Option Addr) (l : List RulX) (cap lcap : Nat) (L : List Int) (a n : Int) (w : World) (aU aS : Addr) (hQ : GlobQ w aU aS) (hG : KGlob w) {m : Int} (hMx : w.cell? ⟨3, 0, none⟩ = some (.int .i64 m)) (hA : AtC w o l) (hI : ItsC w l) (hL : ListJ w lo L lcap) :
    Calls Tryz.prog 7 #[.slice o l.length cap, .slice lo L.length lcap, .int .i64 a, .int .i64 n] w fun e w' => e = .returned (.bool true) ∧ Below w.heap.size w w' := by
  obtain ⟨P, hP⟩ : ∃ P, (fun (e : Ending) (w' : World) => e = .returned (.bool true) ∧ Below w.heap.size w w') = P := ⟨_, rfl⟩
  have HP := Lib.hid hP
  rw [hP]
  have HPP : Hid (∀ W, Below w.heap.size w W → P (.returned (.bool true)) W) := by rw [← HP.out]; exact Lib.hid fun W h => ⟨rfl, h⟩
  have HSH := Lib.hid (shownJ_any w aU aS hQ hG hMx)
  have HFW := Lib.hid (fun W (hb : Below w.heap.size w W) => Few_anyJ o l cap W (hA.below hb) (hI.below hb))
  have HLI := Lib.hid (fun W => list_anyJ lo L.length lcap hL.le W)
  have hl30 : (L.take 30).length = min L.length 30 := by rw [List.length_take]; omega
  have HLL := Lib.hid (fun W (hb : Below w.heap.size w W) => (listJ_take hL 30).below hb)
  have HIF := Lib.hid (itsC_few hI)
  have HFF := Lib.hid (fewC_few l)
  have hfl := fewL_len l
  rw [← hl30] at HLI
  obtain ⟨Lk, hLk⟩ : ∃ q, L.take 30 = q := ⟨_, rfl⟩
  rw [hLk] at HLI HLL hl30
  have hlk : Lk.length ≤ 30 := by rw [hl30]; omega
  obtain ⟨F, hF⟩ : ∃ q, fewL l = q := ⟨_, rfl⟩
  rw [hF] at HFW HIF HFF hfl
  obtain ⟨ll, hll⟩ : ∃ q, L.length = q := ⟨_, rfl⟩
  obtain ⟨nl, hnl⟩ : ∃ q, l.length = q := ⟨_, rfl⟩
  rw [hnl] at HFW ⊢
  rw [hll] at HLI ⊢
  clear hP hQ hG hMx hA hI hL hl30 hLk hF hll hnl HP
  go_enter Tryz.func7, Tryz.ntmps7
  go_wp2_with fail
  refine HSH.out.mono ?_
  rintro e w1 ⟨rfl, b1⟩
  have HB1 := Lib.hid b1
  clear b1
  go_wp2_with fail
  refine (HFW.out w1 HB1.out).mono ?_
  rintro e w2 ⟨o2, c2, rfl, ho, b2⟩
  have HB2 := Lib.hid (HB1.out.trans (b2.mono HB1.out.size))
  have HAF := Lib.hid (atC_own ho rfl)
  have HIW := Lib.hid (HIF.out.below HB2.out)
  obtain ⟨nf, hnf⟩ : ∃ q, F.length = q := ⟨_, rfl⟩
  have HNF := Lib.hid hnf
  rw [hnf] at hfl ⊢
  clear ho b2 hnf HSH HFW
  go_wp2_with fail
  refine (HLI.out w2).mono ?_
  rintro e _ ⟨rfl, rfl⟩
  have HLJ := Lib.hid (HLL.out w2 HB2.out)
  obtain ⟨nk, hnk⟩ : ∃ q, Lk.length = q := ⟨_, rfl⟩
  have HNK := Lib.hid hnk
  rw [hnk] at hlk ⊢
  have HQ2 := Lib.hid (HPP.out w2 HB2.out)
  clear hnk HLI HLL
  by_cases h1 : n < 0
  · have e1 : decide (n < 0) = true := decide_eq_true h1
    go_wp2
    exact HQ2.out
  have e1 : decide (n < 0) = false := decide_eq_false h1
  by_cases h2 : ((nf : Nat) : Int) ≤ n
  · have e2 : decide (((nf : Nat) : Int) ≤ n) = true := decide_eq_true h2
    go_wp2
    exact HQ2.out
  have e2 : decide (((nf : Nat) : Int) ≤ n) = false := decide_eq_false h2
  by_cases h3 : a ≤ 0
  · have e3 : decide (a ≤ 0) = true := decide_eq_true h3
    go_wp2
    exact HQ2.out
  have e3 : decide (a ≤ 0) = false := decide_eq_false h3
  by_cases h4 : ((nk : Nat) : Int) ≤ a
  · have e4 : decide (((nk : Nat) : Int) ≤ a) = true := decide_eq_true h4
    go_wp2
    exact HQ2.out
  have e4 : decide (((nk : Nat) : Int) ≤ a) = false := decide_eq_false h4
  obtain ⟨j, rfl⟩ : ∃ j : Nat, n = (j : Nat) := ⟨n.toNat, by omega⟩
  have hj : j < nf := by omega
  have hj1 : j < 1000000 := by omega
  obtain ⟨x, hx⟩ : ∃ x, F[j]? = some x := ⟨_, List.getElem?_eq_getElem (by rw [HNF.out]; exact hj)⟩
  obtain ⟨g, off, rfl, hc⟩ := HAF.out (by rw [HNF.out]; omega)
  obtain ⟨d0, d1, d2, d3, d4⟩ := hc j x hx
  have hgw := World.block_lt_of_cell? w2 _ d0
  have hxm := List.mem_of_getElem? hx
  obtain ⟨w3, hw3⟩ : ∃ w3, w2.alloc (rulO x) = w3 := ⟨_, rfl⟩
  have b3 : Below w2.heap.size w2 w3 := by rw [← hw3]; exact (Below.refl _ _).alloc (Nat.le_refl _) _
  have r3 : w3.heap[w2.heap.size]? = some (rulO x) := by rw [← hw3]; exact heap_alloc_new _ _
  have HB3 := Lib.hid (HB2.out.trans (b3.mono HB2.out.size))
  have hix : ItsC w3 [x] := fun z hz => (HIW.out.below b3) z (by rw [List.mem_singleton.1 hz]; exact hxm)
  have hfx : FewC [x] := fun z hz => HFF.out z (by rw [List.mem_singleton.1 hz]; exact hxm)
  have hlj := HLJ.out.below b3
  have KA := Lib.hid (fun W (hb : Below w3.heap.size w3 W) => AppliesJ_any x lo lcap Lk a (by rw [HNK.out]; omega) hfx W (hix.below hb) (hlj.below hb))
  obtain ⟨⟨i1, l1⟩, i2, l2⟩ := hix x (by simp)
  obtain ⟨f1, f2⟩ := hfx x (by simp)
  have KB := Lib.hid (fun W (hb : Below w3.heap.size w3 W) => Behind_anyQ x.1.1 x.1.2.1 lo x.1.2.2.1 Lk x.1.2.2.2 lcap a f1 (by rw [HNK.out]; omega) hlj.le W (i1.below hb) (hlj.at_.below hb))
  have KD := Lib.hid (fun W (hb : Below w3.heap.size w3 W) => Ahead_anyQ x.2.1.1 x.2.1.2.1 lo x.2.1.2.2.1 Lk x.2.1.2.2.2 lcap a f2 (by rw [HNK.out]; omega) hlj.le hlj.nil hlj.spot W (i2.below hb) (hlj.at_.below hb))
  have HSD := Lib.hid (fun hs : x.2.1.1 = false => applies_sides (x := plX x) (L := Lk) (a := a) hs (by omega) (by rw [HNK.out]; omega))
  have HND := Lib.hid (fun hs : x.2.1.1 = true => applies_not (x := plX x) (L := Lk) (a := a) hs)
  rw [HNK.out] at KA KB KD
  obtain ⟨⟨s1, p1, xs1, k1⟩, ⟨s2, p2, xs2, k2⟩, br⟩ := x
  simp only at KB KD HSD HND
  replace KA : Hid (∀ W, Below w3.heap.size w3 W → Calls Tryz.prog 18 #[.agg #[.bool s1, .slice p1 xs1.length k1, .bool s2, .slice p2 xs2.length k2, .bool br], .slice lo nk lcap, .int .i64 a] W fun e w' => e = .returned (.bool (appliesU (plX ((s1, p1, xs1, k1), (s2, p2, xs2, k2), br)) Lk a)) ∧ Below W.heap.size W w') := KA
  replace hw3 : w2.alloc (.cells #[.bool s1, .slice p1 xs1.length k1, .bool s2, .slice p2 xs2.length k2, .bool br] 37) = w3 := hw3
  replace r3 : w3.heap[w2.heap.size]? = some (.cells #[.bool s1, .slice p1 xs1.length k1, .bool s2, .slice p2 xs2.length k2, .bool br] 37 (0, 0)) := r3
  obtain ⟨m1, hm1⟩ : ∃ k, xs1.length = k := ⟨_, rfl⟩
  obtain ⟨m2, hm2⟩ : ∃ k, xs2.length = k := ⟨_, rfl⟩
  simp only [hm1, hm2] at KA KB KD d1 d3 hw3 r3
  obtain ⟨t0, t1, t2, t3, t4⟩ := five_cells r3
  have HR3 := Lib.hid r3
  clear hc hx hxm b3 r3 hix hfx hlj i1 l1 i2 l2 f1 f2 hm1 hm2 HAF HIW HIF HFF HLJ HQ2 h1 h2 h3 h4
  cases s2 with
  | true =>
    have hn := HND.out rfl
    rw [hn] at KA
    have HC := Lib.hid (KA.out w3 (Below.refl _ _))
    clear hn KA KB KD HSD HND
    go_wp2_with fail
    refine HC.out.mono ?_
    rintro e w4 ⟨rfl, b4⟩
    have HQ4 := Lib.hid (HPP.out w4 (HB3.out.trans (b4.mono HB3.out.size)))
    clear b4
    go_wp2_with fail
    exact HQ4.out
  | false =>
    have hs := HSD.out rfl
    rw [hs] at KA
    obtain ⟨u, hu⟩ : ∃ u, behindA s1 xs1 Lk a = u := ⟨_, rfl⟩
    obtain ⟨v, hv⟩ : ∃ v, aheadA false xs2 Lk a = v := ⟨_, rfl⟩
    simp only [hu, hv] at KA KB KD
    clear hs hu hv HSD HND
    have HSS : Hid (∀ W, Below w3.heap.size w3 W → (W.cell? ⟨w2.heap.size, 0, none⟩ = some (.bool s1) ∧ W.cell? ⟨w2.heap.size, 1, none⟩ = some (.slice p1 m1 k1) ∧ W.cell? ⟨w2.heap.size, 2, none⟩ = some (.bool false) ∧ W.cell? ⟨w2.heap.size, 3, none⟩ = some (.slice p2 m2 k2) ∧ W.cell? ⟨w2.heap.size, 4, none⟩ = some (.bool br) ∧ Below w3.heap.size w3 W)) := Lib.hid fun W hb => by
      obtain ⟨q0, q1, q2, q3, q4⟩ := five_cells (row_below HR3.out hb)
      exact ⟨q0, q1, q2, q3, q4, hb⟩
    have KA2 : Hid (∀ W, (W.cell? ⟨w2.heap.size, 0, none⟩ = some (.bool s1) ∧ W.cell? ⟨w2.heap.size, 1, none⟩ = some (.slice p1 m1 k1) ∧ W.cell? ⟨w2.heap.size, 2, none⟩ = some (.bool false) ∧ W.cell? ⟨w2.heap.size, 3, none⟩ = some (.slice p2 m2 k2) ∧ W.cell? ⟨w2.heap.size, 4, none⟩ = some (.bool br) ∧ Below w3.heap.size w3 W) → Calls Tryz.prog 18 #[.agg #[.bool s1, .slice p1 m1 k1, .bool false, .slice p2 m2 k2, .bool br], .slice lo nk lcap, .int .i64 a] W fun e w' => e = .returned (.bool (u && v)) ∧ (w'.cell? ⟨w2.heap.size, 0, none⟩ = some (.bool s1) ∧ w'.cell? ⟨w2.heap.size, 1, none⟩ = some (.slice p1 m1 k1) ∧ w'.cell? ⟨w2.heap.size, 2, none⟩ = some (.bool false) ∧ w'.cell? ⟨w2.heap.size, 3, none⟩ = some (.slice p2 m2 k2) ∧ w'.cell? ⟨w2.heap.size, 4, none⟩ = some (.bool br) ∧ Below w3.heap.size w3 w')) := Lib.hid fun W hs => (KA.out W hs.2.2.2.2.2).mono (by
      rintro e w' ⟨rfl, b⟩
      exact ⟨rfl, HSS.out w' (hs.2.2.2.2.2.trans (b.mono hs.2.2.2.2.2.size))⟩)
    have KB2 : Hid (∀ W, (W.cell? ⟨w2.heap.size, 0, none⟩ = some (.bool s1) ∧ W.cell? ⟨w2.heap.size, 1, none⟩ = some (.slice p1 m1 k1) ∧ W.cell? ⟨w2.heap.size, 2, none⟩ = some (.bool false) ∧ W.cell? ⟨w2.heap.size, 3, none⟩ = some (.slice p2 m2 k2) ∧ W.cell? ⟨w2.heap.size, 4, none⟩ = some (.bool br) ∧ Below w3.heap.size w3 W) → Calls Tryz.prog 31 #[.agg #[.bool s1, .slice p1 m1 k1], .slice lo nk lcap, .int .i64 a] W fun e w' => e = .returned (.bool (u)) ∧ (w'.cell? ⟨w2.heap.size, 0, none⟩ = some (.bool s1) ∧ w'.cell? ⟨w2.heap.size, 1, none⟩ = some (.slice p1 m1 k1) ∧ w'.cell? ⟨w2.heap.size, 2, none⟩ = some (.bool false) ∧ w'.cell? ⟨w2.heap.size, 3, none⟩ = some (.slice p2 m2 k2) ∧ w'.cell? ⟨w2.heap.size, 4, none⟩ = some (.bool br) ∧ Below w3.heap.size w3 w')) := Lib.hid fun W hs => (KB.out W hs.2.2.2.2.2).mono (by
      rintro e w' ⟨rfl, b⟩
      exact ⟨rfl, HSS.out w' (hs.2.2.2.2.2.trans (b.mono hs.2.2.2.2.2.size))⟩)
    have KD2 : Hid (∀ W, (W.cell? ⟨w2.heap.size, 0, none⟩ = some (.bool s1) ∧ W.cell? ⟨w2.heap.size, 1, none⟩ = some (.slice p1 m1 k1) ∧ W.cell? ⟨w2.heap.size, 2, none⟩ = some (.bool false) ∧ W.cell? ⟨w2.heap.size, 3, none⟩ = some (.slice p2 m2 k2) ∧ W.cell? ⟨w2.heap.size, 4, none⟩ = some (.bool br) ∧ Below w3.heap.size w3 W) → Calls Tryz.prog 32 #[.agg #[.bool false, .slice p2 m2 k2], .slice lo nk lcap, .int .i64 a] W fun e w' => e = .returned (.bool (v)) ∧ (w'.cell? ⟨w2.heap.size, 0, none⟩ = some (.bool s1) ∧ w'.cell? ⟨w2.heap.size, 1, none⟩ = some (.slice p1 m1 k1) ∧ w'.cell? ⟨w2.heap.size, 2, none⟩ = some (.bool false) ∧ w'.cell? ⟨w2.heap.size, 3, none⟩ = some (.slice p2 m2 k2) ∧ w'.cell? ⟨w2.heap.size, 4, none⟩ = some (.bool br) ∧ Below w3.heap.size w3 w')) := Lib.hid fun W hs => (KD.out W hs.2.2.2.2.2).mono (by
      rintro e w' ⟨rfl, b⟩
      exact ⟨rfl, HSS.out w' (hs.2.2.2.2.2.trans (b.mono hs.2.2.2.2.2.size))⟩)
    have HD := HSS.out w3.drew (Below.refl _ _).drew
    have HFIN : Hid (∀ W, (W.cell? ⟨w2.heap.size, 0, none⟩ = some (.bool s1) ∧ W.cell? ⟨w2.heap.size, 1, none⟩ = some (.slice p1 m1 k1) ∧ W.cell? ⟨w2.heap.size, 2, none⟩ = some (.bool false) ∧ W.cell? ⟨w2.heap.size, 3, none⟩ = some (.slice p2 m2 k2) ∧ W.cell? ⟨w2.heap.size, 4, none⟩ = some (.bool br) ∧ Below w3.heap.size w3 W) → P (.returned (.bool true)) W) := Lib.hid fun W hs => HPP.out W (HB3.out.trans (hs.2.2.2.2.2.mono HB3.out.size))
    have hfol : Tryz.prog.follows .mixedOrders = true := by kernel_rfl
    clear KA KB KD HPP HSS
    have HD0 := HD
    cases u with
    | true =>
      go_wp2_with fail
      clear d0 d1 d2 d3 d4
      go_region_held3 (fun W => W.cell? ⟨w2.heap.size, 0, none⟩ = some (.bool s1) ∧ W.cell? ⟨w2.heap.size, 1, none⟩ = some (.slice p1 m1 k1) ∧ W.cell? ⟨w2.heap.size, 2, none⟩ = some (.bool false) ∧ W.cell? ⟨w2.heap.size, 3, none⟩ = some (.slice p2 m2 k2) ∧ W.cell? ⟨w2.heap.size, 4, none⟩ = some (.bool br) ∧ Below w3.heap.size w3 W) (first | assumption | exact HD | go_keep) (first | (go_at_call 18; refine (KA2.out _ (by first | assumption | exact HD | exact hg)).mono ?_; rintro e w' ⟨rfl, hg⟩) | (go_at_call 31; refine (KB2.out _ (by first | assumption | exact HD | exact hg)).mono ?_; rintro e w' ⟨rfl, hg⟩) | (go_at_call 32; refine (KD2.out _ (by first | assumption | exact HD | exact hg)).mono ?_; rintro e w' ⟨rfl, hg⟩))
      all_goals
        go_wp2
        exact HFIN.out _ hg
    | false =>
      go_wp2_with fail
      rw [Bool.false_and] at KA2
      clear d0 d1 d2 d3 d4 KD2 HD t0 t1 t2 t3 t4
      refine wp_region_held_drew (S := (fun W => W.cell? ⟨w2.heap.size, 0, none⟩ = some (.bool s1) ∧ W.cell? ⟨w2.heap.size, 1, none⟩ = some (.slice p1 m1 k1) ∧ W.cell? ⟨w2.heap.size, 2, none⟩ = some (.bool false) ∧ W.cell? ⟨w2.heap.size, 3, none⟩ = some (.slice p2 m2 k2) ∧ W.cell? ⟨w2.heap.size, 4, none⟩ = some (.bool br) ∧ Below w3.heap.size w3 W)) (by kernel_rfl) HD0 (fun hHeld => ?_)
      refine wpAnyH_take (i := 0) (v := ?_) rfl (by kernel_rfl) (by kernel_rfl) (by kernel_rfl) (fun _ _ _ h => h) (Or.inl ⟨by rfl, ?_⟩) hHeld ?_
      rotate_left 1
      · (intro w' hSw; (try dsimp only at hSw); first | (go_simp; done) | (go_simp; with_reducible rfl))
      change wpAnyH _ _ _ _ _ _ _ (Act.put _ (some 50) _) _
      simp only [Act.put, List.setIfInBounds_toArray, List.set_cons_zero, List.set_cons_succ]
      refine wpAnyH_take (i := 1) (v := ?_) rfl (by kernel_rfl) (by kernel_rfl) (by kernel_rfl) (fun _ _ _ h => h) (Or.inl ⟨by rfl, ?_⟩) hHeld ?_
      rotate_left 1
      · (intro w' hSw; (try dsimp only at hSw); first | (go_simp; done) | (go_simp; with_reducible rfl))
      change wpAnyH _ _ _ _ _ _ _ (Act.put _ (some 51) _) _
      simp only [Act.put, List.setIfInBounds_toArray, List.set_cons_zero, List.set_cons_succ]
      refine wpAnyH_take (i := 2) (v := ?_) rfl (by kernel_rfl) (by kernel_rfl) (by kernel_rfl) (fun _ _ _ h => h) (Or.inl ⟨by rfl, ?_⟩) hHeld ?_
      rotate_left 1
      · (intro w' hSw; (try dsimp only at hSw); first | (go_simp; done) | (go_simp; with_reducible rfl))
      change wpAnyH _ _ _ _ _ _ _ (Act.put _ (some 52) _) _
      simp only [Act.put, List.setIfInBounds_toArray, List.set_cons_zero, List.set_cons_succ]
      refine wpAnyH_take (i := 3) (v := ?_) rfl (by kernel_rfl) (by kernel_rfl) (by kernel_rfl) (fun _ _ _ h => h) (Or.inl ⟨by rfl, ?_⟩) hHeld ?_
      rotate_left 1
      · (intro w' hSw; (try dsimp only at hSw); first | (go_simp; done) | (go_simp; with_reducible rfl))
      change wpAnyH _ _ _ _ _ _ _ (Act.put _ (some 53) _) _
      simp only [Act.put, List.setIfInBounds_toArray, List.set_cons_zero, List.set_cons_succ]
      refine wpAnyH_take (i := 4) (v := ?_) rfl (by kernel_rfl) (by kernel_rfl) (by kernel_rfl) (fun _ _ _ h => h) (Or.inl ⟨by rfl, ?_⟩) hHeld ?_
      rotate_left 1
      · (intro w' hSw; (try dsimp only at hSw); first | (go_simp; done) | (go_simp; with_reducible rfl))
      change wpAnyH _ _ _ _ _ _ _ (Act.put _ (some 54) _) _
      simp only [Act.put, List.setIfInBounds_toArray, List.set_cons_zero, List.set_cons_succ]
      refine wpAnyH_take (i := 6) (v := ?_) rfl (by kernel_rfl) (by kernel_rfl) (by kernel_rfl) (fun _ _ _ h => h) (Or.inl ⟨by rfl, ?_⟩) hHeld ?_
      rotate_left 1
      · (intro w' hSw; (try dsimp only at hSw); first | (go_simp; done) | (go_simp; with_reducible rfl))
      change wpAnyH _ _ _ _ _ _ _ (Act.put _ (some 56) _) _
      simp only [Act.put, List.setIfInBounds_toArray, List.set_cons_zero, List.set_cons_succ]
      refine wpAnyH_take (i := 7) (v := ?_) rfl (by kernel_rfl) (by kernel_rfl) (by kernel_rfl) (fun _ _ _ h => h) (Or.inl ⟨by rfl, ?_⟩) hHeld ?_
      rotate_left 1
      · (intro w' hSw; (try dsimp only at hSw); first | (go_simp; done) | (go_simp; with_reducible rfl))
      change wpAnyH _ _ _ _ _ _ _ (Act.put _ (some 57) _) _
      simp only [Act.put, List.setIfInBounds_toArray, List.set_cons_zero, List.set_cons_succ]
      refine wpAnyH_take (i := 8) (v := ?_) rfl (by kernel_rfl) (by kernel_rfl) (by kernel_rfl) (fun _ _ _ h => h) (Or.inl ⟨by rfl, ?_⟩) hHeld ?_
      rotate_left 1
      · (intro w' hSw; (try dsimp only at hSw); first | (go_simp; done) | (go_simp; with_reducible rfl))
      change wpAnyH _ _ _ _ _ _ _ (Act.put _ (some 58) _) _
      simp only [Act.put, List.setIfInBounds_toArray, List.set_cons_zero, List.set_cons_succ]
      refine wpAnyH_take (i := 9) (v := ?_) rfl (by kernel_rfl) (by kernel_rfl) (by kernel_rfl) (fun _ _ _ h => h) (Or.inl ⟨by rfl, ?_⟩) hHeld ?_
      rotate_left 1
      · (intro w' hSw; (try dsimp only at hSw); first | (go_simp; done) | (go_simp; with_reducible rfl))
      change wpAnyH _ _ _ _ _ _ _ (Act.put _ (some 59) _) _
      simp only [Act.put, List.setIfInBounds_toArray, List.set_cons_zero, List.set_cons_succ]
      refine wpAnyH_ready (rs := [5]) (by kernel_rfl) (by simp) ?_
      refine AllReadyH.cons rfl (fun K hK => ?_) AllReadyH.nil
      go_simp
      refine (KA2.out _ hHeld).mono ?_
      rintro e w' ⟨rfl, hg⟩
      go_wp2_with fail
      refine hK.out _ _ hg (fun hHeld => ?_)
      clear hK K
      try simp only [Act.put, List.setIfInBounds_toArray, List.set_cons_zero, List.set_cons_succ]
      refine wpAnyH_ready (rs := [10]) (by kernel_rfl) (by simp) ?_
      refine AllReadyH.cons rfl (fun K hK => ?_) AllReadyH.nil
      go_simp
      refine (KB2.out _ hHeld).mono ?_
      rintro e w' ⟨rfl, hg⟩
      go_wp2_with fail
      refine hK.out _ _ hg (fun hHeld => ?_)
      clear hK K
      try simp only [Act.put, List.setIfInBounds_toArray, List.set_cons_zero, List.set_cons_succ]
      refine wpAnyH_take (i := 11) (v := ?_) rfl (by kernel_rfl) (by kernel_rfl) (by kernel_rfl) (fun _ _ _ h => h) (Or.inl ⟨by rfl, ?_⟩) hHeld ?_
      rotate_left 1
      · (intro w' hSw; (try dsimp only at hSw); first | (go_simp; done) | (go_simp; with_reducible rfl))
      change wpAnyH _ _ _ _ _ _ _ (Act.put _ (some 61) _) _
      simp only [Act.put, List.setIfInBounds_toArray, List.set_cons_zero, List.set_cons_succ]
      refine wpAnyH_take (i := 12) (v := undef) rfl (by kernel_rfl) (by kernel_rfl) (by kernel_rfl) (fun _ _ _ h => h) (Or.inr ⟨by rfl, rfl⟩) hHeld ?_
      change wpAnyH _ _ _ _ _ _ _ (Act.put _ (some 62) _) _
      simp only [Act.put, List.setIfInBounds_toArray, List.set_cons_zero, List.set_cons_succ]
      refine wpAnyH_take (i := 13) (v := undef) rfl (by kernel_rfl) (by kernel_rfl) (by kernel_rfl) (fun _ _ _ h => h) (Or.inr ⟨by rfl, rfl⟩) hHeld ?_
      change wpAnyH _ _ _ _ _ _ _ (Act.put _ (some 63) _) _
      simp only [Act.put, List.setIfInBounds_toArray, List.set_cons_zero, List.set_cons_succ]
      refine wpAnyH_take (i := 14) (v := undef) rfl (by kernel_rfl) (by kernel_rfl) (by kernel_rfl) (fun _ _ _ h => h) (Or.inr ⟨by rfl, rfl⟩) hHeld ?_
      change wpAnyH _ _ _ _ _ _ _ (Act.put _ (some 64) _) _
      simp only [Act.put, List.setIfInBounds_toArray, List.set_cons_zero, List.set_cons_succ]
      refine wpAnyH_take (i := 15) (v := undef) rfl (by kernel_rfl) (by kernel_rfl) (by kernel_rfl) (fun _ _ _ h => h) (Or.inr ⟨by rfl, rfl⟩) hHeld ?_
      change wpAnyH _ _ _ _ _ _ _ (Act.put _ (some 65) _) _
      simp only [Act.put, List.setIfInBounds_toArray, List.set_cons_zero, List.set_cons_succ]
      refine wpAnyH_take (i := 16) (v := undef) rfl (by kernel_rfl) (by kernel_rfl) (by kernel_rfl) (fun _ _ _ h => h) (Or.inr ⟨by rfl, rfl⟩) hHeld ?_
      change wpAnyH _ _ _ _ _ _ _ (Act.put _ (some 66) _) _
      simp only [Act.put, List.setIfInBounds_toArray, List.set_cons_zero, List.set_cons_succ]
      refine wpAnyH_take (i := 17) (v := ?_) rfl (by kernel_rfl) (by kernel_rfl) (by kernel_rfl) (fun _ _ _ h => h) (Or.inl ⟨by rfl, ?_⟩) hHeld ?_
      rotate_left 1
      · (intro w' hSw; (try dsimp only at hSw); first | (go_simp; done) | (go_simp; with_reducible rfl))
      change wpAnyH _ _ _ _ _ _ _ (Act.put _ (some 67) _) _
      simp only [Act.put, List.setIfInBounds_toArray, List.set_cons_zero, List.set_cons_succ]
      refine wpAnyH_take (i := 18) (v := ?_) rfl (by kernel_rfl) (by kernel_rfl) (by kernel_rfl) (fun _ _ _ h => h) (Or.inl ⟨by rfl, ?_⟩) hHeld ?_
      rotate_left 1
      · (intro w' hSw; (try dsimp only at hSw); first | (go_simp; done) | (go_simp; with_reducible rfl))
      change wpAnyH _ _ _ _ _ _ _ (Act.put _ (some 68) _) _
      simp only [Act.put, List.setIfInBounds_toArray, List.set_cons_zero, List.set_cons_succ]
      refine wpAnyH_take (i := 19) (v := ?_) rfl (by kernel_rfl) (by kernel_rfl) (by kernel_rfl) (fun _ _ _ h => h) (Or.inl ⟨by rfl, ?_⟩) hHeld ?_
      rotate_left 1
      · (intro w' hSw; (try dsimp only at hSw); first | (go_simp; done) | (go_simp; with_reducible rfl))
      change wpAnyH _ _ _ _ _ _ _ (Act.put _ (some 69) _) _
      simp only [Act.put, List.setIfInBounds_toArray, List.set_cons_zero, List.set_cons_succ]
      refine wpAnyH_take (i := 20) (v := ?_) rfl (by kernel_rfl) (by kernel_rfl) (by kernel_rfl) (fun _ _ _ h => h) (Or.inl ⟨by rfl, ?_⟩) hHeld ?_
      rotate_left 1
      · (intro w' hSw; (try dsimp only at hSw); first | (go_simp; done) | (go_simp; with_reducible rfl))
      change wpAnyH _ _ _ _ _ _ _ (Act.put _ (some 8) _) _
      simp only [Act.put, List.setIfInBounds_toArray, List.set_cons_zero, List.set_cons_succ]
      refine wpAnyH_done (by kernel_rfl) ?_ _
      go_wp2_with fail
      exact HFIN.out _ hHeld
/-- The same, as its card wants it. -/
theorem ruleSides_card (l : List RulX) (o : Option Addr) (cap : Nat) (L : List Int) (lo : Option Addr) (lcap : Nat) (a n : Int) (_h0 : l.length ≤ cap) (h1 : L.length ≤ lcap) (w : World) (aU aS : Addr) (hQ : GlobQ w aU aS) (hG : KGlob w) (hS : w.ShapedOpen Tryz.prog) (A0 : AtC w o l ∧ ItsC w l) (A1 : NumsInQ w lo L ∧ (lo = none → lcap = 0) ∧ ∀ p, lo = some p → 0 < lcap → p.spot = none) :
    Calls Tryz.prog 7 #[.slice o l.length cap, .slice lo L.length lcap, .int .i64 a, .int .i64 n] w fun e w' => e = .returned (.bool true) ∧ Below w.heap.size w w' := by
  obtain ⟨m, hMx⟩ := mx_shapedJ hS
  exact ruleSides_anyL o lo l cap lcap L a n w aU aS hQ hG hMx A0.1 A0.2 ⟨A1.1.1, h1, A1.2.1, A1.2.2⟩
end Go.Proofs.YtnmhdcbpbaanoaaGreatDoor
