/- Shaken by bunq.py. -/
import Derived.Test.YtnmhdcbpbaanoaaGreatDoorBuq25
import Derived.Test.YtnmhdcbpbaanoaaGreatDoorBuq20
import Derived.Test.YtnmhdcbpbaanoaaGreatDoorBuq27
import Derived.Test.YtnmhdcbpbaanoaaGreatDoorBuq5
namespace Go.Proofs.YtnmhdcbpbaanoaaGreatDoor
open Go.RowKit Go.Shelf Go.Maps
attribute [local go_sem] Oper.semAt_some

set_option maxRecDepth 100000 in
set_option maxHeartbeats 4000000 in
theorem refSameJ_any (o p : Option Addr) (l m : List RulX) (c d : Nat) (hl : l.length ≤ 100000) (hfw : FewC l) (hfm : FewC m) (w : World) (hA : AtC w o l) (hI : ItsC w l) (hB : AtC w p m) (hK : ItsC w m) :
    Calls Tryz.prog 29 #[.slice o l.length c, .slice p m.length d] w fun e w' => e = .returned (.bool (decide (l.map plX = m.map plX))) ∧ Below w.heap.size w w' := by
  obtain ⟨P, hP⟩ : ∃ P, (fun (e : Ending) (w' : World) => e = .returned (.bool (decide (l.map plX = m.map plX))) ∧ Below w.heap.size w w') = P := ⟨_, rfl⟩
  have HP := Lib.hid hP
  rw [hP]
  have ANS : Hid (∀ v W, decide (l.map plX = m.map plX) = v → Below w.heap.size w W → P (.returned (.bool v)) W) := Lib.hid fun v W h hb => by
    rw [← HP.out]
    exact ⟨by rw [h], hb⟩
  have KS := Lib.hid (fun (x : RulX) (hx : x ∈ l) (y : RulX) (hy : y ∈ m) W (hb : Below w.heap.size w W) => And.intro (refSame_anyQ x.1.1 y.1.1 x.1.2.1 y.1.2.1 x.1.2.2.1 y.1.2.2.1 x.1.2.2.2 y.1.2.2.2 (by have := (hfw x hx).1; omega) (by have := (hfm y hy).1; omega) W ((hI x hx).1.1.below hb) ((hK y hy).1.1.below hb)) (refSame_anyQ x.2.1.1 y.2.1.1 x.2.1.2.1 y.2.1.2.1 x.2.1.2.2.1 y.2.1.2.2.1 x.2.1.2.2.2 y.2.1.2.2.2 (by have := (hfw x hx).2; omega) (by have := (hfm y hy).2; omega) W ((hI x hx).2.1.below hb) ((hK y hy).2.1.below hb)))
  obtain ⟨n, hnn⟩ : ∃ n, l.length = n := ⟨_, rfl⟩
  obtain ⟨k, hkk⟩ : ∃ n, m.length = n := ⟨_, rfl⟩
  have HN := Lib.hid hnn
  have HKK := Lib.hid hkk
  have HA := Lib.hid hA
  have HB := Lib.hid hB
  have hfol : Tryz.prog.follows .mixedOrders = true := by kernel_rfl
  rw [hnn] at hl ⊢
  rw [hkk]
  clear hP HP hA hI hB hK hfw hfm hnn hkk
  go_enter Tryz.func29, Tryz.ntmps29
  by_cases hnk : n = k
  · subst hnk
    go_wp2_with fail
    go_loopg [5] n (fun k' v5 wr => ∃ (j : Nat), v5 = .int .i64 (j : Nat) ∧ j ≤ n ∧ k' = n - j ∧ Hid ((l.take j).map plX = (m.take j).map plX) ∧ Hid (Below w.heap.size w wr))
    case atStart => exact ⟨0, rfl, Nat.zero_le _, rfl, Lib.hid (by simp), Lib.hid (Below.refl _ _)⟩
    case round =>
      obtain ⟨j, rfl, hj, rfl, HT, HBR⟩ := hrel
      rcases Nat.lt_or_ge j n with hlt | hge
      · have e1 : decide (((j : Nat) : Int) < ((n : Nat) : Int)) = true := decide_eq_true (by omega)
        obtain ⟨x, hx⟩ : ∃ x, l[j]? = some x := ⟨_, List.getElem?_eq_getElem (by rw [HN.out]; exact hlt)⟩
        obtain ⟨y, hy⟩ : ∃ y, m[j]? = some y := ⟨_, List.getElem?_eq_getElem (by rw [HKK.out]; exact hlt)⟩
        obtain ⟨g, off, rfl, hc⟩ := HA.out (by rw [HN.out]; omega)
        obtain ⟨g', off', rfl, hc'⟩ := HB.out (by rw [HKK.out]; omega)
        have HCX := Lib.hid (hc j x hx)
        have HCY := Lib.hid (hc' j y hy)
        have KS2 := Lib.hid (KS.out x (List.mem_of_getElem? hx) y (List.mem_of_getElem? hy))
        have HNE := Lib.hid (fun he : plX x ≠ plX y => decide_eq_false (map_ne1 hx hy he))
        have HEQ := Lib.hid (fun he : plX x = plX y => take_map1 HT.out hx hy he)
        have HDE := Lib.hid (same_plX x y)
        obtain ⟨D, hD⟩ : ∃ D, decide (plX x = plX y) = D := ⟨_, rfl⟩
        rw [hD] at HDE
        have HD := Lib.hid hD
        obtain ⟨⟨s1, p1, xs1, k1⟩, ⟨s2, p2, xs2, k2⟩, br⟩ := x
        obtain ⟨⟨t1, q1, ys1, d1⟩, ⟨t2, q2, ys2, d2⟩, bq⟩ := y
        simp only at HCX HCY KS2 HDE
        obtain ⟨m1, hm1⟩ : ∃ k, xs1.length = k := ⟨_, rfl⟩
        obtain ⟨m2, hm2⟩ : ∃ k, xs2.length = k := ⟨_, rfl⟩
        obtain ⟨n1, hn1⟩ : ∃ k, ys1.length = k := ⟨_, rfl⟩
        obtain ⟨n2, hn2⟩ : ∃ k, ys2.length = k := ⟨_, rfl⟩
        obtain ⟨b1, hb1⟩ : ∃ k, sameB s1 t1 xs1 ys1 = k := ⟨_, rfl⟩
        obtain ⟨b2, hb2⟩ : ∃ k, sameB s2 t2 xs2 ys2 = k := ⟨_, rfl⟩
        simp only [hm1, hm2, hn1, hn2, hb1, hb2] at HCX HCY KS2 HDE
        have HSS : Hid (∀ W, Below w.heap.size w W → (W.cell? ⟨g, off + j * 5, none⟩ = some (.bool s1) ∧ W.cell? ⟨g, off + j * 5 + 1, none⟩ = some (.slice p1 m1 k1) ∧ W.cell? ⟨g, off + j * 5 + 2, none⟩ = some (.bool s2) ∧ W.cell? ⟨g, off + j * 5 + 3, none⟩ = some (.slice p2 m2 k2) ∧ W.cell? ⟨g, off + j * 5 + 4, none⟩ = some (.bool br) ∧ W.cell? ⟨g', off' + j * 5, none⟩ = some (.bool t1) ∧ W.cell? ⟨g', off' + j * 5 + 1, none⟩ = some (.slice q1 n1 d1) ∧ W.cell? ⟨g', off' + j * 5 + 2, none⟩ = some (.bool t2) ∧ W.cell? ⟨g', off' + j * 5 + 3, none⟩ = some (.slice q2 n2 d2) ∧ W.cell? ⟨g', off' + j * 5 + 4, none⟩ = some (.bool bq) ∧ Below w.heap.size w W)) := Lib.hid fun W hb => by
          obtain ⟨x0, x1, x2, x3, x4⟩ := HCX.out
          obtain ⟨y0, y1, y2, y3, y4⟩ := HCY.out
          exact ⟨cell_keepQ hb x0, cell_keepQ hb x1, cell_keepQ hb x2, cell_keepQ hb x3, cell_keepQ hb x4, cell_keepQ hb y0, cell_keepQ hb y1, cell_keepQ hb y2, cell_keepQ hb y3, cell_keepQ hb y4, hb⟩
        have KA : Hid (∀ W, (W.cell? ⟨g, off + j * 5, none⟩ = some (.bool s1) ∧ W.cell? ⟨g, off + j * 5 + 1, none⟩ = some (.slice p1 m1 k1) ∧ W.cell? ⟨g, off + j * 5 + 2, none⟩ = some (.bool s2) ∧ W.cell? ⟨g, off + j * 5 + 3, none⟩ = some (.slice p2 m2 k2) ∧ W.cell? ⟨g, off + j * 5 + 4, none⟩ = some (.bool br) ∧ W.cell? ⟨g', off' + j * 5, none⟩ = some (.bool t1) ∧ W.cell? ⟨g', off' + j * 5 + 1, none⟩ = some (.slice q1 n1 d1) ∧ W.cell? ⟨g', off' + j * 5 + 2, none⟩ = some (.bool t2) ∧ W.cell? ⟨g', off' + j * 5 + 3, none⟩ = some (.slice q2 n2 d2) ∧ W.cell? ⟨g', off' + j * 5 + 4, none⟩ = some (.bool bq) ∧ Below w.heap.size w W) → Calls Tryz.prog 49 #[.agg #[.bool s1, .slice p1 m1 k1], .agg #[.bool t1, .slice q1 n1 d1]] W fun e w' => e = .returned (.bool b1) ∧ (w'.cell? ⟨g, off + j * 5, none⟩ = some (.bool s1) ∧ w'.cell? ⟨g, off + j * 5 + 1, none⟩ = some (.slice p1 m1 k1) ∧ w'.cell? ⟨g, off + j * 5 + 2, none⟩ = some (.bool s2) ∧ w'.cell? ⟨g, off + j * 5 + 3, none⟩ = some (.slice p2 m2 k2) ∧ w'.cell? ⟨g, off + j * 5 + 4, none⟩ = some (.bool br) ∧ w'.cell? ⟨g', off' + j * 5, none⟩ = some (.bool t1) ∧ w'.cell? ⟨g', off' + j * 5 + 1, none⟩ = some (.slice q1 n1 d1) ∧ w'.cell? ⟨g', off' + j * 5 + 2, none⟩ = some (.bool t2) ∧ w'.cell? ⟨g', off' + j * 5 + 3, none⟩ = some (.slice q2 n2 d2) ∧ w'.cell? ⟨g', off' + j * 5 + 4, none⟩ = some (.bool bq) ∧ Below w.heap.size w w')) := Lib.hid fun W hs => (KS2.out W hs.2.2.2.2.2.2.2.2.2.2).1.mono (by
          rintro e w' ⟨rfl, b⟩
          exact ⟨rfl, HSS.out w' (hs.2.2.2.2.2.2.2.2.2.2.trans (b.mono hs.2.2.2.2.2.2.2.2.2.2.size))⟩)
        have KB : Hid (∀ W, (W.cell? ⟨g, off + j * 5, none⟩ = some (.bool s1) ∧ W.cell? ⟨g, off + j * 5 + 1, none⟩ = some (.slice p1 m1 k1) ∧ W.cell? ⟨g, off + j * 5 + 2, none⟩ = some (.bool s2) ∧ W.cell? ⟨g, off + j * 5 + 3, none⟩ = some (.slice p2 m2 k2) ∧ W.cell? ⟨g, off + j * 5 + 4, none⟩ = some (.bool br) ∧ W.cell? ⟨g', off' + j * 5, none⟩ = some (.bool t1) ∧ W.cell? ⟨g', off' + j * 5 + 1, none⟩ = some (.slice q1 n1 d1) ∧ W.cell? ⟨g', off' + j * 5 + 2, none⟩ = some (.bool t2) ∧ W.cell? ⟨g', off' + j * 5 + 3, none⟩ = some (.slice q2 n2 d2) ∧ W.cell? ⟨g', off' + j * 5 + 4, none⟩ = some (.bool bq) ∧ Below w.heap.size w W) → Calls Tryz.prog 49 #[.agg #[.bool s2, .slice p2 m2 k2], .agg #[.bool t2, .slice q2 n2 d2]] W fun e w' => e = .returned (.bool b2) ∧ (w'.cell? ⟨g, off + j * 5, none⟩ = some (.bool s1) ∧ w'.cell? ⟨g, off + j * 5 + 1, none⟩ = some (.slice p1 m1 k1) ∧ w'.cell? ⟨g, off + j * 5 + 2, none⟩ = some (.bool s2) ∧ w'.cell? ⟨g, off + j * 5 + 3, none⟩ = some (.slice p2 m2 k2) ∧ w'.cell? ⟨g, off + j * 5 + 4, none⟩ = some (.bool br) ∧ w'.cell? ⟨g', off' + j * 5, none⟩ = some (.bool t1) ∧ w'.cell? ⟨g', off' + j * 5 + 1, none⟩ = some (.slice q1 n1 d1) ∧ w'.cell? ⟨g', off' + j * 5 + 2, none⟩ = some (.bool t2) ∧ w'.cell? ⟨g', off' + j * 5 + 3, none⟩ = some (.slice q2 n2 d2) ∧ w'.cell? ⟨g', off' + j * 5 + 4, none⟩ = some (.bool bq) ∧ Below w.heap.size w w')) := Lib.hid fun W hs => (KS2.out W hs.2.2.2.2.2.2.2.2.2.2).2.mono (by
          rintro e w' ⟨rfl, b⟩
          exact ⟨rfl, HSS.out w' (hs.2.2.2.2.2.2.2.2.2.2.trans (b.mono hs.2.2.2.2.2.2.2.2.2.2.size))⟩)
        have HD0 := HSS.out wr.drew HBR.out.drew
        have HRET : Hid (D = false → ∀ W, (W.cell? ⟨g, off + j * 5, none⟩ = some (.bool s1) ∧ W.cell? ⟨g, off + j * 5 + 1, none⟩ = some (.slice p1 m1 k1) ∧ W.cell? ⟨g, off + j * 5 + 2, none⟩ = some (.bool s2) ∧ W.cell? ⟨g, off + j * 5 + 3, none⟩ = some (.slice p2 m2 k2) ∧ W.cell? ⟨g, off + j * 5 + 4, none⟩ = some (.bool br) ∧ W.cell? ⟨g', off' + j * 5, none⟩ = some (.bool t1) ∧ W.cell? ⟨g', off' + j * 5 + 1, none⟩ = some (.slice q1 n1 d1) ∧ W.cell? ⟨g', off' + j * 5 + 2, none⟩ = some (.bool t2) ∧ W.cell? ⟨g', off' + j * 5 + 3, none⟩ = some (.slice q2 n2 d2) ∧ W.cell? ⟨g', off' + j * 5 + 4, none⟩ = some (.bool bq) ∧ Below w.heap.size w W) → P (.returned (.bool false)) W) := Lib.hid fun h W hs => ANS.out false W (HNE.out (of_decide_eq_false (by rw [HD.out]; exact h))) hs.2.2.2.2.2.2.2.2.2.2
        have HGO : Hid (D = true → Hid ((l.take (j + 1)).map plX = (m.take (j + 1)).map plX)) := Lib.hid fun h => Lib.hid (HEQ.out (of_decide_eq_true (by rw [HD.out]; exact h)))
        have hjm : j < 1000000 := by omega
        have hgw := World.block_lt_of_cell? wr _ (HSS.out wr HBR.out).1
        clear hc hc' hx hy hD hm1 hm2 hn1 hn2 hb1 hb2 HCX HCY KS2 HNE HEQ HD HT
        by_cases hbr : br = bq
        · subst hbr
          rw [decide_eq_true rfl, Bool.true_and] at HDE
          have fbr : (br != br) = false := by simp
          cases b1 with
          | true =>
            rw [Bool.true_and] at HDE
            go_wp2_with fail
            refine wp_region_held_drew (S := (fun W => W.cell? ⟨g, off + j * 5, none⟩ = some (.bool s1) ∧ W.cell? ⟨g, off + j * 5 + 1, none⟩ = some (.slice p1 m1 k1) ∧ W.cell? ⟨g, off + j * 5 + 2, none⟩ = some (.bool s2) ∧ W.cell? ⟨g, off + j * 5 + 3, none⟩ = some (.slice p2 m2 k2) ∧ W.cell? ⟨g, off + j * 5 + 4, none⟩ = some (.bool br) ∧ W.cell? ⟨g', off' + j * 5, none⟩ = some (.bool t1) ∧ W.cell? ⟨g', off' + j * 5 + 1, none⟩ = some (.slice q1 n1 d1) ∧ W.cell? ⟨g', off' + j * 5 + 2, none⟩ = some (.bool t2) ∧ W.cell? ⟨g', off' + j * 5 + 3, none⟩ = some (.slice q2 n2 d2) ∧ W.cell? ⟨g', off' + j * 5 + 4, none⟩ = some (.bool br) ∧ Below w.heap.size w W)) (by kernel_rfl) HD0 (fun hHeld => ?_)
            refine wpT (i := 0) (v := ?_) rfl (Or.inl ⟨by rfl, ?_⟩) hHeld ?_
            rotate_left 1
            · (intro w' hSw; (try dsimp only at hSw); first | (go_simp; done) | (go_simp; with_reducible rfl))
            change wpAnyH _ _ _ _ _ _ _ (Act.put _ (some 17) _) _
            simp only [Act.put, lsA, lsB, lsC]
            refine wpT (i := 1) (v := ?_) rfl (Or.inl ⟨by rfl, ?_⟩) hHeld ?_
            rotate_left 1
            · (intro w' hSw; (try dsimp only at hSw); first | (go_simp; done) | (go_simp; with_reducible rfl))
            change wpAnyH _ _ _ _ _ _ _ (Act.put _ (some 18) _) _
            simp only [Act.put, lsA, lsB, lsC]
            refine wpT (i := 2) (v := ?_) rfl (Or.inl ⟨by rfl, ?_⟩) hHeld ?_
            rotate_left 1
            · (intro w' hSw; (try dsimp only at hSw); first | (go_simp; done) | (go_simp; with_reducible rfl))
            change wpAnyH _ _ _ _ _ _ _ (Act.put _ (some 19) _) _
            simp only [Act.put, lsA, lsB, lsC]
            refine wpT (i := 3) (v := ?_) rfl (Or.inl ⟨by rfl, ?_⟩) hHeld ?_
            rotate_left 1
            · (intro w' hSw; (try dsimp only at hSw); first | (go_simp; done) | (go_simp; with_reducible rfl))
            change wpAnyH _ _ _ _ _ _ _ (Act.put _ (some 20) _) _
            simp only [Act.put, lsA, lsB, lsC]
            refine wpT (i := 4) (v := ?_) rfl (Or.inl ⟨by rfl, ?_⟩) hHeld ?_
            rotate_left 1
            · (intro w' hSw; (try dsimp only at hSw); first | (go_simp; done) | (go_simp; with_reducible rfl))
            change wpAnyH _ _ _ _ _ _ _ (Act.put _ (some 21) _) _
            simp only [Act.put, lsA, lsB, lsC]
            refine wpT (i := 5) (v := ?_) rfl (Or.inl ⟨by rfl, ?_⟩) hHeld ?_
            rotate_left 1
            · (intro w' hSw; (try dsimp only at hSw); first | (go_simp; done) | (go_simp; with_reducible rfl))
            change wpAnyH _ _ _ _ _ _ _ (Act.put _ (some 22) _) _
            simp only [Act.put, lsA, lsB, lsC]
            refine wpT (i := 6) (v := ?_) rfl (Or.inl ⟨by rfl, ?_⟩) hHeld ?_
            rotate_left 1
            · (intro w' hSw; (try dsimp only at hSw); first | (go_simp; done) | (go_simp; with_reducible rfl))
            change wpAnyH _ _ _ _ _ _ _ (Act.put _ (some 23) _) _
            simp only [Act.put, lsA, lsB, lsC]
            refine wpT (i := 7) (v := ?_) rfl (Or.inl ⟨by rfl, ?_⟩) hHeld ?_
            rotate_left 1
            · (intro w' hSw; (try dsimp only at hSw); first | (go_simp; done) | (go_simp; with_reducible rfl))
            change wpAnyH _ _ _ _ _ _ _ (Act.put _ (some 24) _) _
            simp only [Act.put, lsA, lsB, lsC]
            refine wpT (i := 8) (v := ?_) rfl (Or.inl ⟨by rfl, ?_⟩) hHeld ?_
            rotate_left 1
            · (intro w' hSw; (try dsimp only at hSw); first | (go_simp; done) | (go_simp; with_reducible rfl))
            change wpAnyH _ _ _ _ _ _ _ (Act.put _ (some 25) _) _
            simp only [Act.put, lsA, lsB, lsC]
            refine wpT (i := 9) (v := ?_) rfl (Or.inl ⟨by rfl, ?_⟩) hHeld ?_
            rotate_left 1
            · (intro w' hSw; (try dsimp only at hSw); first | (go_simp; done) | (go_simp; with_reducible rfl))
            change wpAnyH _ _ _ _ _ _ _ (Act.put _ (some 26) _) _
            simp only [Act.put, lsA, lsB, lsC]
            refine wpT (i := 10) (v := .bool false) rfl (Or.inl ⟨by rfl, ?_⟩) hHeld ?_
            · (intro w' hSw; (try dsimp only at hSw); go_simp; done)
            change wpAnyH _ _ _ _ _ _ _ (Act.put _ (some 27) _) _
            simp only [Act.put, lsA, lsB, lsC]
            refine wpT (i := 11) (v := ?_) rfl (Or.inl ⟨by rfl, ?_⟩) hHeld ?_
            rotate_left 1
            · (intro w' hSw; (try dsimp only at hSw); first | (go_simp; done) | (go_simp; with_reducible rfl))
            change wpAnyH _ _ _ _ _ _ _ (Act.put _ (some 28) _) _
            simp only [Act.put, lsA, lsB, lsC]
            refine wpT (i := 12) (v := ?_) rfl (Or.inl ⟨by rfl, ?_⟩) hHeld ?_
            rotate_left 1
            · (intro w' hSw; (try dsimp only at hSw); first | (go_simp; done) | (go_simp; with_reducible rfl))
            change wpAnyH _ _ _ _ _ _ _ (Act.put _ (some 29) _) _
            simp only [Act.put, lsA, lsB, lsC]
            refine wpT (i := 13) (v := ?_) rfl (Or.inl ⟨by rfl, ?_⟩) hHeld ?_
            rotate_left 1
            · (intro w' hSw; (try dsimp only at hSw); first | (go_simp; done) | (go_simp; with_reducible rfl))
            change wpAnyH _ _ _ _ _ _ _ (Act.put _ (some 30) _) _
            simp only [Act.put, lsA, lsB, lsC]
            refine wpT (i := 14) (v := ?_) rfl (Or.inl ⟨by rfl, ?_⟩) hHeld ?_
            rotate_left 1
            · (intro w' hSw; (try dsimp only at hSw); first | (go_simp; done) | (go_simp; with_reducible rfl))
            change wpAnyH _ _ _ _ _ _ _ (Act.put _ (some 31) _) _
            simp only [Act.put, lsA, lsB, lsC]
            refine wpT (i := 15) (v := ?_) rfl (Or.inl ⟨by rfl, ?_⟩) hHeld ?_
            rotate_left 1
            · (intro w' hSw; (try dsimp only at hSw); first | (go_simp; done) | (go_simp; with_reducible rfl))
            change wpAnyH _ _ _ _ _ _ _ (Act.put _ (some 32) _) _
            simp only [Act.put, lsA, lsB, lsC]
            refine wpT (i := 16) (v := ?_) rfl (Or.inl ⟨by rfl, ?_⟩) hHeld ?_
            rotate_left 1
            · (intro w' hSw; (try dsimp only at hSw); first | (go_simp; done) | (go_simp; with_reducible rfl))
            change wpAnyH _ _ _ _ _ _ _ (Act.put _ (some 33) _) _
            simp only [Act.put, lsA, lsB, lsC]
            refine wpT (i := 17) (v := ?_) rfl (Or.inl ⟨by rfl, ?_⟩) hHeld ?_
            rotate_left 1
            · (intro w' hSw; (try dsimp only at hSw); first | (go_simp; done) | (go_simp; with_reducible rfl))
            change wpAnyH _ _ _ _ _ _ _ (Act.put _ (some 34) _) _
            simp only [Act.put, lsA, lsB, lsC]
            refine wpT (i := 18) (v := ?_) rfl (Or.inl ⟨by rfl, ?_⟩) hHeld ?_
            rotate_left 1
            · (intro w' hSw; (try dsimp only at hSw); first | (go_simp; done) | (go_simp; with_reducible rfl))
            change wpAnyH _ _ _ _ _ _ _ (Act.put _ (some 35) _) _
            simp only [Act.put, lsA, lsB, lsC]
            refine wpT (i := 19) (v := ?_) rfl (Or.inl ⟨by rfl, ?_⟩) hHeld ?_
            rotate_left 1
            · (intro w' hSw; (try dsimp only at hSw); first | (go_simp; done) | (go_simp; with_reducible rfl))
            change wpAnyH _ _ _ _ _ _ _ (Act.put _ (some 36) _) _
            simp only [Act.put, lsA, lsB, lsC]
            refine wpT (i := 20) (v := ?_) rfl (Or.inl ⟨by rfl, ?_⟩) hHeld ?_
            rotate_left 1
            · (intro w' hSw; (try dsimp only at hSw); first | (go_simp; done) | (go_simp; with_reducible rfl))
            change wpAnyH _ _ _ _ _ _ _ (Act.put _ (some 37) _) _
            simp only [Act.put, lsA, lsB, lsC]
            refine wpT (i := 21) (v := ?_) rfl (Or.inl ⟨by rfl, ?_⟩) hHeld ?_
            rotate_left 1
            · (intro w' hSw; (try dsimp only at hSw); first | (go_simp; done) | (go_simp; with_reducible rfl))
            change wpAnyH _ _ _ _ _ _ _ (Act.put _ (some 38) _) _
            simp only [Act.put, lsA, lsB, lsC]
            refine wpAnyH_ready (rs := [22]) (by kernel_rfl) (by simp) ?_
            refine AllReadyH.cons rfl (fun K hK => ?_) AllReadyH.nil
            go_simp
            refine (KA.out _ hHeld).mono ?_
            rintro e w' ⟨rfl, hg⟩
            go_wp2_with fail
            refine hK.out _ _ hg (fun hHeld => ?_)
            clear hK K
            try simp only [Act.put, lsA, lsB, lsC]
            refine wpT (i := 23) (v := ?_) rfl (Or.inl ⟨by rfl, ?_⟩) hHeld ?_
            rotate_left 1
            · (intro w' hSw; (try dsimp only at hSw); first | (go_simp; done) | (go_simp; with_reducible rfl))
            change wpAnyH _ _ _ _ _ _ _ (Act.put _ (some 40) _) _
            simp only [Act.put, lsA, lsB, lsC]
            refine wpT (i := 24) (v := ?_) rfl (Or.inl ⟨by rfl, ?_⟩) hHeld ?_
            rotate_left 1
            · (intro w' hSw; (try dsimp only at hSw); first | (go_simp; done) | (go_simp; with_reducible rfl))
            change wpAnyH _ _ _ _ _ _ _ (Act.put _ (some 41) _) _
            simp only [Act.put, lsA, lsB, lsC]
            refine wpT (i := 25) (v := ?_) rfl (Or.inl ⟨by rfl, ?_⟩) hHeld ?_
            rotate_left 1
            · (intro w' hSw; (try dsimp only at hSw); first | (go_simp; done) | (go_simp; with_reducible rfl))
            change wpAnyH _ _ _ _ _ _ _ (Act.put _ (some 42) _) _
            simp only [Act.put, lsA, lsB, lsC]
            refine wpT (i := 26) (v := ?_) rfl (Or.inl ⟨by rfl, ?_⟩) hHeld ?_
            rotate_left 1
            · (intro w' hSw; (try dsimp only at hSw); first | (go_simp; done) | (go_simp; with_reducible rfl))
            change wpAnyH _ _ _ _ _ _ _ (Act.put _ (some 43) _) _
            simp only [Act.put, lsA, lsB, lsC]
            refine wpT (i := 27) (v := ?_) rfl (Or.inl ⟨by rfl, ?_⟩) hHeld ?_
            rotate_left 1
            · (intro w' hSw; (try dsimp only at hSw); first | (go_simp; done) | (go_simp; with_reducible rfl))
            change wpAnyH _ _ _ _ _ _ _ (Act.put _ (some 44) _) _
            simp only [Act.put, lsA, lsB, lsC]
            refine wpT (i := 28) (v := ?_) rfl (Or.inl ⟨by rfl, ?_⟩) hHeld ?_
            rotate_left 1
            · (intro w' hSw; (try dsimp only at hSw); first | (go_simp; done) | (go_simp; with_reducible rfl))
            change wpAnyH _ _ _ _ _ _ _ (Act.put _ (some 45) _) _
            simp only [Act.put, lsA, lsB, lsC]
            refine wpT (i := 29) (v := ?_) rfl (Or.inl ⟨by rfl, ?_⟩) hHeld ?_
            rotate_left 1
            · (intro w' hSw; (try dsimp only at hSw); first | (go_simp; done) | (go_simp; with_reducible rfl))
            change wpAnyH _ _ _ _ _ _ _ (Act.put _ (some 46) _) _
            simp only [Act.put, lsA, lsB, lsC]
            refine wpT (i := 30) (v := ?_) rfl (Or.inl ⟨by rfl, ?_⟩) hHeld ?_
            rotate_left 1
            · (intro w' hSw; (try dsimp only at hSw); first | (go_simp; done) | (go_simp; with_reducible rfl))
            change wpAnyH _ _ _ _ _ _ _ (Act.put _ (some 47) _) _
            simp only [Act.put, lsA, lsB, lsC]
            refine wpT (i := 31) (v := ?_) rfl (Or.inl ⟨by rfl, ?_⟩) hHeld ?_
            rotate_left 1
            · (intro w' hSw; (try dsimp only at hSw); first | (go_simp; done) | (go_simp; with_reducible rfl))
            change wpAnyH _ _ _ _ _ _ _ (Act.put _ (some 48) _) _
            simp only [Act.put, lsA, lsB, lsC]
            refine wpT (i := 32) (v := ?_) rfl (Or.inl ⟨by rfl, ?_⟩) hHeld ?_
            rotate_left 1
            · (intro w' hSw; (try dsimp only at hSw); first | (go_simp; done) | (go_simp; with_reducible rfl))
            change wpAnyH _ _ _ _ _ _ _ (Act.put _ (some 49) _) _
            simp only [Act.put, lsA, lsB, lsC]
            refine wpT (i := 33) (v := ?_) rfl (Or.inl ⟨by rfl, ?_⟩) hHeld ?_
            rotate_left 1
            · (intro w' hSw; (try dsimp only at hSw); first | (go_simp; done) | (go_simp; with_reducible rfl))
            change wpAnyH _ _ _ _ _ _ _ (Act.put _ (some 50) _) _
            simp only [Act.put, lsA, lsB, lsC]
            refine wpT (i := 34) (v := ?_) rfl (Or.inl ⟨by rfl, ?_⟩) hHeld ?_
            rotate_left 1
            · (intro w' hSw; (try dsimp only at hSw); first | (go_simp; done) | (go_simp; with_reducible rfl))
            change wpAnyH _ _ _ _ _ _ _ (Act.put _ (some 51) _) _
            simp only [Act.put, lsA, lsB, lsC]
            refine wpT (i := 35) (v := ?_) rfl (Or.inl ⟨by rfl, ?_⟩) hHeld ?_
            rotate_left 1
            · (intro w' hSw; (try dsimp only at hSw); first | (go_simp; done) | (go_simp; with_reducible rfl))
            change wpAnyH _ _ _ _ _ _ _ (Act.put _ (some 52) _) _
            simp only [Act.put, lsA, lsB, lsC]
            refine wpAnyH_ready (rs := [36]) (by kernel_rfl) (by simp) ?_
            refine AllReadyH.cons rfl (fun K hK => ?_) AllReadyH.nil
            go_simp
            refine (KB.out _ hHeld).mono ?_
            rintro e w' ⟨rfl, hg⟩
            go_wp2_with fail
            refine hK.out _ _ hg (fun hHeld => ?_)
            clear hK K
            try simp only [Act.put, lsA, lsB, lsC]
            refine wpT (i := 37) (v := ?_) rfl (Or.inl ⟨by rfl, ?_⟩) hHeld ?_
            rotate_left 1
            · (intro w' hSw; (try dsimp only at hSw); first | (go_simp; done) | (go_simp; with_reducible rfl))
            change wpAnyH _ _ _ _ _ _ _ (Act.put _ (some 54) _) _
            simp only [Act.put, lsA, lsB, lsC]
            refine wpT (i := 38) (v := ?_) rfl (Or.inl ⟨by rfl, ?_⟩) hHeld ?_
            rotate_left 1
            · (intro w' hSw; (try dsimp only at hSw); first | (go_simp; done) | (go_simp; with_reducible rfl))
            change wpAnyH _ _ _ _ _ _ _ (Act.put _ (some 55) _) _
            simp only [Act.put, lsA, lsB, lsC]
            refine wpAnyH_done (by kernel_rfl) ?_ _
            cases b2 with
            | true =>
              have HT2 := HGO.out (by rw [← HDE.out])
              have HB2 := Lib.hid hHeld.2.2.2.2.2.2.2.2.2.2
              clear HRET HGO HDE hHeld
              go_wp2_with fail
              go_roundg (n - (j + 1))
              case measure => omega
              case rel => exact ⟨j + 1, by simp, by omega, rfl, HT2, HB2⟩
            | false =>
              have HR2 := Lib.hid (HRET.out (by rw [← HDE.out]) _ hHeld)
              clear HRET HGO HDE hHeld
              go_wp2_with fail
              exact HR2.out
          | false =>
            have hd0 : D = false := by rw [← HDE.out]; rfl
            have HR2 := Lib.hid (HRET.out hd0)
            clear HRET HGO HDE KB
            go_wp2_with fail
            refine wp_region_held_drew (S := (fun W => W.cell? ⟨g, off + j * 5, none⟩ = some (.bool s1) ∧ W.cell? ⟨g, off + j * 5 + 1, none⟩ = some (.slice p1 m1 k1) ∧ W.cell? ⟨g, off + j * 5 + 2, none⟩ = some (.bool s2) ∧ W.cell? ⟨g, off + j * 5 + 3, none⟩ = some (.slice p2 m2 k2) ∧ W.cell? ⟨g, off + j * 5 + 4, none⟩ = some (.bool br) ∧ W.cell? ⟨g', off' + j * 5, none⟩ = some (.bool t1) ∧ W.cell? ⟨g', off' + j * 5 + 1, none⟩ = some (.slice q1 n1 d1) ∧ W.cell? ⟨g', off' + j * 5 + 2, none⟩ = some (.bool t2) ∧ W.cell? ⟨g', off' + j * 5 + 3, none⟩ = some (.slice q2 n2 d2) ∧ W.cell? ⟨g', off' + j * 5 + 4, none⟩ = some (.bool br) ∧ Below w.heap.size w W)) (by kernel_rfl) HD0 (fun hHeld => ?_)
            refine wpT (i := 0) (v := ?_) rfl (Or.inl ⟨by rfl, ?_⟩) hHeld ?_
            rotate_left 1
            · (intro w' hSw; (try dsimp only at hSw); first | (go_simp; done) | (go_simp; with_reducible rfl))
            change wpAnyH _ _ _ _ _ _ _ (Act.put _ (some 17) _) _
            simp only [Act.put, lsA, lsB, lsC]
            refine wpT (i := 1) (v := ?_) rfl (Or.inl ⟨by rfl, ?_⟩) hHeld ?_
            rotate_left 1
            · (intro w' hSw; (try dsimp only at hSw); first | (go_simp; done) | (go_simp; with_reducible rfl))
            change wpAnyH _ _ _ _ _ _ _ (Act.put _ (some 18) _) _
            simp only [Act.put, lsA, lsB, lsC]
            refine wpT (i := 2) (v := ?_) rfl (Or.inl ⟨by rfl, ?_⟩) hHeld ?_
            rotate_left 1
            · (intro w' hSw; (try dsimp only at hSw); first | (go_simp; done) | (go_simp; with_reducible rfl))
            change wpAnyH _ _ _ _ _ _ _ (Act.put _ (some 19) _) _
            simp only [Act.put, lsA, lsB, lsC]
            refine wpT (i := 3) (v := ?_) rfl (Or.inl ⟨by rfl, ?_⟩) hHeld ?_
            rotate_left 1
            · (intro w' hSw; (try dsimp only at hSw); first | (go_simp; done) | (go_simp; with_reducible rfl))
            change wpAnyH _ _ _ _ _ _ _ (Act.put _ (some 20) _) _
            simp only [Act.put, lsA, lsB, lsC]
            refine wpT (i := 4) (v := ?_) rfl (Or.inl ⟨by rfl, ?_⟩) hHeld ?_
            rotate_left 1
            · (intro w' hSw; (try dsimp only at hSw); first | (go_simp; done) | (go_simp; with_reducible rfl))
            change wpAnyH _ _ _ _ _ _ _ (Act.put _ (some 21) _) _
            simp only [Act.put, lsA, lsB, lsC]
            refine wpT (i := 5) (v := ?_) rfl (Or.inl ⟨by rfl, ?_⟩) hHeld ?_
            rotate_left 1
            · (intro w' hSw; (try dsimp only at hSw); first | (go_simp; done) | (go_simp; with_reducible rfl))
            change wpAnyH _ _ _ _ _ _ _ (Act.put _ (some 22) _) _
            simp only [Act.put, lsA, lsB, lsC]
            refine wpT (i := 6) (v := ?_) rfl (Or.inl ⟨by rfl, ?_⟩) hHeld ?_
            rotate_left 1
            · (intro w' hSw; (try dsimp only at hSw); first | (go_simp; done) | (go_simp; with_reducible rfl))
            change wpAnyH _ _ _ _ _ _ _ (Act.put _ (some 23) _) _
            simp only [Act.put, lsA, lsB, lsC]
            refine wpT (i := 7) (v := ?_) rfl (Or.inl ⟨by rfl, ?_⟩) hHeld ?_
            rotate_left 1
            · (intro w' hSw; (try dsimp only at hSw); first | (go_simp; done) | (go_simp; with_reducible rfl))
            change wpAnyH _ _ _ _ _ _ _ (Act.put _ (some 24) _) _
            simp only [Act.put, lsA, lsB, lsC]
            refine wpT (i := 8) (v := ?_) rfl (Or.inl ⟨by rfl, ?_⟩) hHeld ?_
            rotate_left 1
            · (intro w' hSw; (try dsimp only at hSw); first | (go_simp; done) | (go_simp; with_reducible rfl))
            change wpAnyH _ _ _ _ _ _ _ (Act.put _ (some 25) _) _
            simp only [Act.put, lsA, lsB, lsC]
            refine wpT (i := 9) (v := ?_) rfl (Or.inl ⟨by rfl, ?_⟩) hHeld ?_
            rotate_left 1
            · (intro w' hSw; (try dsimp only at hSw); first | (go_simp; done) | (go_simp; with_reducible rfl))
            change wpAnyH _ _ _ _ _ _ _ (Act.put _ (some 26) _) _
            simp only [Act.put, lsA, lsB, lsC]
            refine wpT (i := 10) (v := .bool false) rfl (Or.inl ⟨by rfl, ?_⟩) hHeld ?_
            · (intro w' hSw; (try dsimp only at hSw); go_simp; done)
            change wpAnyH _ _ _ _ _ _ _ (Act.put _ (some 27) _) _
            simp only [Act.put, lsA, lsB, lsC]
            refine wpT (i := 11) (v := ?_) rfl (Or.inl ⟨by rfl, ?_⟩) hHeld ?_
            rotate_left 1
            · (intro w' hSw; (try dsimp only at hSw); first | (go_simp; done) | (go_simp; with_reducible rfl))
            change wpAnyH _ _ _ _ _ _ _ (Act.put _ (some 28) _) _
            simp only [Act.put, lsA, lsB, lsC]
            refine wpT (i := 12) (v := ?_) rfl (Or.inl ⟨by rfl, ?_⟩) hHeld ?_
            rotate_left 1
            · (intro w' hSw; (try dsimp only at hSw); first | (go_simp; done) | (go_simp; with_reducible rfl))
            change wpAnyH _ _ _ _ _ _ _ (Act.put _ (some 29) _) _
            simp only [Act.put, lsA, lsB, lsC]
            refine wpT (i := 13) (v := ?_) rfl (Or.inl ⟨by rfl, ?_⟩) hHeld ?_
            rotate_left 1
            · (intro w' hSw; (try dsimp only at hSw); first | (go_simp; done) | (go_simp; with_reducible rfl))
            change wpAnyH _ _ _ _ _ _ _ (Act.put _ (some 30) _) _
            simp only [Act.put, lsA, lsB, lsC]
            refine wpT (i := 14) (v := ?_) rfl (Or.inl ⟨by rfl, ?_⟩) hHeld ?_
            rotate_left 1
            · (intro w' hSw; (try dsimp only at hSw); first | (go_simp; done) | (go_simp; with_reducible rfl))
            change wpAnyH _ _ _ _ _ _ _ (Act.put _ (some 31) _) _
            simp only [Act.put, lsA, lsB, lsC]
            refine wpT (i := 15) (v := ?_) rfl (Or.inl ⟨by rfl, ?_⟩) hHeld ?_
            rotate_left 1
            · (intro w' hSw; (try dsimp only at hSw); first | (go_simp; done) | (go_simp; with_reducible rfl))
            change wpAnyH _ _ _ _ _ _ _ (Act.put _ (some 32) _) _
            simp only [Act.put, lsA, lsB, lsC]
            refine wpT (i := 16) (v := ?_) rfl (Or.inl ⟨by rfl, ?_⟩) hHeld ?_
            rotate_left 1
            · (intro w' hSw; (try dsimp only at hSw); first | (go_simp; done) | (go_simp; with_reducible rfl))
            change wpAnyH _ _ _ _ _ _ _ (Act.put _ (some 33) _) _
            simp only [Act.put, lsA, lsB, lsC]
            refine wpT (i := 17) (v := ?_) rfl (Or.inl ⟨by rfl, ?_⟩) hHeld ?_
            rotate_left 1
            · (intro w' hSw; (try dsimp only at hSw); first | (go_simp; done) | (go_simp; with_reducible rfl))
            change wpAnyH _ _ _ _ _ _ _ (Act.put _ (some 34) _) _
            simp only [Act.put, lsA, lsB, lsC]
            refine wpT (i := 18) (v := ?_) rfl (Or.inl ⟨by rfl, ?_⟩) hHeld ?_
            rotate_left 1
            · (intro w' hSw; (try dsimp only at hSw); first | (go_simp; done) | (go_simp; with_reducible rfl))
            change wpAnyH _ _ _ _ _ _ _ (Act.put _ (some 35) _) _
            simp only [Act.put, lsA, lsB, lsC]
            refine wpT (i := 19) (v := ?_) rfl (Or.inl ⟨by rfl, ?_⟩) hHeld ?_
            rotate_left 1
            · (intro w' hSw; (try dsimp only at hSw); first | (go_simp; done) | (go_simp; with_reducible rfl))
            change wpAnyH _ _ _ _ _ _ _ (Act.put _ (some 36) _) _
            simp only [Act.put, lsA, lsB, lsC]
            refine wpT (i := 20) (v := ?_) rfl (Or.inl ⟨by rfl, ?_⟩) hHeld ?_
            rotate_left 1
            · (intro w' hSw; (try dsimp only at hSw); first | (go_simp; done) | (go_simp; with_reducible rfl))
            change wpAnyH _ _ _ _ _ _ _ (Act.put _ (some 37) _) _
            simp only [Act.put, lsA, lsB, lsC]
            refine wpT (i := 21) (v := ?_) rfl (Or.inl ⟨by rfl, ?_⟩) hHeld ?_
            rotate_left 1
            · (intro w' hSw; (try dsimp only at hSw); first | (go_simp; done) | (go_simp; with_reducible rfl))
            change wpAnyH _ _ _ _ _ _ _ (Act.put _ (some 38) _) _
            simp only [Act.put, lsA, lsB, lsC]
            refine wpAnyH_ready (rs := [22]) (by kernel_rfl) (by simp) ?_
            refine AllReadyH.cons rfl (fun K hK => ?_) AllReadyH.nil
            go_simp
            refine (KA.out _ hHeld).mono ?_
            rintro e w' ⟨rfl, hg⟩
            go_wp2_with fail
            refine hK.out _ _ hg (fun hHeld => ?_)
            clear hK K
            try simp only [Act.put, lsA, lsB, lsC]
            refine wpT (i := 23) (v := ?_) rfl (Or.inl ⟨by rfl, ?_⟩) hHeld ?_
            rotate_left 1
            · (intro w' hSw; (try dsimp only at hSw); first | (go_simp; done) | (go_simp; with_reducible rfl))
            change wpAnyH _ _ _ _ _ _ _ (Act.put _ (some 40) _) _
            simp only [Act.put, lsA, lsB, lsC]
            refine wpT (i := 24) (v := ?_) rfl (Or.inl ⟨by rfl, ?_⟩) hHeld ?_
            rotate_left 1
            · (intro w' hSw; (try dsimp only at hSw); first | (go_simp; done) | (go_simp; with_reducible rfl))
            change wpAnyH _ _ _ _ _ _ _ (Act.put _ (some 41) _) _
            simp only [Act.put, lsA, lsB, lsC]
            refine wpT (i := 25) (v := ?_) rfl (Or.inl ⟨by rfl, ?_⟩) hHeld ?_
            rotate_left 1
            · (intro w' hSw; (try dsimp only at hSw); first | (go_simp; done) | (go_simp; with_reducible rfl))
            change wpAnyH _ _ _ _ _ _ _ (Act.put _ (some 42) _) _
            simp only [Act.put, lsA, lsB, lsC]
            refine wpT (i := 26) (v := undef) rfl (Or.inr ⟨by rfl, rfl⟩) hHeld ?_
            change wpAnyH _ _ _ _ _ _ _ (Act.put _ (some 43) _) _
            simp only [Act.put, lsA, lsB, lsC]
            refine wpT (i := 27) (v := undef) rfl (Or.inr ⟨by rfl, rfl⟩) hHeld ?_
            change wpAnyH _ _ _ _ _ _ _ (Act.put _ (some 44) _) _
            simp only [Act.put, lsA, lsB, lsC]
            refine wpT (i := 28) (v := undef) rfl (Or.inr ⟨by rfl, rfl⟩) hHeld ?_
            change wpAnyH _ _ _ _ _ _ _ (Act.put _ (some 45) _) _
            simp only [Act.put, lsA, lsB, lsC]
            refine wpT (i := 29) (v := undef) rfl (Or.inr ⟨by rfl, rfl⟩) hHeld ?_
            change wpAnyH _ _ _ _ _ _ _ (Act.put _ (some 46) _) _
            simp only [Act.put, lsA, lsB, lsC]
            refine wpT (i := 30) (v := undef) rfl (Or.inr ⟨by rfl, rfl⟩) hHeld ?_
            change wpAnyH _ _ _ _ _ _ _ (Act.put _ (some 47) _) _
            simp only [Act.put, lsA, lsB, lsC]
            refine wpT (i := 31) (v := undef) rfl (Or.inr ⟨by rfl, rfl⟩) hHeld ?_
            change wpAnyH _ _ _ _ _ _ _ (Act.put _ (some 48) _) _
            simp only [Act.put, lsA, lsB, lsC]
            refine wpT (i := 32) (v := undef) rfl (Or.inr ⟨by rfl, rfl⟩) hHeld ?_
            change wpAnyH _ _ _ _ _ _ _ (Act.put _ (some 49) _) _
            simp only [Act.put, lsA, lsB, lsC]
            refine wpT (i := 33) (v := undef) rfl (Or.inr ⟨by rfl, rfl⟩) hHeld ?_
            change wpAnyH _ _ _ _ _ _ _ (Act.put _ (some 50) _) _
            simp only [Act.put, lsA, lsB, lsC]
            refine wpT (i := 34) (v := undef) rfl (Or.inr ⟨by rfl, rfl⟩) hHeld ?_
            change wpAnyH _ _ _ _ _ _ _ (Act.put _ (some 51) _) _
            simp only [Act.put, lsA, lsB, lsC]
            refine wpT (i := 35) (v := undef) rfl (Or.inr ⟨by rfl, rfl⟩) hHeld ?_
            change wpAnyH _ _ _ _ _ _ _ (Act.put _ (some 52) _) _
            simp only [Act.put, lsA, lsB, lsC]
            refine wpT (i := 36) (v := undef) rfl (Or.inr ⟨by rfl, rfl⟩) hHeld ?_
            change wpAnyH _ _ _ _ _ _ _ (Act.put _ (some 53) _) _
            simp only [Act.put, lsA, lsB, lsC]
            refine wpT (i := 37) (v := undef) rfl (Or.inr ⟨by rfl, rfl⟩) hHeld ?_
            change wpAnyH _ _ _ _ _ _ _ (Act.put _ (some 54) _) _
            simp only [Act.put, lsA, lsB, lsC]
            refine wpT (i := 38) (v := ?_) rfl (Or.inl ⟨by rfl, ?_⟩) hHeld ?_
            rotate_left 1
            · (intro w' hSw; (try dsimp only at hSw); first | (go_simp; done) | (go_simp; with_reducible rfl))
            change wpAnyH _ _ _ _ _ _ _ (Act.put _ (some 55) _) _
            simp only [Act.put, lsA, lsB, lsC]
            refine wpAnyH_done (by kernel_rfl) ?_ _
            have HR3 := Lib.hid (HR2.out _ hHeld)
            clear HR2 hHeld
            go_wp2_with fail
            exact HR3.out
        · have fbr : (br != bq) = true := by simpa using hbr
          have hd0 : D = false := by rw [← HDE.out, decide_eq_false hbr]; rfl
          have HR2 := Lib.hid (HRET.out hd0)
          clear HRET HGO HDE KA KB
          go_wp2_with fail
          refine wp_region_held_drew (S := (fun W => W.cell? ⟨g, off + j * 5, none⟩ = some (.bool s1) ∧ W.cell? ⟨g, off + j * 5 + 1, none⟩ = some (.slice p1 m1 k1) ∧ W.cell? ⟨g, off + j * 5 + 2, none⟩ = some (.bool s2) ∧ W.cell? ⟨g, off + j * 5 + 3, none⟩ = some (.slice p2 m2 k2) ∧ W.cell? ⟨g, off + j * 5 + 4, none⟩ = some (.bool br) ∧ W.cell? ⟨g', off' + j * 5, none⟩ = some (.bool t1) ∧ W.cell? ⟨g', off' + j * 5 + 1, none⟩ = some (.slice q1 n1 d1) ∧ W.cell? ⟨g', off' + j * 5 + 2, none⟩ = some (.bool t2) ∧ W.cell? ⟨g', off' + j * 5 + 3, none⟩ = some (.slice q2 n2 d2) ∧ W.cell? ⟨g', off' + j * 5 + 4, none⟩ = some (.bool bq) ∧ Below w.heap.size w W)) (by kernel_rfl) HD0 (fun hHeld => ?_)
          refine wpT (i := 0) (v := ?_) rfl (Or.inl ⟨by rfl, ?_⟩) hHeld ?_
          rotate_left 1
          · (intro w' hSw; (try dsimp only at hSw); first | (go_simp; done) | (go_simp; with_reducible rfl))
          change wpAnyH _ _ _ _ _ _ _ (Act.put _ (some 17) _) _
          simp only [Act.put, lsA, lsB, lsC]
          refine wpT (i := 1) (v := ?_) rfl (Or.inl ⟨by rfl, ?_⟩) hHeld ?_
          rotate_left 1
          · (intro w' hSw; (try dsimp only at hSw); first | (go_simp; done) | (go_simp; with_reducible rfl))
          change wpAnyH _ _ _ _ _ _ _ (Act.put _ (some 18) _) _
          simp only [Act.put, lsA, lsB, lsC]
          refine wpT (i := 2) (v := ?_) rfl (Or.inl ⟨by rfl, ?_⟩) hHeld ?_
          rotate_left 1
          · (intro w' hSw; (try dsimp only at hSw); first | (go_simp; done) | (go_simp; with_reducible rfl))
          change wpAnyH _ _ _ _ _ _ _ (Act.put _ (some 19) _) _
          simp only [Act.put, lsA, lsB, lsC]
          refine wpT (i := 3) (v := ?_) rfl (Or.inl ⟨by rfl, ?_⟩) hHeld ?_
          rotate_left 1
          · (intro w' hSw; (try dsimp only at hSw); first | (go_simp; done) | (go_simp; with_reducible rfl))
          change wpAnyH _ _ _ _ _ _ _ (Act.put _ (some 20) _) _
          simp only [Act.put, lsA, lsB, lsC]
          refine wpT (i := 4) (v := ?_) rfl (Or.inl ⟨by rfl, ?_⟩) hHeld ?_
          rotate_left 1
          · (intro w' hSw; (try dsimp only at hSw); first | (go_simp; done) | (go_simp; with_reducible rfl))
          change wpAnyH _ _ _ _ _ _ _ (Act.put _ (some 21) _) _
          simp only [Act.put, lsA, lsB, lsC]
          refine wpT (i := 5) (v := ?_) rfl (Or.inl ⟨by rfl, ?_⟩) hHeld ?_
          rotate_left 1
          · (intro w' hSw; (try dsimp only at hSw); first | (go_simp; done) | (go_simp; with_reducible rfl))
          change wpAnyH _ _ _ _ _ _ _ (Act.put _ (some 22) _) _
          simp only [Act.put, lsA, lsB, lsC]
          refine wpT (i := 6) (v := ?_) rfl (Or.inl ⟨by rfl, ?_⟩) hHeld ?_
          rotate_left 1
          · (intro w' hSw; (try dsimp only at hSw); first | (go_simp; done) | (go_simp; with_reducible rfl))
          change wpAnyH _ _ _ _ _ _ _ (Act.put _ (some 23) _) _
          simp only [Act.put, lsA, lsB, lsC]
          refine wpT (i := 7) (v := ?_) rfl (Or.inl ⟨by rfl, ?_⟩) hHeld ?_
          rotate_left 1
          · (intro w' hSw; (try dsimp only at hSw); first | (go_simp; done) | (go_simp; with_reducible rfl))
          change wpAnyH _ _ _ _ _ _ _ (Act.put _ (some 24) _) _
          simp only [Act.put, lsA, lsB, lsC]
          refine wpT (i := 8) (v := ?_) rfl (Or.inl ⟨by rfl, ?_⟩) hHeld ?_
          rotate_left 1
          · (intro w' hSw; (try dsimp only at hSw); first | (go_simp; done) | (go_simp; with_reducible rfl))
          change wpAnyH _ _ _ _ _ _ _ (Act.put _ (some 25) _) _
          simp only [Act.put, lsA, lsB, lsC]
          refine wpT (i := 9) (v := ?_) rfl (Or.inl ⟨by rfl, ?_⟩) hHeld ?_
          rotate_left 1
          · (intro w' hSw; (try dsimp only at hSw); first | (go_simp; done) | (go_simp; with_reducible rfl))
          change wpAnyH _ _ _ _ _ _ _ (Act.put _ (some 26) _) _
          simp only [Act.put, lsA, lsB, lsC]
          refine wpT (i := 10) (v := .bool true) rfl (Or.inl ⟨by rfl, ?_⟩) hHeld ?_
          · (intro w' hSw; (try dsimp only at hSw); go_simp; done)
          change wpAnyH _ _ _ _ _ _ _ (Act.put _ (some 27) _) _
          simp only [Act.put, lsA, lsB, lsC]
          refine wpT (i := 11) (v := ?_) rfl (Or.inl ⟨by rfl, ?_⟩) hHeld ?_
          rotate_left 1
          · (intro w' hSw; (try dsimp only at hSw); first | (go_simp; done) | (go_simp; with_reducible rfl))
          change wpAnyH _ _ _ _ _ _ _ (Act.put _ (some 28) _) _
          simp only [Act.put, lsA, lsB, lsC]
          refine wpT (i := 12) (v := undef) rfl (Or.inr ⟨by rfl, rfl⟩) hHeld ?_
          change wpAnyH _ _ _ _ _ _ _ (Act.put _ (some 29) _) _
          simp only [Act.put, lsA, lsB, lsC]
          refine wpT (i := 13) (v := undef) rfl (Or.inr ⟨by rfl, rfl⟩) hHeld ?_
          change wpAnyH _ _ _ _ _ _ _ (Act.put _ (some 30) _) _
          simp only [Act.put, lsA, lsB, lsC]
          refine wpT (i := 14) (v := undef) rfl (Or.inr ⟨by rfl, rfl⟩) hHeld ?_
          change wpAnyH _ _ _ _ _ _ _ (Act.put _ (some 31) _) _
          simp only [Act.put, lsA, lsB, lsC]
          refine wpT (i := 15) (v := undef) rfl (Or.inr ⟨by rfl, rfl⟩) hHeld ?_
          change wpAnyH _ _ _ _ _ _ _ (Act.put _ (some 32) _) _
          simp only [Act.put, lsA, lsB, lsC]
          refine wpT (i := 16) (v := undef) rfl (Or.inr ⟨by rfl, rfl⟩) hHeld ?_
          change wpAnyH _ _ _ _ _ _ _ (Act.put _ (some 33) _) _
          simp only [Act.put, lsA, lsB, lsC]
          refine wpT (i := 17) (v := undef) rfl (Or.inr ⟨by rfl, rfl⟩) hHeld ?_
          change wpAnyH _ _ _ _ _ _ _ (Act.put _ (some 34) _) _
          simp only [Act.put, lsA, lsB, lsC]
          refine wpT (i := 18) (v := undef) rfl (Or.inr ⟨by rfl, rfl⟩) hHeld ?_
          change wpAnyH _ _ _ _ _ _ _ (Act.put _ (some 35) _) _
          simp only [Act.put, lsA, lsB, lsC]
          refine wpT (i := 19) (v := undef) rfl (Or.inr ⟨by rfl, rfl⟩) hHeld ?_
          change wpAnyH _ _ _ _ _ _ _ (Act.put _ (some 36) _) _
          simp only [Act.put, lsA, lsB, lsC]
          refine wpT (i := 20) (v := undef) rfl (Or.inr ⟨by rfl, rfl⟩) hHeld ?_
          change wpAnyH _ _ _ _ _ _ _ (Act.put _ (some 37) _) _
          simp only [Act.put, lsA, lsB, lsC]
          refine wpT (i := 21) (v := undef) rfl (Or.inr ⟨by rfl, rfl⟩) hHeld ?_
          change wpAnyH _ _ _ _ _ _ _ (Act.put _ (some 38) _) _
          simp only [Act.put, lsA, lsB, lsC]
          refine wpT (i := 22) (v := undef) rfl (Or.inr ⟨by rfl, rfl⟩) hHeld ?_
          change wpAnyH _ _ _ _ _ _ _ (Act.put _ (some 39) _) _
          simp only [Act.put, lsA, lsB, lsC]
          refine wpT (i := 23) (v := undef) rfl (Or.inr ⟨by rfl, rfl⟩) hHeld ?_
          change wpAnyH _ _ _ _ _ _ _ (Act.put _ (some 40) _) _
          simp only [Act.put, lsA, lsB, lsC]
          refine wpT (i := 24) (v := ?_) rfl (Or.inl ⟨by rfl, ?_⟩) hHeld ?_
          rotate_left 1
          · (intro w' hSw; (try dsimp only at hSw); first | (go_simp; done) | (go_simp; with_reducible rfl))
          change wpAnyH _ _ _ _ _ _ _ (Act.put _ (some 41) _) _
          simp only [Act.put, lsA, lsB, lsC]
          refine wpT (i := 25) (v := ?_) rfl (Or.inl ⟨by rfl, ?_⟩) hHeld ?_
          rotate_left 1
          · (intro w' hSw; (try dsimp only at hSw); first | (go_simp; done) | (go_simp; with_reducible rfl))
          change wpAnyH _ _ _ _ _ _ _ (Act.put _ (some 42) _) _
          simp only [Act.put, lsA, lsB, lsC]
          refine wpT (i := 26) (v := undef) rfl (Or.inr ⟨by rfl, rfl⟩) hHeld ?_
          change wpAnyH _ _ _ _ _ _ _ (Act.put _ (some 43) _) _
          simp only [Act.put, lsA, lsB, lsC]
          refine wpT (i := 27) (v := undef) rfl (Or.inr ⟨by rfl, rfl⟩) hHeld ?_
          change wpAnyH _ _ _ _ _ _ _ (Act.put _ (some 44) _) _
          simp only [Act.put, lsA, lsB, lsC]
          refine wpT (i := 28) (v := undef) rfl (Or.inr ⟨by rfl, rfl⟩) hHeld ?_
          change wpAnyH _ _ _ _ _ _ _ (Act.put _ (some 45) _) _
          simp only [Act.put, lsA, lsB, lsC]
          refine wpT (i := 29) (v := undef) rfl (Or.inr ⟨by rfl, rfl⟩) hHeld ?_
          change wpAnyH _ _ _ _ _ _ _ (Act.put _ (some 46) _) _
          simp only [Act.put, lsA, lsB, lsC]
          refine wpT (i := 30) (v := undef) rfl (Or.inr ⟨by rfl, rfl⟩) hHeld ?_
          change wpAnyH _ _ _ _ _ _ _ (Act.put _ (some 47) _) _
          simp only [Act.put, lsA, lsB, lsC]
          refine wpT (i := 31) (v := undef) rfl (Or.inr ⟨by rfl, rfl⟩) hHeld ?_
          change wpAnyH _ _ _ _ _ _ _ (Act.put _ (some 48) _) _
          simp only [Act.put, lsA, lsB, lsC]
          refine wpT (i := 32) (v := undef) rfl (Or.inr ⟨by rfl, rfl⟩) hHeld ?_
          change wpAnyH _ _ _ _ _ _ _ (Act.put _ (some 49) _) _
          simp only [Act.put, lsA, lsB, lsC]
          refine wpT (i := 33) (v := undef) rfl (Or.inr ⟨by rfl, rfl⟩) hHeld ?_
          change wpAnyH _ _ _ _ _ _ _ (Act.put _ (some 50) _) _
          simp only [Act.put, lsA, lsB, lsC]
          refine wpT (i := 34) (v := undef) rfl (Or.inr ⟨by rfl, rfl⟩) hHeld ?_
          change wpAnyH _ _ _ _ _ _ _ (Act.put _ (some 51) _) _
          simp only [Act.put, lsA, lsB, lsC]
          refine wpT (i := 35) (v := undef) rfl (Or.inr ⟨by rfl, rfl⟩) hHeld ?_
          change wpAnyH _ _ _ _ _ _ _ (Act.put _ (some 52) _) _
          simp only [Act.put, lsA, lsB, lsC]
          refine wpT (i := 36) (v := undef) rfl (Or.inr ⟨by rfl, rfl⟩) hHeld ?_
          change wpAnyH _ _ _ _ _ _ _ (Act.put _ (some 53) _) _
          simp only [Act.put, lsA, lsB, lsC]
          refine wpT (i := 37) (v := undef) rfl (Or.inr ⟨by rfl, rfl⟩) hHeld ?_
          change wpAnyH _ _ _ _ _ _ _ (Act.put _ (some 54) _) _
          simp only [Act.put, lsA, lsB, lsC]
          refine wpT (i := 38) (v := ?_) rfl (Or.inl ⟨by rfl, ?_⟩) hHeld ?_
          rotate_left 1
          · (intro w' hSw; (try dsimp only at hSw); first | (go_simp; done) | (go_simp; with_reducible rfl))
          change wpAnyH _ _ _ _ _ _ _ (Act.put _ (some 55) _) _
          simp only [Act.put, lsA, lsB, lsC]
          refine wpAnyH_done (by kernel_rfl) ?_ _
          have HR3 := Lib.hid (HR2.out _ hHeld)
          clear HR2 hHeld
          go_wp2_with fail
          exact HR3.out
      · obtain rfl : j = n := by omega
        have e1 : decide (((j : Nat) : Int) < ((j : Nat) : Int)) = false := decide_eq_false (by omega)
        have hT := HT.out
        rw [List.take_of_length_le (by rw [HN.out]; exact Nat.le_refl _), List.take_of_length_le (by rw [HKK.out]; exact Nat.le_refl _)] at hT
        have HQ := Lib.hid (ANS.out true wr (decide_eq_true hT) HBR.out)
        clear hT HT ANS
        go_wp2_with fail
        exact HQ.out
  · have HQ := Lib.hid (ANS.out false w (decide_eq_false fun h => hnk (by rw [← HN.out, ← HKK.out]; simpa using congrArg List.length h)) (Below.refl _ _))
    have hb : (((n : Nat) : Int) != ((k : Nat) : Int)) = true := by simp; omega
    clear ANS
    go_wp2_with fail
    exact HQ.out
end Go.Proofs.YtnmhdcbpbaanoaaGreatDoor
