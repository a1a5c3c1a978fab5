/- Shaken by bunq.py. -/
import Derived.Test.YtnmhdcbpbaanoaaGreatDoorBuq8
import Derived.Deep.QuietTactic
import Derived.Test.YtnmhdcbpbaanoaaGreatDoorBuq19
import Derived.Maps.OwnSet
import Derived.Test.YtnmhdcbpbaanoaaGreatDoorBuq16
namespace Go.Proofs.YtnmhdcbpbaanoaaGreatDoor
open Go.RowKit Go.Shelf Go.Maps
attribute [local go_sem] Oper.semAt_some

theorem eq_int1Q (d : Nat) (a b : Int) (w : World) : (Op.equalIn (d + 1) 3 (.int .i64 a) (.int .i64 b)).run Tryz.prog w = .ok (a == b) w := by
  simp [Op.equalIn, Sem.run_bind, run_underlying Tryz.underlying3 w]
theorem eq_int2Q (d : Nat) (a b : Int) (w : World) : (Op.equalIn (d + 1) 2 (.int .i64 a) (.int .i64 b)).run Tryz.prog w = .ok (a == b) w := by
  simp [Op.equalIn, Sem.run_bind, run_underlying Tryz.underlying2 w]
theorem neq_it (a b a2 b2 : Int) (w : World) : (binOp .neq 97 (.agg #[.int .i64 a, .int .i64 b]) (.agg #[.int .i64 a2, .int .i64 b2])).run Tryz.prog w = .ok (.bool (!decide (((a, b) : ItemP) = (a2, b2)))) w := by
  have hf : Tryz.prog.stoodInHeld 97 = false := by kernel_rfl
  have hfs : (Tryz.prog.fieldsOf 97).toList.map (fun f => (f.name != "_", f.type, f.offset)) = [(true, 2, 0), (true, 3, 1)] := by kernel_rfl
  have p0 : ∀ x y : Int, (part 2 #[.int .i64 x, .int .i64 y] 0).run Tryz.prog w = .ok (.int .i64 x) w := fun x y => by kernel_rfl
  have p1 : ∀ x y : Int, (part 3 #[.int .i64 x, .int .i64 y] 1).run Tryz.prog w = .ok (.int .i64 y) w := fun x y => by kernel_rfl
  have h2 : ∀ d, (Op.eqFields (d + 1) #[.int .i64 a, .int .i64 b] #[.int .i64 a2, .int .i64 b2] (Tryz.prog.fieldsOf 97).toList).run Tryz.prog w = .ok (decide (((a, b) : ItemP) = (a2, b2))) w := by
    intro d
    generalize (Tryz.prog.fieldsOf 97).toList = fs at hfs
    rcases fs with _ | ⟨f, _ | ⟨g, _ | ⟨i, fs⟩⟩⟩
    · simp at hfs
    · simp at hfs
    · simp only [List.map_cons, List.map_nil, List.cons.injEq, Prod.mk.injEq, and_true] at hfs
      obtain ⟨⟨e1, e2, e3⟩, f1, f2, f3⟩ := hfs
      have e1' : f.name ≠ "_" := by simpa using e1
      have f1' : g.name ≠ "_" := by simpa using f1
      by_cases k1 : a = a2 <;> by_cases k2 : b = b2 <;>
        simp [Op.eqFields, e1', f1', e2, e3, f2, f3, Sem.run_bind, p0, p1, eq_int1Q, eq_int2Q, Result.andThen, Sem.run_pure, k1, k2]
    · simp at hfs
  rw [run_neq_struct, run_equalIn_agg w 9999 97 _ _ (by kernel_rfl) hf, h2 9998]
  rfl
attribute [local go_sem high] neq_it
theorem below_drewQ1 (w : World) (q : Nat) : Below w.heap.size w (w.drewN q) := Moves.below (Below.refl _ _) (Nat.le_refl _) (moves_drewNQ _ _) (fun _ h => h.elim)
theorem below_drewQ2 (w : World) (q p : Nat) : Below w.heap.size w ((w.drewN q).drewN p) := by rw [World.drewN_drewN]; exact below_drewQ1 _ _
theorem take_eqI {l l2 : List ItemP} {j : Nat} {x y : ItemP} (h : l.take j = l2.take j) (hx : l[j]? = some x) (hy : l2[j]? = some y) (hxy : x = y) : l.take (j + 1) = l2.take (j + 1) := by
  rw [List.take_add_one, List.take_add_one, hx, hy, h, hxy]
theorem neq_decQ (a b a2 b2 : Int) : (!decide (a = a2) || !decide (b = b2)) = !decide (((a, b) : ItemP) = (a2, b2)) := by
  by_cases h1 : a = a2 <;> by_cases h2 : b = b2 <;> simp [h1, h2]
set_option maxRecDepth 100000 in
set_option maxHeartbeats 2000000 in
theorem equalI_any (o o2 : Option Addr) (l l2 : List ItemP) (cap cap2 : Nat) (hn : l.length ≤ 1000000) (w : World) (hA : AtI w o l) (hA2 : AtI w o2 l2) :
    Calls Tryz.prog 108 #[.slice o l.length cap, .slice o2 l2.length cap2] w fun e w' => e = .returned (.bool (decide (l = l2))) ∧ Below w.heap.size w w' := by
  obtain ⟨n, hnn⟩ : ∃ n, l.length = n := ⟨_, rfl⟩
  obtain ⟨n2, hnn2⟩ : ∃ n, l2.length = n := ⟨_, rfl⟩
  rw [hnn] at hn ⊢
  rw [hnn2]
  have HN := Lib.hid hnn
  have HN2 := Lib.hid hnn2
  have HA := Lib.hid hA
  have HA2 := Lib.hid hA2
  obtain ⟨P, hP⟩ : ∃ P, (fun (e : Ending) w' => e = .returned (.bool (decide (l = l2))) ∧ Below w.heap.size w w') = P := ⟨_, rfl⟩
  have HP := Lib.hid hP
  rw [hP]
  clear hP hA hA2 hnn hnn2
  go_enter Tryz.func108, Tryz.ntmps108
  by_cases hnl : n = n2
  · subst hnl
    go_wp2_with fail
    go_loopg [13] n (fun k v wr => ∃ (j q : Nat), v = .int .i64 (j : Nat) ∧ j ≤ n ∧ k = n - j ∧ l.take j = l2.take j ∧ wr = w.drewN q)
    case atStart => exact ⟨0, 0, rfl, Nat.zero_le _, rfl, rfl, rfl⟩
    case round =>
      obtain ⟨j, q, rfl, hj, rfl, htk, rfl⟩ := hrel
      rcases Nat.lt_or_ge j n with hlt | hge
      · have hj1 : j < 1000000 := by omega
        obtain ⟨x, hx⟩ : ∃ x, l[j]? = some x := ⟨_, List.getElem?_eq_getElem (by rw [HN.out]; exact hlt)⟩
        obtain ⟨y, hy⟩ : ∃ y, l2[j]? = some y := ⟨_, List.getElem?_eq_getElem (by rw [HN2.out]; exact hlt)⟩
        obtain ⟨g, off, rfl, hc⟩ := HA.out (by rw [HN.out]; omega)
        obtain ⟨k0, k1⟩ := hc j x hx
        obtain ⟨g2, off2, rfl, hc2⟩ := HA2.out (by rw [HN2.out]; omega)
        obtain ⟨m0, m1⟩ := hc2 j y hy
        have hg := World.block_lt_of_cell? w _ k0
        have hg2 := World.block_lt_of_cell? w _ m0
        have HX := Lib.hid hx
        have HY := Lib.hid hy
        have HT := Lib.hid htk
        obtain ⟨a, b⟩ := x
        obtain ⟨a2, b2⟩ := y
        simp only at k0 k1 m0 m1
        clear hc hc2 hx hy htk
        go_wp2_with fail
        go_quiet (fail)
        try rw [neq_decQ]
        by_cases hxy : ((a, b) : ItemP) = (a2, b2)
        · have HT2 := Lib.hid (take_eqI HT.out HX.out HY.out hxy)
          rw [decide_eq_true hxy]
          clear hxy
          go_wp2
          go_roundg (n - (j + 1))
          case measure => omega
          case rel => exact ⟨j + 1, q + nq, by simp, by omega, rfl, HT2.out, rfl⟩
        · have HPP : Hid (P (.returned (.bool false)) ((w.drewN q).drewN nq)) := by
            rw [← HP.out]
            refine Lib.hid ⟨?_, below_drewQ2 _ _ _⟩
            rw [decide_eq_false fun he => hxy ?_]
            have h1 := HX.out
            rw [he, HY.out] at h1
            exact (Option.some.inj h1).symm
          rw [decide_eq_false hxy]
          clear hxy
          go_wp2
          exact HPP.out
      · obtain rfl : j = n := by omega
        have HPP : Hid (P (.returned (.bool true)) (w.drewN q)) := by
          rw [← HP.out]
          refine Lib.hid ⟨?_, below_drewQ1 _ _⟩
          have h := htk
          rw [List.take_of_length_le (by rw [HN.out]; exact Nat.le_refl _), List.take_of_length_le (by rw [HN2.out]; exact Nat.le_refl _)] at h
          rw [decide_eq_true h]
        clear htk
        go_wp2
        exact HPP.out
  · have HPP : Hid (P (.returned (.bool false)) w) := by
      rw [← HP.out]
      refine Lib.hid ⟨?_, Below.refl _ _⟩
      rw [decide_eq_false fun he => hnl ?_]
      rw [← HN.out, ← HN2.out, he]
    go_wp2
    exact HPP.out
def sameB (s1 s2 : Bool) (xs ys : List ItemP) : Bool := decide (s1 = s2) && decide (xs = ys)
set_option maxHeartbeats 1000000 in
theorem Same_anyQ (s1 s2 : Bool) (o o2 : Option Addr) (l l2 : List ItemP) (cap cap2 : Nat) (hn : l.length ≤ 1000000) (w : World) (hA : AtI w o l) (hA2 : AtI w o2 l2) :
    Calls Tryz.prog 77 #[patV s1 o l.length cap, patV s2 o2 l2.length cap2] w fun e w' => e = .returned (.bool (sameB s1 s2 l l2)) ∧ Below w.heap.size w w' := by
  obtain ⟨n, hnn⟩ : ∃ n, l.length = n := ⟨_, rfl⟩
  obtain ⟨n2, hnn2⟩ : ∃ n, l2.length = n := ⟨_, rfl⟩
  obtain ⟨w1, hw1⟩ : ∃ w1, (w.alloc (patO s1 o n cap)).alloc (patO s2 o2 n2 cap2) = w1 := ⟨_, rfl⟩
  have b1 : Below w.heap.size w w1 := by rw [← hw1]; exact ((Below.refl _ _).alloc (Nat.le_refl _) _).alloc (by simp) _
  have HE := Lib.hid (equalI_any o o2 l l2 cap cap2 hn w1 (hA.below b1) (hA2.below b1))
  obtain ⟨d, hd⟩ : ∃ d, decide (l = l2) = d := ⟨_, rfl⟩
  unfold sameB
  rw [hd] at HE ⊢
  rw [hnn, hnn2] at HE
  rw [hnn, hnn2]
  have HW := Lib.hid hw1
  have HB := Lib.hid b1
  obtain ⟨P, hP⟩ : ∃ P, (fun (e : Ending) w' => e = .returned (.bool (decide (s1 = s2) && d)) ∧ Below w.heap.size w w') = P := ⟨_, rfl⟩
  have HP := Lib.hid hP
  rw [hP]
  by_cases hs : s1 = s2
  · have FIN : Hid (∀ W, Below w1.heap.size w1 W → P (.returned (.bool d)) W) := Lib.hid fun W hb => by
      rw [← HP.out]
      exact ⟨by rw [decide_eq_true hs, Bool.true_and], HB.out.trans (hb.mono HB.out.size)⟩
    subst hs
    have hbb : (s1 == s1) = true := by cases s1 <;> rfl
    clear hnn hnn2 b1 hd hP hA hA2 hn
    rw [← hw1] at HE FIN
    clear HW HB hw1
    go_enter Tryz.func77, Tryz.ntmps77
    go_wp2_with fail
    refine HE.out.mono ?_
    rintro e w2 ⟨rfl, b2⟩
    have HQ := Lib.hid (FIN.out w2 b2)
    clear b2
    go_wp2
    first | exact HQ.out | (go_ret; exact HQ.out)
  · have HQ : Hid (P (.returned (.bool false)) w1) := by
      rw [← HP.out]
      exact Lib.hid ⟨by rw [decide_eq_false hs, Bool.false_and], HB.out⟩
    have hbb : (s1 == s2) = false := by
      cases s1 <;> cases s2 <;> first | rfl | exact absurd rfl hs
    rw [← hw1] at HQ
    clear hnn hnn2 b1 hd hP hA hA2 hn HW HB hw1 hs HE
    go_enter Tryz.func77, Tryz.ntmps77
    go_wp2
    first | exact HQ.out | (go_ret; exact HQ.out)
end Go.Proofs.YtnmhdcbpbaanoaaGreatDoor
namespace Go.Proofs.YtnmhdcbpbaanoaaGreatDoor
open Go.RowKit Go.Shelf Go.Maps
attribute [local go_sem] Oper.semAt_some

theorem printUE_is (ns : List ByteArray) (l : List RuleP) : errNJ (printedR ns l) = printUE ns l := by
  unfold printedR printUE
  split
  · split <;> rfl
  · rfl
set_option maxRecDepth 100000 in
set_option maxHeartbeats 4000000 in
theorem PrintJ_any (o on : Option Addr) (l : List RulX) (ns : List ByteArray) (cap ncap : Nat) (hn : ns.length ≤ 1000) (hz : ∀ s ∈ ns, s.size ≤ 1000) (hl : l.length ≤ 1000000) (hfw : FewC l) (w : World) (aU aS : Addr) (hQ : GlobQ w aU aS) (hG : KGlob w) (hA : AtC w o l) (hI : ItsC w l) (hN : TxtAt w on ns) :
    Calls Tryz.prog 24 #[.slice o l.length cap, .slice on ns.length ncap] w fun e w' => e = .returned (.tuple #[strV (printUV ns (l.map plX)), .int .i64 (printUE ns (l.map plX))]) ∧ Below w.heap.size w w' := by
  have HC := Lib.hid (printedJ_any o on l ns cap ncap hn hz hl hfw w aU aS hQ hG hA hI hN)
  have HT := Lib.hid (fun W (hb : Below w.heap.size w W) => toldJ_any (printedR ns (l.map plX)) W (hG.below hb))
  rw [printUE_is] at HT
  obtain ⟨T, hT⟩ : ∃ T, printUV ns (l.map plX) = T := ⟨_, rfl⟩
  obtain ⟨E, hE⟩ : ∃ E, errVJ (printedR ns (l.map plX)) = E := ⟨_, rfl⟩
  obtain ⟨c, hc⟩ : ∃ c, printUE ns (l.map plX) = c := ⟨_, rfl⟩
  obtain ⟨n, hnn⟩ : ∃ n, l.length = n := ⟨_, rfl⟩
  obtain ⟨k, hkk⟩ : ∃ k, ns.length = k := ⟨_, rfl⟩
  rw [hT, hE, hnn, hkk] at HC
  rw [hE, hc] at HT
  rw [hT, hc, hnn, hkk]
  clear hT hE hc hnn hkk hA hI hN hQ hG hn hz hl hfw
  go_enter Tryz.func24, Tryz.ntmps24
  go_wp2_with fail
  refine HC.out.mono ?_
  rintro e w3 ⟨rfl, b3⟩
  have HB3 := Lib.hid b3
  have HD := Lib.hid (HT.out w3 b3)
  clear b3
  go_wp2_with fail
  refine HD.out.mono ?_
  rintro e w4 ⟨rfl, b4⟩
  have HB4 := Lib.hid (HB3.out.trans (b4.mono HB3.out.size))
  clear b4
  go_wp2_with fail
  exact bodyPost_ret (results_tmp2 (t := 4) (u := 5) rfl _ _ _) rfl ⟨rfl, HB4.out⟩
theorem same_plX (x y : RulX) : (decide (x.2.2 = y.2.2) && sameB x.1.1 y.1.1 x.1.2.2.1 y.1.2.2.1 && sameB x.2.1.1 y.2.1.1 x.2.1.2.2.1 y.2.1.2.2.1) = decide (plX x = plX y) := by
  unfold sameB
  rw [Bool.eq_iff_iff]
  simp only [Bool.and_eq_true, decide_eq_true_eq, plX, plP, Prod.mk.injEq]
  constructor
  · rintro ⟨⟨h1, h2, h3⟩, h4, h5⟩; exact ⟨⟨h2, h3⟩, ⟨h4, h5⟩, h1⟩
  · rintro ⟨⟨h2, h3⟩, ⟨h4, h5⟩, h1⟩; exact ⟨⟨h1, h2, h3⟩, h4, h5⟩
set_option maxRecDepth 100000 in
set_option maxHeartbeats 4000000 in
theorem sameJ_any (x y : RulX) (hfx : FewC [x]) (w : World) (hx : ItsC w [x]) (hy : ItsC w [y]) :
    Calls Tryz.prog 51 #[rulV x, rulV y] w fun e w' => e = .returned (.bool (decide (plX x = plX y))) ∧ Below w.heap.size w w' := by
  obtain ⟨⟨i1, l1⟩, i2, l2⟩ := hx x (by simp)
  obtain ⟨⟨j1, k1⟩, j2, k2⟩ := hy y (by simp)
  obtain ⟨g1, g2⟩ := hfx x (by simp)
  have HS1 := Lib.hid (fun W (hb : Below w.heap.size w W) => Same_anyQ x.1.1 y.1.1 x.1.2.1 y.1.2.1 x.1.2.2.1 y.1.2.2.1 x.1.2.2.2 y.1.2.2.2 (by omega) W (i1.below hb) (j1.below hb))
  have HS2 := Lib.hid (fun W (hb : Below w.heap.size w W) => Same_anyQ x.2.1.1 y.2.1.1 x.2.1.2.1 y.2.1.2.1 x.2.1.2.2.1 y.2.1.2.2.1 x.2.1.2.2.2 y.2.1.2.2.2 (by omega) W (i2.below hb) (j2.below hb))
  rw [← same_plX]
  obtain ⟨u1, hu1⟩ : ∃ b, sameB x.1.1 y.1.1 x.1.2.2.1 y.1.2.2.1 = b := ⟨_, rfl⟩
  obtain ⟨u2, hu2⟩ : ∃ b, sameB x.2.1.1 y.2.1.1 x.2.1.2.2.1 y.2.1.2.2.1 = b := ⟨_, rfl⟩
  rw [hu1] at HS1 ⊢
  rw [hu2] at HS2 ⊢
  clear i1 i2 j1 j2 l1 l2 k1 k2 g1 g2 hx hy hfx hu1 hu2
  obtain ⟨⟨s1, p1, xs1, c1⟩, ⟨s2, p2, xs2, c2⟩, br⟩ := x
  obtain ⟨⟨t1, q1, ys1, d1⟩, ⟨t2, q2, ys2, d2⟩, bq⟩ := y
  show Calls Tryz.prog 51 #[.agg #[.bool s1, .slice p1 xs1.length c1, .bool s2, .slice p2 xs2.length c2, .bool br], .agg #[.bool t1, .slice q1 ys1.length d1, .bool t2, .slice q2 ys2.length d2, .bool bq]] w fun e w' => e = .returned (.bool (decide (br = bq) && u1 && u2)) ∧ Below w.heap.size w w'
  obtain ⟨m1, hm1⟩ : ∃ k, xs1.length = k := ⟨_, rfl⟩
  obtain ⟨m2, hm2⟩ : ∃ k, xs2.length = k := ⟨_, rfl⟩
  obtain ⟨n1, hn1⟩ : ∃ k, ys1.length = k := ⟨_, rfl⟩
  obtain ⟨n2, hn2⟩ : ∃ k, ys2.length = k := ⟨_, rfl⟩
  simp only [hm1, hm2, hn1, hn2] at HS1 HS2 ⊢
  obtain ⟨w1, hw1⟩ : ∃ w1, w.alloc (.cells #[.bool s1, .slice p1 m1 c1, .bool s2, .slice p2 m2 c2, .bool br] 37) = w1 := ⟨_, rfl⟩
  have b1 : Below w.heap.size w w1 := by rw [← hw1]; exact (Below.refl _ _).alloc (Nat.le_refl _) _
  have z1 : w1.heap.size = w.heap.size + 1 := by rw [← hw1]; simp
  have r1 : w1.heap[w.heap.size]? = some (.cells #[.bool s1, .slice p1 m1 c1, .bool s2, .slice p2 m2 c2, .bool br] 37 (0, 0)) := by rw [← hw1]; exact heap_alloc_new _ _
  obtain ⟨w2, hw2⟩ : ∃ w2, w1.alloc (.cells #[.bool t1, .slice q1 n1 d1, .bool t2, .slice q2 n2 d2, .bool bq] 37) = w2 := ⟨_, rfl⟩
  have b2 : Below w1.heap.size w1 w2 := by rw [← hw2]; exact (Below.refl _ _).alloc (Nat.le_refl _) _
  have r2 : w2.heap[w.heap.size + 1]? = some (.cells #[.bool t1, .slice q1 n1 d1, .bool t2, .slice q2 n2 d2, .bool bq] 37 (0, 0)) := by rw [← hw2, ← z1]; exact heap_alloc_new _ _
  have B2 := b1.trans (b2.mono b1.size)
  obtain ⟨x0, x1, x2, x3, x4⟩ := five_cells (row_below r1 b2)
  obtain ⟨y0, y1, y2, y3, y4⟩ := five_cells r2
  have HR1 := Lib.hid (row_below r1 b2)
  have HR2 := Lib.hid r2
  have HW1 := Lib.hid hw1
  have HW2 := Lib.hid hw2
  have HB := Lib.hid B2
  have HC1 := Lib.hid (HS1.out w2 B2)
  clear hm1 hm2 hn1 hn2 hw1 hw2 b1 b2 r1 r2 B2 z1
  by_cases hbb : br = bq
  · subst hbb
    rw [decide_eq_true rfl]
    cases u1 with
    | true =>
      go_enter Tryz.func51, Tryz.ntmps51
      go_wp2_with fail
      rw [HW1.out]
      try rw [HW2.out]
      refine HC1.out.mono ?_
      rintro e w3 ⟨rfl, b3⟩
      have HB3 := Lib.hid (HB.out.trans (b3.mono HB.out.size))
      clear x0 x1 x2 x3 x4 y0 y1 y2 y3 y4
      obtain ⟨x0, x1, x2, x3, x4⟩ := five_cells (row_below HR1.out b3)
      obtain ⟨y0, y1, y2, y3, y4⟩ := five_cells (row_below HR2.out b3)
      have HC2 := Lib.hid (HS2.out w3 HB3.out)
      clear b3
      go_wp2_with fail
      refine HC2.out.mono ?_
      rintro e w4 ⟨rfl, b4⟩
      have HB4 := Lib.hid (HB3.out.trans (b4.mono HB3.out.size))
      clear b4
      go_wp2_with fail
      go_ret
      exact ⟨by simp, HB4.out⟩
    | false =>
      go_enter Tryz.func51, Tryz.ntmps51
      go_wp2_with fail
      rw [HW1.out]
      try rw [HW2.out]
      refine HC1.out.mono ?_
      rintro e w3 ⟨rfl, b3⟩
      have HB3 := Lib.hid (HB.out.trans (b3.mono HB.out.size))
      clear b3
      go_wp2_with fail
      go_ret
      exact ⟨by simp, HB3.out⟩
  · rw [decide_eq_false hbb]
    have hb2 : (br == bq) = false := by simpa using hbb
    have HBq : Hid (Below w.heap.size w w2) := HB
    go_enter Tryz.func51, Tryz.ntmps51
    go_wp2_with fail
    rw [HW1.out]
    try rw [HW2.out]
    go_ret
    exact ⟨by simp, HB.out⟩
end Go.Proofs.YtnmhdcbpbaanoaaGreatDoor
namespace Go.Proofs.YtnmhdcbpbaanoaaGreatDoor
open Go.RowKit Go.Shelf Go.Maps
attribute [local go_sem] Oper.semAt_some

theorem take_map1 {l m : List RulX} {j : Nat} {x y : RulX} (h : (l.take j).map plX = (m.take j).map plX) (hx : l[j]? = some x) (hy : m[j]? = some y) (he : plX x = plX y) : (l.take (j + 1)).map plX = (m.take (j + 1)).map plX := by
  rw [List.take_add_one, List.take_add_one, hx, hy, List.map_append, List.map_append, h]
  simp [he]
theorem map_ne1 {l m : List RulX} {j : Nat} {x y : RulX} (hx : l[j]? = some x) (hy : m[j]? = some y) (he : plX x ≠ plX y) : l.map plX ≠ m.map plX := fun h => he (by
  have h1 : (l.map plX)[j]? = (m.map plX)[j]? := by rw [h]
  rw [List.getElem?_map, List.getElem?_map, hx, hy] at h1
  exact Option.some.inj h1)
set_option maxRecDepth 100000 in
set_option maxHeartbeats 4000000 in
theorem equalFuncJ_any (o p : Option Addr) (l m : List RulX) (c d : Nat) (hl : l.length ≤ 1000000) (hfw : FewC l) (w : World) (hA : AtC w o l) (hI : ItsC w l) (hB : AtC w p m) (hK : ItsC w m) :
    Calls Tryz.prog 50 #[.slice o l.length c, .slice p m.length d, .func (.func 51) #[] #[]] w fun e w' => e = .returned (.bool (decide (l.map plX = m.map plX))) ∧ Below w.heap.size w w' := by
  obtain ⟨P, hP⟩ : ∃ P, (fun (e : Ending) (w' : World) => e = .returned (.bool (decide (l.map plX = m.map plX))) ∧ Below w.heap.size w w') = P := ⟨_, rfl⟩
  have HP := Lib.hid hP
  rw [hP]
  obtain ⟨n, hnn⟩ : ∃ n, l.length = n := ⟨_, rfl⟩
  obtain ⟨k, hkk⟩ : ∃ n, m.length = n := ⟨_, rfl⟩
  have HN := Lib.hid hnn
  have HK := Lib.hid hkk
  have HA := Lib.hid hA
  have HB := Lib.hid hB
  have HI := Lib.hid hI
  have HJ := Lib.hid hK
  have HF := Lib.hid hfw
  rw [hnn] at hl ⊢
  rw [hkk]
  have ANS : Hid (∀ b W, decide (l.map plX = m.map plX) = b → Below w.heap.size w W → P (.returned (.bool b)) W) := by
    rw [← HP.out]
    exact Lib.hid fun b W h hb => ⟨by rw [h], hb⟩
  clear hP hnn hkk hA hB hI hK hfw
  go_enter Tryz.func50, Tryz.ntmps50
  by_cases hnk : n = k
  · subst hnk
    go_wp2_with fail
    go_loopg [17] n (fun d v wr => ∃ j : Nat, v = .int .i64 (j : Nat) ∧ j ≤ n ∧ d = n - j ∧ Hid ((l.take j).map plX = (m.take j).map plX) ∧ Hid (Below w.heap.size w wr))
    case atStart => exact ⟨0, rfl, Nat.zero_le _, rfl, Lib.hid rfl, Lib.hid (Below.refl _ _)⟩
    case round =>
      obtain ⟨j, rfl, hj, rfl, HT, hbr⟩ := hrel
      rcases Nat.lt_or_ge j n with hlt | hge
      · have hj1 : j < 1000000 := by omega
        obtain ⟨x, hx⟩ : ∃ x, l[j]? = some x := ⟨_, List.getElem?_eq_getElem (by rw [HN.out]; exact hlt)⟩
        obtain ⟨y, hy⟩ : ∃ x, m[j]? = some x := ⟨_, List.getElem?_eq_getElem (by rw [HK.out]; exact hlt)⟩
        obtain ⟨g, off, rfl, hc⟩ := (HA.out.below hbr.out) (by rw [HN.out]; omega)
        obtain ⟨g', off', rfl, hc'⟩ := (HB.out.below hbr.out) (by rw [HK.out]; omega)
        obtain ⟨d0, d1, d2, d3, d4⟩ := hc j x hx
        obtain ⟨c0, c1, c2, c3, c4⟩ := hc' j y hy
        have hg : g < wr.heap.size := World.block_lt_of_cell? wr _ d0
        have hg' : g' < wr.heap.size := World.block_lt_of_cell? wr _ c0
        have hxm := List.mem_of_getElem? hx
        have hym := List.mem_of_getElem? hy
        obtain ⟨wb, hwb⟩ : ∃ wb, wr.alloc (rulO x) = wb := ⟨_, rfl⟩
        have bb : Below wr.heap.size wr wb := by rw [← hwb]; exact (Below.refl _ _).alloc (Nat.le_refl _) _
        have rb : wb.heap[wr.heap.size]? = some (rulO x) := by rw [← hwb]; exact heap_alloc_new _ _
        obtain ⟨wd, hwd⟩ : ∃ wd, wb.alloc (rulO y) = wd := ⟨_, rfl⟩
        have bd : Below wb.heap.size wb wd := by rw [← hwd]; exact (Below.refl _ _).alloc (Nat.le_refl _) _
        have rd : wd.heap[wb.heap.size]? = some (rulO y) := by rw [← hwd]; exact heap_alloc_new _ _
        have A0 : Below wr.heap.size wr wd := bb.trans (bd.mono bb.size)
        have hg2 : g' < wb.heap.size := by have := bb.size; omega
        have C0 := cell_keepQ bb c0
        have C1 := cell_keepQ bb c1
        have C2 := cell_keepQ bb c2
        have C3 := cell_keepQ bb c3
        have C4 := cell_keepQ bb c4
        obtain ⟨x0, x1, x2, x3, x4⟩ := rul_cells (row_below rb bd)
        obtain ⟨y0, y1, y2, y3, y4⟩ := rul_cells rd
        have B0 := hbr.out.trans (A0.mono hbr.out.size)
        have CALL := sameJ_any x y (fun z hz => HF.out z (by rw [List.mem_singleton.1 hz]; exact hxm)) wd (fun z hz => (HI.out z (by rw [List.mem_singleton.1 hz]; exact hxm)).imp (fun h => ⟨h.1.below B0, h.2⟩) (fun h => ⟨h.1.below B0, h.2⟩)) (fun z hz => (HJ.out z (by rw [List.mem_singleton.1 hz]; exact hym)).imp (fun h => ⟨h.1.below B0, h.2⟩) (fun h => ⟨h.1.below B0, h.2⟩))
        have HNE := Lib.hid (fun he : plX x ≠ plX y => map_ne1 hx hy he)
        have HEQ := Lib.hid (fun he : plX x = plX y => take_map1 HT.out hx hy he)
        obtain ⟨D, hD⟩ : ∃ D, decide (plX x = plX y) = D := ⟨_, rfl⟩
        have HD := Lib.hid hD
        rw [hD] at CALL
        have HB0 := Lib.hid B0
        obtain ⟨⟨s1, p1, xs1, e1⟩, ⟨s2, p2, xs2, e2⟩, br⟩ := x
        obtain ⟨⟨t1, q1, ys1, f1⟩, ⟨t2, q2, ys2, f2⟩, bq⟩ := y
        replace hwb : wr.alloc (.cells #[.bool s1, .slice p1 xs1.length e1, .bool s2, .slice p2 xs2.length e2, .bool br] 37) = wb := hwb
        replace hwd : wb.alloc (.cells #[.bool t1, .slice q1 ys1.length f1, .bool t2, .slice q2 ys2.length f2, .bool bq] 37) = wd := hwd
        replace CALL : Calls Tryz.prog 51 #[.agg #[.bool s1, .slice p1 xs1.length e1, .bool s2, .slice p2 xs2.length e2, .bool br], .agg #[.bool t1, .slice q1 ys1.length f1, .bool t2, .slice q2 ys2.length f2, .bool bq]] wd fun e w' => e = .returned (.bool D) ∧ Below wd.heap.size wd w' := CALL
        obtain ⟨m1, hm1⟩ : ∃ k, xs1.length = k := ⟨_, rfl⟩
        obtain ⟨m2, hm2⟩ : ∃ k, xs2.length = k := ⟨_, rfl⟩
        obtain ⟨n1, hn1⟩ : ∃ k, ys1.length = k := ⟨_, rfl⟩
        obtain ⟨n2, hn2⟩ : ∃ k, ys2.length = k := ⟨_, rfl⟩
        simp only [hm1, hm2, hn1, hn2] at CALL d0 d1 d2 d3 d4 C0 C1 C2 C3 C4 x0 x1 x2 x3 x4 y0 y1 y2 y3 y4 hwb hwd
        have HS := Lib.hid CALL
        clear hc hc' hx hy CALL hxm hym A0 B0 hD hm1 hm2 hn1 hn2 c0 c1 c2 c3 c4 bb bd rb rd HA HB HI HJ HF
        go_wp2_with fail
        refine HS.out.mono ?_
        rintro e w1 ⟨rfl, b1⟩
        have HB1 := Lib.hid (HB0.out.trans (b1.mono HB0.out.size))
        clear b1 C0 C1 C2 C3 C4 d0 d1 d2 d3 d4 x0 x1 x2 x3 x4 y0 y1 y2 y3 y4
        cases D with
        | true =>
          have HT2 := Lib.hid (HEQ.out (of_decide_eq_true HD.out))
          go_wp2
          go_roundg (n - (j + 1))
          case measure => omega
          case rel => exact ⟨j + 1, by simp, by omega, rfl, HT2, HB1⟩
        | false =>
          have HQ := Lib.hid (ANS.out false w1 (decide_eq_false (HNE.out (of_decide_eq_false HD.out))) HB1.out)
          clear ANS
          go_wp2
          exact HQ.out
      · obtain rfl : j = n := by omega
        have hT := HT.out
        rw [List.take_of_length_le (by rw [HN.out]; exact Nat.le_refl _), List.take_of_length_le (by rw [HK.out]; exact Nat.le_refl _)] at hT
        have HQ := Lib.hid (ANS.out true wr (decide_eq_true hT) hbr.out)
        clear hT HT ANS
        go_wp2
        exact HQ.out
  · have HQ := Lib.hid (ANS.out false w (decide_eq_false fun h => hnk (by rw [← HN.out, ← HK.out]; simpa using congrArg List.length h)) (Below.refl _ _))
    have hb : (((n : Nat) : Int) != ((k : Nat) : Int)) = true := by simp; omega
    clear ANS
    go_wp2_with fail
    exact HQ.out
theorem SameJ_any (o p : Option Addr) (l m : List RulX) (c d : Nat) (hl : l.length ≤ 1000000) (hfw : FewC l) (w : World) (hA : AtC w o l) (hI : ItsC w l) (hB : AtC w p m) (hK : ItsC w m) :
    Calls Tryz.prog 30 #[.slice o l.length c, .slice p m.length d] w fun e w' => e = .returned (.bool (decide (l.map plX = m.map plX))) ∧ Below w.heap.size w w' := by
  have HC := Lib.hid (equalFuncJ_any o p l m c d hl hfw w hA hI hB hK)
  obtain ⟨D, hD⟩ : ∃ D, decide (l.map plX = m.map plX) = D := ⟨_, rfl⟩
  obtain ⟨n, hnn⟩ : ∃ n, l.length = n := ⟨_, rfl⟩
  obtain ⟨k, hkk⟩ : ∃ n, m.length = n := ⟨_, rfl⟩
  rw [hD, hnn, hkk] at HC
  rw [hD, hnn, hkk]
  clear hA hI hB hK hl hfw hD hnn hkk
  go_enter Tryz.func30, Tryz.ntmps30
  go_wp2_with fail
  refine HC.out.mono ?_
  rintro e w3 ⟨rfl, b3⟩
  go_wp2_with fail
  go_ret
  exact ⟨rfl, b3⟩
end Go.Proofs.YtnmhdcbpbaanoaaGreatDoor
namespace Go.Proofs.YtnmhdcbpbaanoaaGreatDoor
open Go.RowKit Go.Shelf Go.Maps
attribute [local go_sem] Oper.semAt_some

set_option maxHeartbeats 1000000 in
theorem trimJ_any (s : ByteArray) (w : World) (hs : s.size ≤ 1000000) :
    Calls Tryz.prog 126 #[.string s] w fun e w' => e = .returned (strV (trimL s.data.toList)) ∧ Below w.heap.size w w' := by
  have hcon := Any.strings_Trim_laid Tryz.lays160 (by kernel_rfl) s ⟨#[32, 9, 13]⟩ w (by omega) (by decide) (ascii_of_all (by decide))
  change Calls Tryz.prog 140 _ _ (fun e w' => e = .returned (strV (trimL s.data.toList)) ∧ Below w.heap.size w w') at hcon
  generalize strV (trimL s.data.toList) = r at hcon ⊢
  go_enter Tryz.func126, Tryz.ntmps126
  go_wp2_with fail
  refine hcon.mono ?_
  rintro e w' ⟨rfl, hB⟩
  go_wp2
  go_ret
  exact ⟨rfl, hB⟩
theorem cutJ_lib (s sep : ByteArray) (w : World) {m : Int} (hM : w.cell? ⟨3, 0, none⟩ = some (.int .i64 m)) (hs : s.size ≤ 1000000) :
    Calls Tryz.prog 128 #[.string s, .string sep] w fun e w' => e = .returned (.tuple #[strV (cutL s.data.toList sep.data.toList).1, strV (cutL s.data.toList sep.data.toList).2.1, .bool (cutL s.data.toList sep.data.toList).2.2]) ∧ Below w.heap.size w w' := by
  refine (Tryz.strings_Cut s sep m w (by omega) hM).mono ?_
  rintro e w' ⟨rfl, n, rfl⟩
  exact ⟨rfl, below_drewN w n⟩
set_option maxHeartbeats 1000000 in
theorem countedJ_any (s : ByteArray) (w : World) {m : Int} (hM : w.cell? ⟨3, 0, none⟩ = some (.int .i64 m)) (hs : s.size ≤ 1000000) :
    Calls Tryz.prog 104 #[.string s] w fun e w' => e = .returned (strV (countedL s.data.toList)) ∧ Below w.heap.size w w' := by
  have HC := Lib.hid (cutJ_lib s ⟨#[35]⟩ w hM hs)
  have hle := (cutL_le s.data.toList [35]).1
  have hsz : s.data.toList.length = s.size := Array.length_toList
  have HT := Lib.hid (fun W => trimJ_any ⟨(cutL s.data.toList [35]).1.toArray⟩ W (by show (cutL s.data.toList [35]).1.toArray.size ≤ 1000000; rw [List.size_toArray]; omega))
  have HTT : Hid (∀ W, Calls Tryz.prog 126 #[strV (cutL s.data.toList [35]).1] W fun e w' => e = .returned (strV (countedL s.data.toList)) ∧ Below W.heap.size W w') := Lib.hid fun W => HT.out W
  have HCC : Hid (Calls Tryz.prog 128 #[.string s, .string ⟨#[35]⟩] w fun e w' => e = .returned (.tuple #[strV (cutL s.data.toList [35]).1, strV (cutL s.data.toList [35]).2.1, .bool (cutL s.data.toList [35]).2.2]) ∧ Below w.heap.size w w') := HC
  obtain ⟨r, hr⟩ : ∃ r, strV (countedL s.data.toList) = r := ⟨_, rfl⟩
  obtain ⟨x, hx⟩ : ∃ r, (cutL s.data.toList [35]).1 = r := ⟨_, rfl⟩
  obtain ⟨y, hy⟩ : ∃ r, (cutL s.data.toList [35]).2.1 = r := ⟨_, rfl⟩
  obtain ⟨z, hz⟩ : ∃ r, (cutL s.data.toList [35]).2.2 = r := ⟨_, rfl⟩
  rw [hr] at HTT ⊢
  rw [hx] at HTT HCC
  rw [hy, hz] at HCC
  clear HC HT hle hsz hM hr hx hy hz
  go_enter Tryz.func104, Tryz.ntmps104
  go_wp2_with fail
  refine HCC.out.mono ?_
  rintro e w1 ⟨rfl, b1⟩
  have HB1 := Lib.hid b1
  clear b1
  go_wp2_with fail
  refine (HTT.out w1).mono ?_
  rintro e w2 ⟨rfl, b2⟩
  have HB2 := Lib.hid (HB1.out.trans (b2.mono HB1.out.size))
  clear b2
  go_wp2_with fail
  go_ret
  exact ⟨rfl, HB2.out⟩
end Go.Proofs.YtnmhdcbpbaanoaaGreatDoor
namespace Go.Proofs.YtnmhdcbpbaanoaaGreatDoor
open Go.RowKit Go.Shelf Go.Maps
attribute [local go_sem] Oper.semAt_some

theorem keyI32 : Keyed Tryz.prog 21 := int_keyed Tryz.underlying21
def marksD : DataW Value := ((DataW.map []).put (.int .i32 43) (.held (.bool false))).put (.int .i32 47) (.held (.bool true))
def MarkMap (w : World) (b : Nat) : Prop := w.ownsMap Tryz.prog 21 heldQ b 2 marksD
theorem MarkMap.moves {w w' : World} {b : Nat} {S : Nat → Prop} (h : MarkMap w b) (hm : Moves S w w') (hs : ¬ S b) : MarkMap w' b := by
  obtain ⟨es, clock, hb, F⟩ := h
  exact ⟨es, clock, (hm.block b (Array.getElem?_eq_some_iff.1 hb).1 hs).trans hb, F⟩
theorem MarkMap.below {w w' : World} {b : Nat} (h : MarkMap w b) (hb : Below w.heap.size w w') : MarkMap w' b := h.moves (S := fun _ => False) (Moves.of_below hb) id
theorem MarkMap.lt {w : World} {b : Nat} (h : MarkMap w b) : b < w.heap.size := World.ownsMap.lt h
def isMark (c : Int) : Bool := decide (c = 43) || decide (c = 47)
theorem marks_has (c : Int) : Maps.has marksD (.int .i32 c) = isMark c := by
  unfold marksD isMark
  by_cases h1 : c = 47
  · subst h1
    rw [has_put_same (isMap_empty.put _ _) (show WideAt.IsKeyLit (.int .i32 47) from trivial)]
    rfl
  · rw [has_put_other (by simp; exact h1)]
    by_cases h2 : c = 43
    · subst h2
      rw [has_put_same isMap_empty (show WideAt.IsKeyLit (.int .i32 43) from trivial)]
      rfl
    · rw [has_put_other (by simp; exact h2), decide_eq_false h1, decide_eq_false h2]
      rfl
theorem marks_at (c : Int) : marksD.atKey (.int .i32 c) (.held (.bool false)) = .held (.bool (decide (c = 47))) := by
  unfold marksD
  by_cases h1 : c = 47
  · subst h1
    rw [atKey_put_same (isMap_empty.put _ _) (show WideAt.IsKeyLit (.int .i32 47) from trivial)]
    rfl
  · rw [atKey_put_other (by simp; exact h1), decide_eq_false h1]
    by_cases h2 : c = 43
    · subst h2
      rw [atKey_put_same isMap_empty (show WideAt.IsKeyLit (.int .i32 43) from trivial)]
    · rw [atKey_put_other (by simp; exact h2)]
      rfl
theorem zeroB (w : World) : (zeroValue 4).run Tryz.prog w = .ok (.bool false) w := by
  kernel_rfl
theorem mark_ok {w : World} {b : Nat} (hm : MarkMap w b) {c : Int} (hc : (Lit.int .i32 c).wf = true) : (Instr.lookup 166 (.map (some b)) (.int .i32 c) true).run Tryz.prog w = .ok (.tuple #[.bool (decide (c = 47)), .bool (isMark c)]) w := by
  obtain ⟨v, ps, hr, hv⟩ := World.ownsMap.look_ok hm keyI32 Tryz.underlying166 (zeroB w) (show heldQ (.bool false) = _ from rfl) (keyOf_int_mk Tryz.underlying21 hc)
  rw [marks_at] at hv
  unfold heldQ at hv
  simp only [Option.some.injEq, Prod.mk.injEq, DataW.held.injEq] at hv
  rw [hr, hv.1, marks_has]
theorem mark_at {w : World} {b : Nat} (hm : MarkMap w b) {c : Int} (hc : (Lit.int .i32 c).wf = true) : (Instr.lookup 166 (.map (some b)) (.int .i32 c) false).run Tryz.prog w = .ok (.bool (decide (c = 47))) w := by
  obtain ⟨v, ps, hr, hv⟩ := World.ownsMap.lookup hm keyI32 Tryz.underlying166 (zeroB w) (show heldQ (.bool false) = _ from rfl) (keyOf_int_mk Tryz.underlying21 hc)
  rw [marks_at] at hv
  unfold heldQ at hv
  simp only [Option.some.injEq, Prod.mk.injEq, DataW.held.injEq] at hv
  rw [hr, hv.1]
set_option maxHeartbeats 1000000 in
theorem bothMarks_any (w : World) : Calls Tryz.prog 99 #[] w fun e w' => ∃ b, e = .returned (.map (some b)) ∧ w.heap.size ≤ b ∧ MarkMap w' b ∧ Below w.heap.size w w' := by
  have hmm := @run_makeMap Tryz.prog
  have o1 : (w.alloc (.map #[] 0)).ownsMap Tryz.prog 21 heldQ w.heap.size 0 (.map []) := World.ownsMap_made _ _ _ _
  obtain ⟨w2, r2, o2, g2⟩ := o1.update keyI32 Tryz.underlying166 (by unfold maxLen; omega) (val := .bool false) (keyOf_int_mk Tryz.underlying21 (show (Lit.int .i32 43).wf = true by decide)) (show heldQ _ = _ from rfl)
  obtain ⟨w3, r3, o3, g3⟩ := o2.update keyI32 Tryz.underlying166 (by unfold maxLen; omega) (val := .bool true) (keyOf_int_mk Tryz.underlying21 (show (Lit.int .i32 47).wf = true by decide)) (show heldQ _ = _ from rfl)
  have b1 : Below w.heap.size w (w.alloc (.map #[] 0)) := (Below.refl _ _).alloc (Nat.le_refl _) _
  have m3 : Moves (fun k => k = w.heap.size) w w3 := (Moves.of_below b1).trans (((moves_grownQ g2).mono fun k e => (Option.some.inj e).symm).trans ((moves_grownQ g3).mono fun k e => (Option.some.inj e).symm))
  have HQ : Hid (MarkMap w3 w.heap.size ∧ Below w.heap.size w w3) := Lib.hid ⟨o3, Moves.below (Below.refl _ _) (Nat.le_refl _) m3 (fun k e => by omega)⟩
  clear o1 o2 o3 g2 g3 b1 m3
  go_enter Tryz.func99, Tryz.ntmps99
  go_wp2
  go_ret
  exact ⟨_, rfl, Nat.le_refl _, HQ.out.1, HQ.out.2⟩
end Go.Proofs.YtnmhdcbpbaanoaaGreatDoor
namespace Go.Proofs.YtnmhdcbpbaanoaaGreatDoor
open Go.RowKit

def splitM : List UInt8 → Option (List UInt8 × UInt8 × List UInt8)
  | [] => none
  | b :: t => if b = 43 ∨ b = 47 then some ([], b, t) else (splitM t).map fun q => (b :: q.1, q.2)
def NoM (l : List UInt8) (p : Nat) : Prop := ∀ (i : Nat) (b : UInt8), i < p → l[i]? = some b → ¬ (b = 43 ∨ b = 47)
theorem NoM.zero (l : List UInt8) : NoM l 0 := fun i b h => by omega
theorem NoM.skip {l : List UInt8} {p : Nat} {b : UInt8} (h : NoM l p) (hb : l[p]? = some b) (hm : ¬ (b = 43 ∨ b = 47)) : NoM l (p + 1) := fun i c hi hc => by
  rcases Nat.lt_or_ge i p with h1 | h1
  · exact h i c h1 hc
  · obtain rfl : i = p := by omega
    rw [hb] at hc
    cases hc
    exact hm
theorem NoM.high {l : List UInt8} {p k : Nat} (h : NoM l p) (hk : ∀ i b, p ≤ i → i < p + k → l[i]? = some b → 128 ≤ b.toNat) : NoM l (p + k) := fun i c hi hc => by
  rcases Nat.lt_or_ge i p with h1 | h1
  · exact h i c h1 hc
  · have := hk i c h1 hi hc
    rintro (rfl | rfl) <;> simp at this
theorem NoM.tail {b : UInt8} {t : List UInt8} {p : Nat} (h : NoM (b :: t) (p + 1)) : NoM t p := fun i c hi hc => h (i + 1) c (by omega) (by simpa using hc)
theorem splitM_at : ∀ {l : List UInt8} {p : Nat} {b : UInt8}, NoM l p → l[p]? = some b → (b = 43 ∨ b = 47) → splitM l = some (l.take p, b, l.drop (p + 1))
  | [], p, b, _, hb, _ => by simp at hb
  | c :: t, 0, b, _, hb, hm => by
    obtain rfl : c = b := by simpa using hb
    unfold splitM
    rw [if_pos hm]
    rfl
  | c :: t, p + 1, b, hn, hb, hm => by
    have h1 := splitM_at hn.tail (by simpa using hb) hm
    have h2 := hn 0 c (by omega) rfl
    unfold splitM
    rw [if_neg h2, h1]
    rfl
theorem splitM_none : ∀ {l : List UInt8}, NoM l l.length → splitM l = none
  | [], _ => rfl
  | c :: t, hn => by
    have h1 := splitM_none (NoM.tail (p := t.length) hn)
    have h2 := hn 0 c (by simp) rfl
    unfold splitM
    rw [if_neg h2, h1]
    rfl
def sidesT (l : List UInt8) : List UInt8 × List UInt8 × Int := match splitM l with
  | none => ([], [], 0)
  | some q => (trimL q.1, trimL q.2.2, (q.2.1.toNat : Nat))
theorem sidesT_at {l : List UInt8} {p : Nat} {b : UInt8} (h : NoM l p) (hb : l[p]? = some b) (hm : b = 43 ∨ b = 47) : sidesT l = (trimL (l.take p), trimL (l.drop (p + 1)), ((b.toNat : Nat) : Int)) := by
  unfold sidesT
  rw [splitM_at h hb hm]
theorem sidesT_none {l : List UInt8} (h : NoM l l.length) : sidesT l = ([], [], 0) := by
  unfold sidesT
  rw [splitM_none h]
theorem wf_i32 {c : Int} (h0 : 0 ≤ c) (h1 : c ≤ 2147483647) : (Lit.int .i32 c).wf = true := by
  unfold Lit.wf
  rw [Bool.and_eq_true]
  exact ⟨decide_eq_true (by show (-2147483648 : Int) ≤ c; omega), decide_eq_true (by show c ≤ (2147483647 : Int); omega)⟩
end Go.Proofs.YtnmhdcbpbaanoaaGreatDoor
namespace Go.Proofs.YtnmhdcbpbaanoaaGreatDoor
open Go.RowKit Go.Shelf Go.Maps
attribute [local go_sem] Oper.semAt_some

abbrev sideV (q : List UInt8 × List UInt8 × Int) : Value := .agg #[strV q.1, strV q.2.1, .int .i32 q.2.2]
def ParI (s : ByteArray) (w : World) (p : Nat) (wr : World) : Prop :=
  NoM s.data.toList p ∧ wr.heap[w.heap.size + 1]? = some (.stringIter s p) ∧ wr.heap[w.heap.size]? = some (.cells #[.string ⟨#[]⟩, .string ⟨#[]⟩, .int .i32 0] 107 (0, 0)) ∧ Below w.heap.size w wr
theorem ParI.next {s : ByteArray} {w wr : World} {p q : Nat} (h : ParI s w p wr) (hn : NoM s.data.toList q) : ParI s w q (wr.iterAt (w.heap.size + 1) s q) :=
  ⟨hn, Lib.iterAt_heap _ _ _ p q h.2.1, by rw [Lib.iterAt_other _ _ _ _ _ (by omega)]; exact h.2.2.1, Lib.below_iterAt h.2.2.2 (by omega) s q⟩
def ParS (w W : World) : Prop := W.heap[w.heap.size]? = some (.cells #[.string ⟨#[]⟩, .string ⟨#[]⟩, .int .i32 0] 107 (0, 0)) ∧ Below w.heap.size w W
theorem ParS.below {w A B : World} (h : ParS w A) (hb : Below A.heap.size A B) : ParS w B := ⟨row_below h.1 hb, h.2.trans (hb.mono h.2.size)⟩
theorem ParS.cells {w W : World} (h : ParS w W) : w.heap.size < W.heap.size ∧ W.cell? ⟨w.heap.size, 0, none⟩ = some (.string ⟨#[]⟩) ∧ W.cell? ⟨w.heap.size, 1, none⟩ = some (.string ⟨#[]⟩) ∧ W.cell? ⟨w.heap.size, 2, none⟩ = some (.int .i32 0) ∧ W.frozen? ⟨w.heap.size, 0, none⟩ = false ∧ W.frozen? ⟨w.heap.size, 1, none⟩ = false ∧ W.frozen? ⟨w.heap.size, 2, none⟩ = false :=
  ⟨(Array.getElem?_eq_some_iff.1 h.1).1, three_cells h.1⟩
theorem ParS.done {w W : World} (h : ParS w W) (a b c : Value) : (((W.setCell ⟨w.heap.size, 0, none⟩ a).setCell ⟨w.heap.size, 1, none⟩ b).setCell ⟨w.heap.size, 2, none⟩ c).heap[w.heap.size]? = some (.cells #[a, b, c] 107 (0, 0)) ∧ Below w.heap.size w (((W.setCell ⟨w.heap.size, 0, none⟩ a).setCell ⟨w.heap.size, 1, none⟩ b).setCell ⟨w.heap.size, 2, none⟩ c) :=
  ⟨(three_setJ a b c h.1).1, Moves.below h.2 h.2.size (three_setJ a b c h.1).2 (fun k hk => by omega)⟩
set_option maxRecDepth 100000 in
set_option maxHeartbeats 4000000 in
theorem partJ_any (b : Nat) (s : ByteArray) (hs : s.size ≤ 1000000) (w : World) (hM : MarkMap w b) :
    Calls Tryz.prog 102 #[.map (some b), .string s] w fun e w' => e = .returned (sideV (sidesT s.data.toList)) ∧ Below w.heap.size w w' := by
  obtain ⟨P, hP⟩ : ∃ P, (fun (e : Ending) (w' : World) => e = .returned (sideV (sidesT s.data.toList)) ∧ Below w.heap.size w w') = P := ⟨_, rfl⟩
  have HP := Lib.hid hP
  rw [hP]
  obtain ⟨w1, hw1⟩ : ∃ w1, w.alloc (.cells #[.string ⟨#[]⟩, .string ⟨#[]⟩, .int .i32 0] 107) = w1 := ⟨_, rfl⟩
  have b1 : Below w.heap.size w w1 := by rw [← hw1]; exact (Below.refl _ _).alloc (Nat.le_refl _) _
  have z1 : w1.heap.size = w.heap.size + 1 := by rw [← hw1]; simp
  have r1 : w1.heap[w.heap.size]? = some (.cells #[.string ⟨#[]⟩, .string ⟨#[]⟩, .int .i32 0] 107 (0, 0)) := by rw [← hw1]; exact heap_alloc_new _ _
  have HZ1 := Lib.hid z1
  have HB1 := Lib.hid b1
  have HR1 := Lib.hid r1
  have HMM := Lib.hid hM
  clear hP b1 z1 r1 hM
  go_enter Tryz.func102, Tryz.ntmps102
  go_wp2_with fail
  go_loopg [5] (s.size) (fun k' v wr => ∃ p : Nat, p ≤ s.size ∧ k' = s.size - p ∧ Hid (ParI s w p wr))
  case atStart =>
    refine ⟨0, Nat.zero_le _, rfl, Lib.hid ⟨NoM.zero _, ?_, ?_, ?_⟩⟩
    · rw [← HZ1.out]; exact World.iter_heap w1 s 0
    · exact (Below.heap_alloc w1 (.stringIter s 0) w.heap.size (by have := HZ1.out; omega)).trans HR1.out
    · exact HB1.out.alloc (by have := HZ1.out; omega) _
  case round =>
    obtain ⟨p, hp, rfl, HI⟩ := hrel
    have hit : wr.heap[w1.heap.size]? = some (.stringIter s p) := by rw [HZ1.out]; exact HI.out.2.1
    have hpm : p ≤ 1000000 := by omega
    rcases Nat.lt_or_ge p s.size with hlt | hge
    · have hg := get_listQ s p hlt
      rcases Nat.lt_or_ge (s[p]'hlt).toNat 128 with ha | ha
      · have hnx := Lib.run_next_ascii_at (P := Tryz.prog) wr w1.heap.size s p 0 hit hlt ha
        obtain ⟨c, hc⟩ : ∃ c, s[p]'hlt = c := ⟨_, rfl⟩
        rw [hc] at hg hnx ha
        by_cases hm : c = 43 ∨ c = 47
        · obtain ⟨w2, hw2⟩ : ∃ w2, wr.iterAt w1.heap.size s (p + 1) = w2 := ⟨_, rfl⟩
          rw [hw2] at hnx
          have r2 : w2.heap[w.heap.size]? = some (.cells #[.string ⟨#[]⟩, .string ⟨#[]⟩, .int .i32 0] 107 (0, 0)) := by rw [← hw2, Lib.iterAt_other _ _ _ _ _ (by have := HZ1.out; omega)]; exact HI.out.2.2.1
          have b2 : Below w.heap.size w w2 := by rw [← hw2]; exact Lib.below_iterAt HI.out.2.2.2 (by have := HZ1.out; omega) _ _
          have hmk := mark_ok (HMM.out.below b2) (c := ((c.toNat : Nat) : Int)) (wf_i32 (by omega) (by omega))
          have hyes : isMark ((c.toNat : Nat) : Int) = true := by
            unfold isMark
            rcases hm with rfl | rfl <;> rfl
          rw [hyes] at hmk
          obtain ⟨X, hX⟩ : ∃ X, s.extract 0 p = X := ⟨_, rfl⟩
          obtain ⟨Y, hY⟩ : ∃ Y, s.extract (p + 1) s.size = Y := ⟨_, rfl⟩
          have hXs : X.size ≤ s.size := by rw [← hX]; exact cut_sizeQ s _ _ (by omega)
          have hYs : Y.size ≤ s.size := by rw [← hY]; exact cut_sizeQ s _ _ (Nat.le_refl _)
          have hXl : X.data.toList = s.data.toList.take p := by rw [← hX, cut_listQ]; simp
          have hYl : Y.data.toList = s.data.toList.drop (p + 1) := by rw [← hY]; exact rest_listQ s _
          have hwp : IntKind.i64.wrap (((p : Nat) : Int) + 1) = ((p + 1 : Nat) : Int) := wrap_id (by omega) (by omega)
          have HT := Lib.hid (fun W => trimJ_any X W (by omega))
          have HU := Lib.hid (fun W => trimJ_any Y W (by omega))
          rw [hXl] at HT
          rw [hYl] at HU
          have HPP : Hid (∀ W, Below w.heap.size w W → P (.returned (.agg #[strV (trimL (s.data.toList.take p)), strV (trimL (s.data.toList.drop (p + 1))), .int .i32 ((c.toNat : Nat) : Int)])) W) := by
            rw [← HP.out]
            exact Lib.hid fun W h => ⟨by rw [sidesT_at HI.out.1 hg hm], h⟩
          obtain ⟨TX, hTX⟩ : ∃ r : ByteArray, ⟨(trimL (s.data.toList.take p)).toArray⟩ = r := ⟨_, rfl⟩
          obtain ⟨TY, hTY⟩ : ∃ r : ByteArray, ⟨(trimL (s.data.toList.drop (p + 1))).toArray⟩ = r := ⟨_, rfl⟩
          simp only [strV, hTX] at HT HPP
          simp only [strV, hTY] at HU HPP
          have HD : Hid (ParS w w2.drew) := Lib.hid (ParS.below ⟨r2, b2⟩ ((Below.refl _ _).drew))
          have HT2 : Hid (∀ W, Hid (ParS w W) → Calls Tryz.prog 126 #[.string X] W fun e w' => e = .returned (.string TX) ∧ Hid (ParS w w')) := Lib.hid fun W h => (HT.out W).mono fun e w' h2 => ⟨h2.1, Lib.hid (h.out.below h2.2)⟩
          have HU2 : Hid (∀ W, Hid (ParS w W) → Calls Tryz.prog 126 #[.string Y] W fun e w' => e = .returned (.string TY) ∧ Hid (ParS w w')) := Lib.hid fun W h => (HU.out W).mono fun e w' h2 => ⟨h2.1, Lib.hid (h.out.below h2.2)⟩
          clear hg hm hyes HI hit hXl hYl hTX hTY hXs hYs r2 b2 HP HMM HR1 hc HT HU
          go_wp2_with fail
          go_region_with (go_at_call 126; first | (with_reducible refine (HT2.out _ (by first | exact hg | exact HD)).mono ?_; rintro e w3 ⟨rfl, hg⟩; obtain ⟨l0, f0, f1, f2, g0, g1, g2⟩ := hg.out.cells) | (with_reducible refine (HU2.out _ (by first | exact hg | exact HD)).mono ?_; rintro e w3 ⟨rfl, hg⟩; obtain ⟨l0, f0, f1, f2, g0, g1, g2⟩ := hg.out.cells))
          all_goals
            go_wp2
            have h9 := hg.out.done (.string TX) (.string TY) (.int .i32 ((c.toNat : Nat) : Int))
            exact bodyPost_ret (v := .agg #[.string TX, .string TY, .int .i32 ((c.toNat : Nat) : Int)]) (results_cellJ rfl _ _ w.heap.size _ _ _ _ rfl h9.1 Tryz.underlying107 rfl (by kernel_rfl)) rfl (HPP.out _ h9.2)
        · have HN : Hid (ParI s w (p + 1) (wr.iterAt w1.heap.size s (p + 1))) := Lib.hid (by rw [HZ1.out]; exact HI.out.next (HI.out.1.skip hg hm))
          have hmk := mark_ok (HMM.out.below HN.out.2.2.2) (c := ((c.toNat : Nat) : Int)) (wf_i32 (by omega) (by omega))
          have hno : isMark ((c.toNat : Nat) : Int) = false := by
            unfold isMark
            rw [decide_eq_false (fun h => hm (.inl (bytes_eq (b := 43) (show c.toNat = 43 by omega)))), decide_eq_false (fun h => hm (.inr (bytes_eq (b := 47) (show c.toNat = 47 by omega))))]
            rfl
          rw [hno] at hmk
          clear hg hc hm hno HI hit
          go_wp2
          go_roundg (s.size - (p + 1))
          case measure => omega
          case rel => exact ⟨p + 1, by omega, rfl, HN⟩
      · obtain ⟨k1, k2, k3⟩ := high_bytes s p hlt ha
        have kr := (decode_high s p hlt ha).1
        have kl := decode_le s p
        have hnx := Lib.run_next_any_at (P := Tryz.prog) wr w1.heap.size s p 0 hit hlt
        obtain ⟨c, hc⟩ : ∃ c, (Utf8.decode s p).1 = c := ⟨_, rfl⟩
        obtain ⟨k, hk⟩ : ∃ k, (Utf8.decode s p).2 = k := ⟨_, rfl⟩
        rw [hk] at k1 k2 k3 hnx
        rw [hc] at kr kl hnx
        have HN : Hid (ParI s w (p + k) (wr.iterAt w1.heap.size s (p + k))) := Lib.hid (by rw [HZ1.out]; exact HI.out.next (HI.out.1.high k3))
        have hmk := mark_ok (HMM.out.below HN.out.2.2.2) (c := ((c : Nat) : Int)) (wf_i32 (by omega) (by omega))
        have hno : isMark ((c : Nat) : Int) = false := by
          unfold isMark
          rw [decide_eq_false (by omega), decide_eq_false (by omega)]
          rfl
        rw [hno] at hmk
        clear hg hc hno HI hit hk k3 kr kl
        go_wp2
        go_roundg (s.size - (p + k))
        case measure => omega
        case rel => exact ⟨p + k, by omega, rfl, HN⟩
    · obtain rfl : p = s.size := by omega
      have hnx := Lib.run_next_end_at (P := Tryz.prog) wr w1.heap.size s s.size 0 hit (by omega)
      have HS : Hid (ParS w wr) := Lib.hid HI.out.2.2
      obtain ⟨l0, f0, f1, f2, g0, g1, g2⟩ := HS.out.cells
      have h9 := HS.out.done (.string ⟨#[]⟩) (.string ⟨#[]⟩) (.int .i32 0)
      have HQ : Hid (P (.returned (.agg #[.string ⟨#[]⟩, .string ⟨#[]⟩, .int .i32 0])) ((((wr.setCell ⟨w.heap.size, 0, none⟩ (.string ⟨#[]⟩)).setCell ⟨w.heap.size, 1, none⟩ (.string ⟨#[]⟩)).setCell ⟨w.heap.size, 2, none⟩ (.int .i32 0)))) := by
        rw [← HP.out]
        exact Lib.hid ⟨by rw [sidesT_none (show NoM s.data.toList s.data.toList.length from by have := HI.out.1; rwa [show s.data.toList.length = s.size from Array.length_toList])], h9.2⟩
      have H9 := Lib.hid h9.1
      clear h9 HI hit HP HR1 HMM
      go_wp2
      exact bodyPost_ret (v := .agg #[.string ⟨#[]⟩, .string ⟨#[]⟩, .int .i32 0]) (results_cellJ rfl _ _ w.heap.size _ _ _ _ rfl H9.out Tryz.underlying107 rfl (by kernel_rfl)) rfl HQ.out
end Go.Proofs.YtnmhdcbpbaanoaaGreatDoor
