/- SpanThree: three maps, one over the other. -/
import Derived.Test.YtkhniogmogcjlaaDoorNShown
import Derived.Test.YtkhniogmogcjlaaDoorNFew
namespace Go.Proofs.YtkhniogmogcjlaaDoor
open Go.RowKit Go.Shelf Go.Maps
attribute [local go_sem] Oper.semAt_some

theorem lay_three {a b c x y z t : List Rng} (hx : isLay [a, b] x) (hy : isLay [b, c] y) (hz : isLay [x, c] z) (ht : isLay [a, y] t) : z = t := by
  refine isLay_unique hz ⟨ht.1, ht.2.1, fun r => (ht.2.2 r).trans ?_⟩
  have h1 := hx.2.2 r
  have h2 := hy.2.2 r
  simp only [saidL, Option.none_or] at h1 h2 ⊢
  rw [h1, h2, Option.or_assoc]
theorem turns_length (l : List Rng) : (turnsOf l).length = 2 * l.length := by
  unfold turnsOf
  induction l with
  | nil => rfl
  | cons x l ih => rw [List.flatMap_cons, List.length_append, ih]; simp; omega
theorem turns_two (a b : List Rng) : (turnsL [a, b]).length = 2 * a.length + 2 * b.length := by
  unfold turnsL
  simp [turns_length]
set_option maxRecDepth 100000 in
set_option maxHeartbeats 16000000 in
theorem three_any (o o2 o3 : Option Addr) (a b c : List Rng) (cap cap2 cap3 : Nat) (hc : a.length ≤ cap) (hc2 : b.length ≤ cap2) (hc3 : c.length ≤ cap3)
    (w : World) (hA : AtR w o a) (hB : AtR w o2 b) (hC : AtR w o3 c) (hG : w.cell? ⟨0, 0, none⟩ = some (rtI 48)) :
    Calls Tryd.prog 8 #[.slice o a.length cap, .slice o2 b.length cap2, .slice o3 c.length cap3] w fun e w' => e = .returned (.bool true) ∧ Below w.heap.size w w' := by
  have HS := Lib.hid (shown_any w hG)
  have F1 := Lib.hid (few_any o a cap hc)
  have F2 := Lib.hid (few_any o2 b cap2 hc2)
  have F3 := Lib.hid (few_any o3 c cap3 hc3)
  have HA := Lib.hid (hA.take 40)
  have HB := Lib.hid (hB.take 40)
  have HC := Lib.hid (hC.take 40)
  have la : (a.take 40).length ≤ 40 ∧ (a.take 40).length ≤ cap := by rw [List.length_take]; omega
  have lb : (b.take 40).length ≤ 40 ∧ (b.take 40).length ≤ cap2 := by rw [List.length_take]; omega
  have lc : (c.take 40).length ≤ 40 ∧ (c.take 40).length ≤ cap3 := by rw [List.length_take]; omega
  obtain ⟨na, hna⟩ : ∃ n, a.length = n := ⟨_, rfl⟩
  obtain ⟨nb, hnb⟩ : ∃ n, b.length = n := ⟨_, rfl⟩
  obtain ⟨nc, hnc⟩ : ∃ n, c.length = n := ⟨_, rfl⟩
  rw [hna] at F1 ⊢
  rw [hnb] at F2 ⊢
  rw [hnc] at F3 ⊢
  obtain ⟨A, hAA⟩ : ∃ A, a.take 40 = A := ⟨_, rfl⟩
  obtain ⟨B, hBB⟩ : ∃ B, b.take 40 = B := ⟨_, rfl⟩
  obtain ⟨C, hCC⟩ : ∃ C, c.take 40 = C := ⟨_, rfl⟩
  rw [hAA] at F1 HA la
  rw [hBB] at F2 HB lb
  rw [hCC] at F3 HC lc
  have HG := Lib.hid hG
  obtain ⟨P, hP⟩ : ∃ P, (fun (e : Ending) w' => e = .returned (.bool true) ∧ Below w.heap.size w w') = P := ⟨_, rfl⟩
  have HP := Lib.hid hP
  rw [hP]
  clear hA hB hC hc hc2 hc3 hna hnb hnc hAA hBB hCC hG hP
  go_enter Tryd.func8, Tryd.ntmps8
  go_wp2_with fail
  refine HS.out.mono ?_
  rintro e w1 ⟨rfl, b1⟩
  have B1 := Lib.hid b1
  clear b1
  go_wp2_with fail
  refine (F1.out w1).mono ?_
  rintro e w1' ⟨rfl, rfl⟩
  go_wp2_with fail
  refine (F2.out w1).mono ?_
  rintro e w1' ⟨rfl, rfl⟩
  go_wp2_with fail
  refine (F3.out w1).mono ?_
  rintro e w1' ⟨rfl, rfl⟩
  have O1 := Lib.hid (Over_any o o2 A B cap cap2 (by omega) (by omega) (by rw [turns_two]; omega) la.2 lb.2 w1 (HA.out.below B1.out) (HB.out.below B1.out) (cell_keep B1.out HG.out))
  go_wp2_with fail
  refine O1.out.mono ?_
  rintro e w2 ⟨b2, h2⟩
  have B2 := Lib.hid (B1.out.trans (b2.mono B1.out.size))
  have O2 := Lib.hid (Over_any o2 o3 B C cap2 cap3 (by omega) (by omega) (by rw [turns_two]; omega) lb.2 lc.2 w2 (HB.out.below B2.out) (HC.out.below B2.out) (cell_keep B2.out HG.out))
  have H2 : Hid (∃ (so : Option Addr) (sn : Nat) (e1 : Int), e = .returned (.tuple #[.slice so sn sn, .int .i64 e1]) ∧ ((e1 = 22 ∧ ¬ (rightL A ∧ rightL B)) ∨ (e1 = 0 ∧ (rightL A ∧ rightL B) ∧ ∃ x : List Rng, x.length = sn ∧ sn ≤ 160 ∧ isLay [A, B] x ∧ AtR w2 so x))) := by
    refine Lib.hid ?_
    rcases h2 with ⟨h, rfl⟩ | ⟨h, so, m, hm, hl, rfl, hat⟩
    · exact ⟨none, 0, 22, rfl, .inl ⟨rfl, fun hh => h (by simpa using hh)⟩⟩
    · rw [turns_two] at hl
      exact ⟨so, m.length, 0, rfl, .inr ⟨rfl, by simpa using h, m, rfl, by omega, hm, hat⟩⟩
  clear h2 b2 O1 HS F1 F2 F3
  obtain ⟨so, sn, e1, rfl, h2⟩ := H2.out
  have H2' := Lib.hid h2
  clear h2 H2
  go_wp2_with fail
  refine O2.out.mono ?_
  rintro e w3 ⟨b3, h3⟩
  have B3 := Lib.hid (B2.out.trans (b3.mono B2.out.size))
  have H3 : Hid (∃ (to : Option Addr) (tn : Nat) (e2 : Int), e = .returned (.tuple #[.slice to tn tn, .int .i64 e2]) ∧ ((e2 = 22 ∧ ¬ (rightL B ∧ rightL C)) ∨ (e2 = 0 ∧ (rightL B ∧ rightL C) ∧ ∃ x : List Rng, x.length = tn ∧ tn ≤ 160 ∧ isLay [B, C] x ∧ AtR w3 to x))) := by
    refine Lib.hid ?_
    rcases h3 with ⟨h, rfl⟩ | ⟨h, so, m, hm, hl, rfl, hat⟩
    · exact ⟨none, 0, 22, rfl, .inl ⟨rfl, fun hh => h (by simpa using hh)⟩⟩
    · rw [turns_two] at hl
      exact ⟨so, m.length, 0, rfl, .inr ⟨rfl, by simpa using h, m, rfl, by omega, hm, hat⟩⟩
  have B23 := Lib.hid b3
  clear h3 b3 O2
  obtain ⟨to, tn, e2, rfl, h3⟩ := H3.out
  have H3' := Lib.hid h3
  have HR1 := Lib.hid (fun W (bb : Below w.heap.size w W) => Right_any o A cap (by omega) la.2 W (HA.out.below bb))
  have HR2 := Lib.hid (fun W (bb : Below w.heap.size w W) => Right_any o2 B cap2 (by omega) lb.2 W (HB.out.below bb))
  have HR3 := Lib.hid (fun W (bb : Below w.heap.size w W) => Right_any o3 C cap3 (by omega) lc.2 W (HC.out.below bb))
  have HGG3 := Lib.hid (cell_keep B3.out HG.out)
  clear h3 H3
  rcases H2'.out with ⟨rfl, hn1⟩ | ⟨rfl, hr1, x, hx, hxl, hxi, hxa⟩
  · by_cases hRA : rightL A
    · have hRB : ¬ rightL B := fun h => hn1 ⟨hRA, h⟩
      have R1 := HR1.out w3 B3.out
      rw [decide_eq_true hRA] at R1
      have R2 := HR2
      rw [decide_eq_false hRB] at R2
      have R1' := Lib.hid R1
      clear R1 hn1 HR1 HR2 HR3 hRA hRB
      go_wp2_with fail
      refine R1'.out.mono ?_
      rintro e w4 ⟨rfl, b4⟩
      have B4 := Lib.hid (B3.out.trans (b4.mono B3.out.size))
      clear b4
      go_wp2_with fail
      refine (R2.out w4 B4.out).mono ?_
      rintro e w5 ⟨rfl, b5⟩
      have HPP : Hid (P (.returned (.bool true)) w5) := by
        rw [← HP.out]
        exact Lib.hid ⟨rfl, B4.out.trans (b5.mono B4.out.size)⟩
      clear b5
      go_wp2
      exact HPP.out
    · have R1 := HR1.out w3 B3.out
      rw [decide_eq_false hRA] at R1
      have R1' := Lib.hid R1
      clear R1 hn1 HR1 HR2 HR3 hRA
      go_wp2_with fail
      refine R1'.out.mono ?_
      rintro e w4 ⟨rfl, b4⟩
      have HPP : Hid (P (.returned (.bool true)) w4) := by
        rw [← HP.out]
        exact Lib.hid ⟨rfl, B3.out.trans (b4.mono B3.out.size)⟩
      clear b4
      go_wp2
      exact HPP.out
  · rcases H3'.out with ⟨rfl, hn2⟩ | ⟨rfl, hr2, y, hy, hyl, hyi, hya⟩
    · have hRC : ¬ rightL C := fun h => hn2 ⟨hr1.2, h⟩
      have R1 := HR1.out w3 B3.out
      rw [decide_eq_true hr1.1] at R1
      have R2 := HR2
      rw [decide_eq_true hr1.2] at R2
      have R3 := HR3
      rw [decide_eq_false hRC] at R3
      have R1' := Lib.hid R1
      clear R1 hn2 HR1 HR2 HR3 hr1 hRC hx hxl hxi hxa
      go_wp2_with fail
      refine R1'.out.mono ?_
      rintro e w4 ⟨rfl, b4⟩
      have B4 := Lib.hid (B3.out.trans (b4.mono B3.out.size))
      clear b4
      go_wp2_with fail
      refine (R2.out w4 B4.out).mono ?_
      rintro e w5 ⟨rfl, b5⟩
      have B5 := Lib.hid (B4.out.trans (b5.mono B4.out.size))
      clear b5
      go_wp2_with fail
      refine (R3.out w5 B5.out).mono ?_
      rintro e w6 ⟨rfl, b6⟩
      have HPP : Hid (P (.returned (.bool true)) w6) := by
        rw [← HP.out]
        exact Lib.hid ⟨rfl, B5.out.trans (b6.mono B5.out.size)⟩
      clear b6
      go_wp2
      exact HPP.out
    · have hRX : rightL x := ⟨hxi.1, by omega⟩
      have hRY : rightL y := ⟨hyi.1, by omega⟩
      subst hx hy
      have O3 := Lib.hid (Over_any so o3 x C x.length cap3 (by omega) (by omega) (by rw [turns_two]; omega) (Nat.le_refl _) lc.2 w3 (hxa.below B23.out) (HC.out.below B3.out) HGG3.out)
      have O4 := Lib.hid (fun w4 (b4 : Below w3.heap.size w3 w4) => Over_any o to A y cap y.length (by omega) (by omega) (by rw [turns_two]; omega) la.2 (Nat.le_refl _) w4 ((HA.out.below B3.out).below b4) (hya.below b4) (cell_keep b4 HGG3.out))
      have HLZ := Lib.hid (fun z t (hz : isLay [x, C] z) (ht : isLay [A, y] t) => lay_three hxi hyi hz ht)
      have HRR := Lib.hid (show (∀ l ∈ [x, C], rightL l) ∧ ∀ l ∈ [A, y], rightL l from ⟨by simpa using ⟨hRX, hr2.2⟩, by simpa using ⟨hr1.1, hRY⟩⟩)
      have hl160 := hxl
      clear HR1 HR2 HR3 hr1 hr2 hRX hRY hxi hyi hxa hya H2' H3'
      go_wp2_with fail
      refine O3.out.mono ?_
      rintro e w4 ⟨b4, h4⟩
      have h4' : ∃ zo z, isLay [x, C] z ∧ z.length ≤ 1000 ∧ e = .returned (.tuple #[.slice zo z.length z.length, .int .i64 0]) ∧ AtR w4 zo z := by
        rcases h4 with ⟨h, _⟩ | ⟨_, zo, z, h1, h2, h3, h5⟩
        · exact absurd HRR.out.1 h
        · rw [turns_two] at h2
          exact ⟨zo, z, h1, by omega, h3, h5⟩
      obtain ⟨zo, z, hz, hzl, rfl, hza⟩ := h4'
      have B4 := Lib.hid (B3.out.trans (b4.mono B3.out.size))
      have O4' := Lib.hid (O4.out w4 b4)
      have HZA := Lib.hid hza
      have HZ := Lib.hid hz
      clear h4 b4 hza hz O3 O4
      obtain ⟨zn, hzn⟩ : ∃ n, z.length = n := ⟨_, rfl⟩
      obtain ⟨xn, hxn⟩ : ∃ n, x.length = n := ⟨_, rfl⟩
      obtain ⟨yn, hyn⟩ : ∃ n, y.length = n := ⟨_, rfl⟩
      have HZN := Lib.hid hzn
      rw [hyn] at O4'
      rw [hzn, hyn, hxn]
      clear hxn hyn hzn
      go_wp2_with fail
      refine O4'.out.mono ?_
      rintro e w5 ⟨b5, h5⟩
      have h5' : ∃ to t, isLay [A, y] t ∧ e = .returned (.tuple #[.slice to t.length t.length, .int .i64 0]) ∧ AtR w5 to t := by
        rcases h5 with ⟨h, _⟩ | ⟨_, zo, z, h1, h2, h3, h5⟩
        · exact absurd HRR.out.2 h
        · exact ⟨zo, z, h1, h3, h5⟩
      obtain ⟨qo, t, ht, rfl, hta⟩ := h5'
      obtain rfl := HLZ.out z t HZ.out ht
      have B5 := Lib.hid (B4.out.trans (b5.mono B4.out.size))
      have SM := Lib.hid ((Same_any zo qo z z z.length z.length (by omega) w5 (HZA.out.below b5) hta).mono fun e w' h => (⟨h.1.trans (by simp), h.2⟩ : e = .returned (.bool true) ∧ Below w5.heap.size w5 w'))
      rw [HZN.out] at SM ⊢
      clear h5 b5 ht hta O4'
      go_wp2_with fail
      refine SM.out.mono ?_
      rintro e w6 ⟨rfl, b6⟩
      have HPP : Hid (P (.returned (.bool true)) w6) := by
        rw [← HP.out]
        exact Lib.hid ⟨rfl, B5.out.trans (b6.mono B5.out.size)⟩
      clear b6
      go_wp2
      exact HPP.out
end Go.Proofs.YtkhniogmogcjlaaDoor
