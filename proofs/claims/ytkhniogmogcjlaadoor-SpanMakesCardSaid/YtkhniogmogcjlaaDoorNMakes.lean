/- SpanMakes: maps of ranges, tight ones, one over another one. -/
import Derived.Test.YtkhniogmogcjlaaDoorNShown
import Derived.Test.YtkhniogmogcjlaaDoorNFew
import Derived.Test.YtkhniogmogcjlaaDoorNRefSort
import Derived.Test.YtkhniogmogcjlaaDoorNRefOver
namespace Go.Proofs.YtkhniogmogcjlaaDoor
open Go.RowKit Go.Shelf Go.Maps
attribute [local go_sem] Oper.semAt_some

/-- What both Sorts answer is one. -/
theorem sorts_same {l : List Rng} {w1 w1' w2 w2' : World} {e1 e2 : Ending} (h : SortP l w1 e1 w1') (k : SortQ l w2 e2 w2') :
    ∃ (a : List Rng) (i c : Int) (o o2 : Option Addr) (cap : Nat), e1 = .returned (.tuple #[.slice o a.length a.length, .int .i64 i, .int .i64 c]) ∧ e2 = .returned (.tuple #[.slice o2 a.length cap, .int .i64 i, .int .i64 c]) ∧ AtR w1' o a ∧ AtR w2' o2 a ∧ a.length ≤ l.length := by
  rcases h.2 with ⟨i, h3, rfl⟩ | ⟨h3, i, x, m, h4, h5, h6, h7, rfl⟩ | ⟨h3, m, o, h4, h5, rfl, h6⟩ <;> rcases k.2 with ⟨j, k3, rfl⟩ | ⟨k3, j, y, m', k4, k5, k6, k7, rfl⟩ | ⟨k3, m', o', cap, k4, k5, rfl, k6⟩
  · obtain rfl : i = j := by rw [h3] at k3; exact Option.some.inj k3
    exact ⟨[], i, 22, none, none, 0, rfl, rfl, fun h => absurd h (Nat.not_lt_zero _), fun h => absurd h (Nat.not_lt_zero _), Nat.zero_le _⟩
  · rw [h3] at k3; cases k3
  · rw [h3] at k3; cases k3
  · rw [h3] at k3; cases k3
  · obtain rfl := lap_first h4 k4 h5 h6 h7 k5 k6 k7
    exact ⟨[], i, 30, none, none, 0, rfl, rfl, fun h => absurd h (Nat.not_lt_zero _), fun h => absurd h (Nat.not_lt_zero _), Nat.zero_le _⟩
  · exact (lap_not k4 k5 h4 h6 h7).elim
  · rw [h3] at k3; cases k3
  · exact (lap_not h4 h5 k4 k6 k7).elim
  · obtain rfl := map_unique h4 k4 (h5.trans k5.symm)
    exact ⟨m, 0, 0, o, o', cap, rfl, rfl, h6, k6, by rw [h5.length_eq]; exact Nat.le_refl _⟩
theorem laids_same {ls : List (List Rng)} {w1 w1' w2 w2' : World} {e1 e2 : Ending} (h : LaidP ls w1 e1 w1') (k : LaidQ ls w2 e2 w2') :
    ∃ (a : List Rng) (c : Int) (o o2 : Option Addr) (cap : Nat), e1 = .returned (.tuple #[.slice o a.length a.length, .int .i64 c]) ∧ e2 = .returned (.tuple #[.slice o2 a.length cap, .int .i64 c]) ∧ AtR w1' o a ∧ AtR w2' o2 a ∧ a.length ≤ (turnsL ls).length := by
  rcases h.2 with ⟨h3, rfl⟩ | ⟨h3, o, m, h4, h5, rfl, h6⟩ <;> rcases k.2 with ⟨k3, rfl⟩ | ⟨k3, o', m', cap, k4, k5, rfl, k6⟩
  · exact ⟨[], 22, none, none, 0, rfl, rfl, fun h => absurd h (Nat.not_lt_zero _), fun h => absurd h (Nat.not_lt_zero _), Nat.zero_le _⟩
  · exact absurd k3 h3
  · exact absurd h3 k3
  · obtain rfl := isLay_unique h4 k4
    exact ⟨m, 0, o, o', cap, rfl, rfl, h6, k6, h5⟩
set_option maxRecDepth 100000 in
set_option maxHeartbeats 16000000 in
theorem makes_any (o o2 : Option Addr) (l m : List Rng) (cap cap2 : Nat) (hc : l.length ≤ cap) (hc2 : m.length ≤ cap2)
    (w : World) (hA : AtR w o l) (hB : AtR w o2 m) (hG : w.cell? ⟨0, 0, none⟩ = some (rtI 48)) :
    Calls Tryd.prog 4 #[.slice o l.length cap, .slice o2 m.length cap2] w fun e w' => e = .returned (.bool true) ∧ Below w.heap.size w w' := by
  have HS := Lib.hid (shown_any w hG)
  have F1 := Lib.hid (few_any o l cap hc)
  have F2 := Lib.hid (few_any o2 m cap2 hc2)
  have HA := Lib.hid (hA.take 40)
  have HB := Lib.hid (hB.take 40)
  have la : (l.take 40).length ≤ 40 ∧ (l.take 40).length ≤ cap := by rw [List.length_take]; omega
  have lb : (m.take 40).length ≤ 40 ∧ (m.take 40).length ≤ cap2 := by rw [List.length_take]; omega
  obtain ⟨na, hna⟩ : ∃ n, l.length = n := ⟨_, rfl⟩
  obtain ⟨nb, hnb⟩ : ∃ n, m.length = n := ⟨_, rfl⟩
  rw [hna] at F1 ⊢
  rw [hnb] at F2 ⊢
  obtain ⟨A, hAA⟩ : ∃ A, l.take 40 = A := ⟨_, rfl⟩
  obtain ⟨B, hBB⟩ : ∃ B, m.take 40 = B := ⟨_, rfl⟩
  rw [hAA] at F1 HA la
  rw [hBB] at F2 HB lb
  have t1 : (turnsL [A]).length ≤ 80 := by
    unfold turnsL
    simp only [List.flatMap_cons, List.flatMap_nil, List.append_nil, turnsOf_length]
    omega
  have t2 : (turnsL [A, B]).length ≤ 160 := by
    unfold turnsL
    simp only [List.flatMap_cons, List.flatMap_nil, List.append_nil, List.length_append, turnsOf_length]
    omega
  have SP := Lib.hid (fun W (bb : Below w.heap.size w W) => Sort_any o A cap (by omega) la.2 W (HA.out.below bb) (cell_keep bb hG))
  have SR := Lib.hid (fun W (bb : Below w.heap.size w W) => refSort_any o A cap (by omega) W (HA.out.below bb))
  have TP := Lib.hid (fun W (bb : Below w.heap.size w W) => Tight_any o A cap (by omega) (by omega) la.2 W (HA.out.below bb) (cell_keep bb hG))
  have TR := Lib.hid (fun W (bb : Below w.heap.size w W) => refTight_any o A cap (by omega) W (HA.out.below bb))
  have OP := Lib.hid (fun W (bb : Below w.heap.size w W) => Over_any o o2 A B cap cap2 (by omega) (by omega) (by omega) la.2 lb.2 W (HA.out.below bb) (HB.out.below bb) (cell_keep bb hG))
  have OR := Lib.hid (fun W (bb : Below w.heap.size w W) => refOver_any o o2 A B cap cap2 (by omega) (by omega) W (HA.out.below bb) (HB.out.below bb))
  have SM := Lib.hid (fun (W : World) (p q : Option Addr) (a : List Rng) (n1 n2 : Nat) (hl : a.length ≤ 1000) (h1 : AtR W p a) (h2 : AtR W q a) => (refSame_any p q a a n1 n2 (by omega) W h1 h2).mono fun e w' h => (⟨h.1.trans (by simp), h.2⟩ : e = .returned (.bool true) ∧ Below W.heap.size W w'))
  have LA := Lib.hid (show A.length ≤ 40 from la.1)
  have T1 := Lib.hid t1
  have T2 := Lib.hid t2
  obtain ⟨an, han⟩ : ∃ n, A.length = n := ⟨_, rfl⟩
  obtain ⟨bn, hbn⟩ : ∃ n, B.length = n := ⟨_, rfl⟩
  rw [han] at F1 SP SR TP TR OP OR
  rw [hbn] at F2 OP OR
  obtain ⟨P, hP⟩ : ∃ P, (fun (e : Ending) w' => e = .returned (.bool true) ∧ Below w.heap.size w w') = P := ⟨_, rfl⟩
  have HP := Lib.hid hP
  rw [hP]
  clear hA hB hc hc2 hna hnb hAA hBB hG hP han hbn la lb HA HB t1 t2
  go_enter Tryd.func4, Tryd.ntmps4
  go_wp2_with fail
  refine HS.out.mono ?_
  rintro e w1 ⟨rfl, b1⟩
  have B1 := Lib.hid b1
  clear b1 HS
  go_wp2_with fail
  refine (F1.out w1).mono ?_
  rintro e w1' ⟨rfl, rfl⟩
  go_wp2_with fail
  refine (F2.out w1).mono ?_
  rintro e w1' ⟨rfl, rfl⟩
  clear F1 F2
  go_wp2_with fail
  refine (SP.out w1 B1.out).mono ?_
  intro e1 w2 h2
  have B2 := Lib.hid (B1.out.trans (h2.1.mono B1.out.size))
  have H2 := Lib.hid h2
  obtain ⟨a0, i0, c0, p0, he1⟩ : ∃ (a0 : Nat) (i0 c0 : Int) (p0 : Option Addr), e1 = .returned (.tuple #[.slice p0 a0 a0, .int .i64 i0, .int .i64 c0]) := by
    obtain ⟨o, a, i, c, h, _⟩ := sort_c h2
    exact ⟨_, i, c, o, h⟩
  subst he1
  clear h2
  go_wp2_with fail
  refine (SR.out w2 B2.out).mono ?_
  intro e2 w3 h3
  have B3 := Lib.hid (B2.out.trans (h3.1.mono B2.out.size))
  obtain ⟨a, i, c, p1, p2, ca, e1, rfl, at1, at2, hl1⟩ := sorts_same H2.out h3
  have at1' := at1.below h3.1
  obtain ⟨⟨rfl, rfl⟩, rfl, rfl⟩ : (p0 = p1 ∧ a0 = a.length) ∧ i0 = i ∧ c0 = c := by simpa using e1
  have AT1 := Lib.hid at1'
  have AT2 := Lib.hid at2
  have HL1 := Lib.hid (Nat.le_trans hl1 LA.out)
  obtain ⟨x1, hx1⟩ : ∃ n, a.length = n := ⟨_, rfl⟩
  have HX1 := Lib.hid hx1
  rw [hx1]
  clear h3 H2 at1 at2 at1' hl1 SP SR hx1 e1
  go_wp2_with fail
  refine (TP.out w3 B3.out).mono ?_
  intro e1 w4 h4
  have B4 := Lib.hid (B3.out.trans (h4.1.mono B3.out.size))
  have H4 := Lib.hid h4
  have AT1 := Lib.hid (AT1.out.below h4.1)
  have AT2 := Lib.hid (AT2.out.below h4.1)
  obtain ⟨b0, d0, p0', he1⟩ : ∃ (b0 : Nat) (d0 : Int) (p0' : Option Addr), e1 = .returned (.tuple #[.slice p0' b0 b0, .int .i64 d0]) := by
    rcases h4.2 with ⟨_, h⟩ | ⟨_, o, m, _, _, h, _⟩
    · exact ⟨_, _, _, h⟩
    · exact ⟨_, _, _, h⟩
  subst he1
  clear h4
  go_wp2_with fail
  refine (TR.out w4 B4.out).mono ?_
  intro e2 w5 h5
  have B5 := Lib.hid (B4.out.trans (h5.1.mono B4.out.size))
  have AT1 := Lib.hid (AT1.out.below h5.1)
  have AT2 := Lib.hid (AT2.out.below h5.1)
  obtain ⟨b, d, p3, p4, cb, e1, rfl, at3, at4, hl2⟩ := laids_same H4.out h5
  obtain ⟨⟨rfl, rfl⟩, rfl⟩ : (p0' = p3 ∧ b0 = b.length) ∧ d0 = d := by simpa using e1
  have AT3 := Lib.hid (at3.below h5.1)
  have AT4 := Lib.hid at4
  have HL2 := Lib.hid (Nat.le_trans hl2 T1.out)
  obtain ⟨x2, hx2⟩ : ∃ n, b.length = n := ⟨_, rfl⟩
  have HX2 := Lib.hid hx2
  rw [hx2]
  clear h5 H4 at3 at4 hl2 TP TR hx2 e1
  go_wp2_with fail
  refine (OP.out w5 B5.out).mono ?_
  intro e1 w6 h6
  have B6 := Lib.hid (B5.out.trans (h6.1.mono B5.out.size))
  have H6 := Lib.hid h6
  have AT1 := Lib.hid (AT1.out.below h6.1)
  have AT2 := Lib.hid (AT2.out.below h6.1)
  have AT3 := Lib.hid (AT3.out.below h6.1)
  have AT4 := Lib.hid (AT4.out.below h6.1)
  obtain ⟨f0, g0, p0'', he1⟩ : ∃ (b0 : Nat) (d0 : Int) (p0' : Option Addr), e1 = .returned (.tuple #[.slice p0' b0 b0, .int .i64 d0]) := by
    rcases h6.2 with ⟨_, h⟩ | ⟨_, o, m, _, _, h, _⟩
    · exact ⟨_, _, _, h⟩
    · exact ⟨_, _, _, h⟩
  subst he1
  clear h6
  go_wp2_with fail
  refine (OR.out w6 B6.out).mono ?_
  intro e2 w7 h7
  have B7 := Lib.hid (B6.out.trans (h7.1.mono B6.out.size))
  have AT1 := Lib.hid (AT1.out.below h7.1)
  have AT2 := Lib.hid (AT2.out.below h7.1)
  have AT3 := Lib.hid (AT3.out.below h7.1)
  have AT4 := Lib.hid (AT4.out.below h7.1)
  obtain ⟨f, g, p5, p6, cf, e1, rfl, at5, at6, hl3⟩ := laids_same H6.out h7
  obtain ⟨⟨rfl, rfl⟩, rfl⟩ : (p0'' = p5 ∧ f0 = f.length) ∧ g0 = g := by simpa using e1
  have AT5 := Lib.hid (at5.below h7.1)
  have AT6 := Lib.hid at6
  have HL3 := Lib.hid (Nat.le_trans hl3 T2.out)
  obtain ⟨x3, hx3⟩ : ∃ n, f.length = n := ⟨_, rfl⟩
  have HX3 := Lib.hid hx3
  rw [hx3]
  clear h7 H6 at5 at6 hl3 OP OR hx3 e1
  have S1 := SM.out w7 p0 p2 a x1 ca (by have := HL1.out; omega) AT1.out AT2.out
  rw [HX1.out] at S1
  have S1 := Lib.hid S1
  clear AT1 AT2
  go_wp2_with fail
  refine S1.out.mono ?_
  rintro e w8 ⟨rfl, b8⟩
  have B8 := Lib.hid (B7.out.trans (b8.mono B7.out.size))
  have S2 := SM.out w8 p0' p4 b x2 cb (by have := HL2.out; omega) (AT3.out.below b8) (AT4.out.below b8)
  rw [HX2.out] at S2
  have S2 := Lib.hid S2
  have AT5 := Lib.hid (AT5.out.below b8)
  have AT6 := Lib.hid (AT6.out.below b8)
  clear b8 S1 AT3 AT4
  go_wp2_with fail
  refine S2.out.mono ?_
  rintro e w9 ⟨rfl, b9⟩
  have B9 := Lib.hid (B8.out.trans (b9.mono B8.out.size))
  have S3 := SM.out w9 p0'' p6 f x3 cf (by have := HL3.out; omega) (AT5.out.below b9) (AT6.out.below b9)
  rw [HX3.out] at S3
  have S3 := Lib.hid S3
  clear b9 S2 AT5 AT6 SM
  go_wp2_with fail
  refine S3.out.mono ?_
  rintro e w10 ⟨rfl, b10⟩
  have HPP : Hid (P (.returned (.bool true)) w10) := by
    rw [← HP.out]
    exact Lib.hid ⟨rfl, B9.out.trans (b10.mono B9.out.size)⟩
  clear b10
  go_wp2
  exact HPP.out
end Go.Proofs.YtkhniogmogcjlaaDoor
