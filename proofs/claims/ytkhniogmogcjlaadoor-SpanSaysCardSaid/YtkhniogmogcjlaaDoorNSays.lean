/- SpanSays: what is sorted, tight, laid over says just so of each number. -/
import Derived.Test.YtkhniogmogcjlaaDoorNShown
import Derived.Test.YtkhniogmogcjlaaDoorNFew
import Derived.Test.YtkhniogmogcjlaaDoorNLawMath
namespace Go.Proofs.YtkhniogmogcjlaaDoor
open Go.RowKit Go.Shelf Go.Maps
attribute [local go_sem] Oper.semAt_some

theorem ansF_form (D : Option Int) : ∃ p q, ansF D = .tuple #[.int .i64 p, .bool q] ∧ D = if q then some p else none := by
  cases D with
  | none => exact ⟨0, false, rfl, rfl⟩
  | some v => exact ⟨v, true, rfl, rfl⟩
theorem turns_length3 (l : List Rng) : (turnsOf l).length = 2 * l.length := turnsOf_length l
theorem turns_one3 (a : List Rng) : (turnsL [a]).length = 2 * a.length := by
  unfold turnsL
  simp [turnsOf_length]
theorem turns_two3 (a b : List Rng) : (turnsL [a, b]).length = 2 * a.length + 2 * b.length := by
  unfold turnsL
  simp [turnsOf_length]
theorem says_or (m : List Rng) (r : Int) (D : Option Int) :
    (∃ z, findL m r = some z ∧ ansF (findL m r) = .tuple #[.int .i64 z, .bool true] ∧ ansF ((findL m r).or D) = .tuple #[.int .i64 z, .bool true]) ∨
    (ansF (findL m r) = .tuple #[.int .i64 0, .bool false] ∧ ansF ((findL m r).or D) = ansF D) := by
  cases h : findL m r with
  | none => exact .inr ⟨rfl, rfl⟩
  | some z => exact .inl ⟨z, rfl, rfl, rfl⟩
set_option maxRecDepth 100000 in
set_option maxHeartbeats 16000000 in
theorem says_law_any (o o2 : Option Addr) (l m : List Rng) (cap cap2 : Nat) (r : Int) (hc : l.length ≤ cap) (hc2 : m.length ≤ cap2)
    (w : World) (hA : AtR w o l) (hB : AtR w o2 m) (hG : w.cell? ⟨0, 0, none⟩ = some (rtI 48)) :
    Calls Tryd.prog 5 #[.slice o l.length cap, .slice o2 m.length cap2, .int .i64 r] w fun e w' => e = .returned (.bool true) ∧ Below w.heap.size w w' := by
  have HS := Lib.hid (shown_any w hG)
  have F1 := Lib.hid (few_any o l cap hc)
  have F2 := Lib.hid (few_any o2 m cap2 hc2)
  have HA := Lib.hid (hA.take 40)
  have HB := Lib.hid (hB.take 40)
  have la : (l.take 40).length ≤ 40 ∧ (l.take 40).length ≤ cap := by rw [List.length_take]; omega
  have lb : (m.take 40).length ≤ 40 ∧ (m.take 40).length ≤ cap2 := by rw [List.length_take]; omega
  obtain ⟨na, hna⟩ : ∃ n, l.length = n := ⟨_, rfl⟩
  obtain ⟨nb, hnb⟩ : ∃ n, m.length = n := ⟨_, rfl⟩
  rw [hna] at F1 ⊢
  rw [hnb] at F2 ⊢
  obtain ⟨A, hAA⟩ : ∃ A, l.take 40 = A := ⟨_, rfl⟩
  obtain ⟨B, hBB⟩ : ∃ B, m.take 40 = B := ⟨_, rfl⟩
  rw [hAA] at F1 HA la
  rw [hBB] at F2 HB lb
  have HG := Lib.hid hG
  obtain ⟨P, hP⟩ : ∃ P, (fun (e : Ending) w' => e = .returned (.bool true) ∧ Below w.heap.size w w') = P := ⟨_, rfl⟩
  have HP := Lib.hid hP
  rw [hP]
  clear hA hB hc hc2 hna hnb hAA hBB hG hP
  go_enter Tryd.func5, Tryd.ntmps5
  go_wp2_with fail
  refine HS.out.mono ?_
  rintro e w1 ⟨rfl, b1⟩
  have B1 := Lib.hid b1
  clear b1
  go_wp2_with fail
  refine (F1.out w1).mono ?_
  rintro e w1' ⟨rfl, rfl⟩
  go_wp2_with fail
  refine (F2.out w1).mono ?_
  rintro e w1' ⟨rfl, rfl⟩
  have S1 := Lib.hid (Sort_any o A cap (by omega) la.2 w1 (HA.out.below B1.out) (cell_keep B1.out HG.out))
  clear HS F1 F2
  go_wp2_with fail
  refine S1.out.mono ?_
  rintro e w2 hs
  have B2 := Lib.hid (B1.out.trans (hs.1.mono B1.out.size))
  obtain ⟨so, a, i, c, rfl, hat, hc⟩ := sort_c hs
  clear hs S1
  rcases hc with ⟨rfl, rfl, -⟩ | ⟨rfl, rfl, -⟩ | ⟨rfl, h1, h2, h3⟩
  · have HPP : Hid (P (.returned (.bool true)) w2) := by
      rw [← HP.out]
      exact Lib.hid ⟨rfl, B2.out⟩
    clear hat
    go_wp2
    exact HPP.out
  · have HPP : Hid (P (.returned (.bool true)) w2) := by
      rw [← HP.out]
      exact Lib.hid ⟨rfl, B2.out⟩
    clear hat
    go_wp2
    exact HPP.out
  · have lA : a.length ≤ 40 := by rw [h3.length_eq]; exact la.1
    have rA : rightL a := ⟨h2, by omega⟩
    obtain ⟨D, hD⟩ : ∃ D, findL A r = D := ⟨_, rfl⟩
    have hDa : findL a r = D := (find_perm h3 h2 r).trans hD
    obtain ⟨p, q, hpq, hDpq⟩ := ansF_form D
    have X1 := Find_any o A cap r (by omega) la.2 w2 (HA.out.below B2.out)
    have X2 := Lib.hid (fun W (bb : Below w2.heap.size w2 W) => Find_any so a a.length r (by omega) (Nat.le_refl _) W (hat.below bb))
    have T1 := Lib.hid (fun W (bb : Below w2.heap.size w2 W) => Tight_any so a a.length (by omega) (by rw [turns_one3]; omega) (Nat.le_refl _) W (hat.below bb) (cell_keep (B2.out.trans (bb.mono B2.out.size)) HG.out))
    have R1 := Lib.hid (fun W (bb : Below w2.heap.size w2 W) => Right_any so a a.length (by omega) (Nat.le_refl _) W (hat.below bb))
    have O1 := Lib.hid (fun W (bb : Below w2.heap.size w2 W) => Over_any so o2 a B a.length cap2 (by omega) (by omega) (by rw [turns_two3]; omega) (Nat.le_refl _) lb.2 W (hat.below bb) (HB.out.below (B2.out.trans (bb.mono B2.out.size))) (cell_keep (B2.out.trans (bb.mono B2.out.size)) HG.out))
    have RM := Lib.hid (fun W (bb : Below w2.heap.size w2 W) => Right_any o2 B cap2 (by omega) lb.2 W (HB.out.below (B2.out.trans (bb.mono B2.out.size))))
    have FM := Lib.hid (fun W (bb : Below w2.heap.size w2 W) => Find_any o2 B cap2 r (by omega) lb.2 W (HB.out.below (B2.out.trans (bb.mono B2.out.size))))
    rw [hD, hpq] at X1
    have X1 := Lib.hid X1
    rw [hDa, hpq] at X2
    rw [decide_eq_true rA] at R1
    have HDA := Lib.hid hDa
    have HRA := Lib.hid rA
    have HLA := Lib.hid lA
    have HQ := Lib.hid hDpq
    have HPQ := Lib.hid hpq
    have HSO := Lib.hid (fun m => says_or m r D)
    obtain ⟨an, han⟩ : ∃ n, a.length = n := ⟨_, rfl⟩
    rw [han] at X2 T1 R1 O1
    have lA' : an ≤ 40 := by omega
    have hlen : (a.length : Nat) = an := han
    rw [han]
    clear h1 h2 h3 hD hDa hDpq hpq hat rA lA han hlen
    go_wp2_with fail
    refine X1.out.mono ?_
    rintro e w3 ⟨rfl, b3⟩
    have B3 := Lib.hid b3
    clear b3 X1
    go_wp2_with fail
    refine (X2.out w3 B3.out).mono ?_
    rintro e w4 ⟨rfl, b4⟩
    have B4 := Lib.hid (B3.out.trans (b4.mono B3.out.size))
    clear b4 B3 X2
    go_wp2_with fail
    refine (T1.out w4 B4.out).mono ?_
    rintro e w5 ⟨b5, h5⟩
    have B5 := Lib.hid (B4.out.trans (b5.mono B4.out.size))
    have h5' : ∃ to t, isLay [a] t ∧ t.length ≤ 80 ∧ e = .returned (.tuple #[.slice to t.length t.length, .int .i64 0]) ∧ AtR w5 to t := by
      rcases h5 with ⟨h, _⟩ | ⟨_, to, t, k1, k2, k3, k4⟩
      · exact absurd (by simpa using HRA.out) h
      · rw [turns_one3] at k2
        have := HLA.out
        exact ⟨to, t, k1, by omega, k3, k4⟩
    obtain ⟨to, t, ht, htl, rfl, hta⟩ := h5'
    have FT := Find_any to t t.length r (by omega) (Nat.le_refl _) w5 hta
    rw [lay_says1 ht r, HDA.out, HPQ.out] at FT
    have FT := Lib.hid FT
    have RT := Lib.hid (fun W (bb : Below w5.heap.size w5 W) => Right_any to t t.length (by omega) (Nat.le_refl _) W (hta.below bb))
    rw [decide_eq_true (show rightL t from ⟨ht.1, by omega⟩)] at RT
    obtain ⟨tn, htn⟩ : ∃ n, t.length = n := ⟨_, rfl⟩
    rw [htn] at FT RT ⊢
    clear b5 h5 T1 ht htl hta htn B4
    go_wp2_with fail
    refine FT.out.mono ?_
    rintro e w6 ⟨rfl, b6⟩
    have B6 := Lib.hid (B5.out.trans (b6.mono B5.out.size))
    have B56 := Lib.hid b6
    clear b6 FT
    go_wp2_with fail
    refine (R1.out w6 B6.out).mono ?_
    rintro e w7 ⟨rfl, b7⟩
    have B7 := Lib.hid (B6.out.trans (b7.mono B6.out.size))
    have B57 := Lib.hid (B56.out.trans (b7.mono B56.out.size))
    clear b7 R1 B6 B56
    go_wp2_with fail
    refine (RT.out w7 B57.out).mono ?_
    rintro e w8 ⟨rfl, b8⟩
    have B8 := Lib.hid (B7.out.trans (b8.mono B7.out.size))
    clear b8 RT B7 B57 B5
    go_wp2_with fail
    refine (O1.out w8 B8.out).mono ?_
    rintro e w9 ⟨b9, h9⟩
    have B9 := Lib.hid (B8.out.trans (b9.mono B8.out.size))
    rcases h9 with ⟨hn, rfl⟩ | ⟨hr, co, x, hx, hxl, rfl, hxa⟩
    · have hnB : ¬ rightL B := fun h => hn (by simpa using ⟨HRA.out, h⟩)
      rw [decide_eq_false hnB] at RM
      clear hn hnB b9 O1 B8 FM
      go_wp2_with fail
      refine (RM.out w9 B9.out).mono ?_
      rintro e w10 ⟨rfl, b10⟩
      have HPP : Hid (P (.returned (.bool true)) w10) := by
        rw [← HP.out]
        exact Lib.hid ⟨rfl, B2.out.trans ((B9.out.trans (b10.mono B9.out.size)).mono B2.out.size)⟩
      clear b10
      go_wp2
      exact HPP.out
    · rw [turns_two3] at hxl
      have := HLA.out
      have FX := Find_any co x x.length r (by omega) (Nat.le_refl _) w9 hxa
      rw [lay_says2 hx r, HDA.out] at FX
      obtain ⟨xn, hxn⟩ : ∃ n, x.length = n := ⟨_, rfl⟩
      rw [hxn] at FX ⊢
      rcases HSO.out B with ⟨z, hz, k1, k2⟩ | ⟨k1, k2⟩
      · rw [k2] at FX
        rw [k1] at FM
        have FX := Lib.hid FX
        clear hx hxl hxa hxn hr b9 O1 B8 RM HSO k1 k2 hz
        go_wp2_with fail
        refine FX.out.mono ?_
        rintro e w10 ⟨rfl, b10⟩
        have B10 := Lib.hid (B9.out.trans (b10.mono B9.out.size))
        clear b10
        go_wp2_with fail
        refine (FM.out w10 B10.out).mono ?_
        rintro e w11 ⟨rfl, b11⟩
        have HPP : Hid (P (.returned (.bool true)) w11) := by
          rw [← HP.out]
          exact Lib.hid ⟨rfl, B2.out.trans ((B10.out.trans (b11.mono B10.out.size)).mono B2.out.size)⟩
        clear b11
        go_wp2
        exact HPP.out
      · rw [k2, HPQ.out] at FX
        rw [k1] at FM
        have FX := Lib.hid FX
        clear hx hxl hxa hxn hr b9 O1 B8 RM HSO k1 k2
        go_wp2_with fail
        refine FX.out.mono ?_
        rintro e w10 ⟨rfl, b10⟩
        have B10 := Lib.hid (B9.out.trans (b10.mono B9.out.size))
        clear b10
        go_wp2_with fail
        refine (FM.out w10 B10.out).mono ?_
        rintro e w11 ⟨rfl, b11⟩
        have HPP : Hid (P (.returned (.bool true)) w11) := by
          rw [← HP.out]
          exact Lib.hid ⟨rfl, B2.out.trans ((B10.out.trans (b11.mono B10.out.size)).mono B2.out.size)⟩
        clear b11
        go_wp2
        exact HPP.out
end Go.Proofs.YtkhniogmogcjlaaDoor
