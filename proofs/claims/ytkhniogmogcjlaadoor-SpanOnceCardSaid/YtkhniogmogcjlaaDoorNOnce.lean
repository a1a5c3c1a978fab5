/- SpanOnce: what is tight stays so; over itself, over nothing, nothing over it. -/
import Derived.Test.YtkhniogmogcjlaaDoorNShown
import Derived.Test.YtkhniogmogcjlaaDoorNFew
import Derived.Test.YtkhniogmogcjlaaDoorNLawMath
namespace Go.Proofs.YtkhniogmogcjlaaDoor
open Go.RowKit Go.Shelf Go.Maps
attribute [local go_sem] Oper.semAt_some

theorem turns_one4 (a : List Rng) : (turnsL [a]).length = 2 * a.length := by
  unfold turnsL
  simp [turnsOf_length]
theorem turns_two4 (a b : List Rng) : (turnsL [a, b]).length = 2 * a.length + 2 * b.length := by
  unfold turnsL
  simp [turnsOf_length]
theorem right_nil : rightL [] := ⟨⟨fun x hx => by simp at hx, List.Pairwise.nil⟩, by simp⟩
/-- What Tight and Over answer where all is right, and what that is is known. -/
theorem laid_known {ls : List (List Rng)} {a : List Rng} {w w' : World} {e : Ending} (h : LaidP ls w e w') (hr : ∀ l ∈ ls, rightL l) (hu : ∀ b, isLay ls b → b = a) :
    ∃ o, e = .returned (.tuple #[.slice o a.length a.length, .int .i64 0]) ∧ AtR w' o a ∧ Below w.heap.size w w' := by
  rcases h.2 with ⟨hn, _⟩ | ⟨_, o, m, hm, _, rfl, hat⟩
  · exact absurd hr hn
  · obtain rfl := hu m hm
    exact ⟨o, rfl, hat, h.1⟩
set_option maxRecDepth 100000 in
set_option maxHeartbeats 16000000 in
theorem once_any (o : Option Addr) (l : List Rng) (cap : Nat) (hc : l.length ≤ cap) (w : World) (hA : AtR w o l) (hG : w.cell? ⟨0, 0, none⟩ = some (rtI 48)) :
    Calls Tryd.prog 6 #[.slice o l.length cap] w fun e w' => e = .returned (.bool true) ∧ Below w.heap.size w w' := by
  have HS := Lib.hid (shown_any w hG)
  have F1 := Lib.hid (few_any o l cap hc)
  have HA := Lib.hid (hA.take 40)
  have la : (l.take 40).length ≤ 40 ∧ (l.take 40).length ≤ cap := by rw [List.length_take]; omega
  obtain ⟨na, hna⟩ : ∃ n, l.length = n := ⟨_, rfl⟩
  rw [hna] at F1 ⊢
  obtain ⟨A, hAA⟩ : ∃ A, l.take 40 = A := ⟨_, rfl⟩
  rw [hAA] at F1 HA la
  have HG := Lib.hid hG
  obtain ⟨P, hP⟩ : ∃ P, (fun (e : Ending) w' => e = .returned (.bool true) ∧ Below w.heap.size w w') = P := ⟨_, rfl⟩
  have HP := Lib.hid hP
  rw [hP]
  clear hA hc hna hAA hG hP
  go_enter Tryd.func6, Tryd.ntmps6
  go_wp2_with fail
  refine HS.out.mono ?_
  rintro e w1 ⟨rfl, b1⟩
  have B1 := Lib.hid b1
  clear b1
  go_wp2_with fail
  refine (F1.out w1).mono ?_
  rintro e w1' ⟨rfl, rfl⟩
  have T1 := Lib.hid (Tight_any o A cap (by omega) (by rw [turns_one4]; omega) la.2 w1 (HA.out.below B1.out) (cell_keep B1.out HG.out))
  have RA := Lib.hid (fun W (bb : Below w.heap.size w W) => Right_any o A cap (by omega) la.2 W (HA.out.below bb))
  have CA := Lib.hid (fun W (bb : Below w.heap.size w W) => Count_any o A cap (by omega) la.2 W (HA.out.below bb))
  have OA := Lib.hid (fun W (bb : Below w.heap.size w W) => Over_any o o A A cap cap (by omega) (by omega) (by rw [turns_two4]; omega) la.2 la.2 W (HA.out.below bb) (HA.out.below bb) (cell_keep bb HG.out))
  have ON := Lib.hid (fun W (bb : Below w.heap.size w W) => Over_any none o [] A 0 cap (by simp) (by omega) (by rw [turns_two4]; simp; omega) (by simp) la.2 W (fun h => absurd h (Nat.not_lt_zero _)) (HA.out.below bb) (cell_keep bb HG.out))
  have OM := Lib.hid (fun W (bb : Below w.heap.size w W) => Over_any o none A [] cap 0 (by omega) (by simp) (by rw [turns_two4]; simp; omega) la.2 (by simp) W (HA.out.below bb) (fun h => absurd h (Nat.not_lt_zero _)) (cell_keep bb HG.out))
  rw [List.length_nil] at ON OM
  clear HS F1
  go_wp2_with fail
  refine T1.out.mono ?_
  rintro e w2 ⟨b2, h2⟩
  have B2 := Lib.hid (B1.out.trans (b2.mono B1.out.size))
  clear b2 T1
  rcases h2 with ⟨hn, rfl⟩ | ⟨hr, so, a, ha, hl, rfl, hat⟩
  · have hnA : ¬ rightL A := fun h => hn (by simpa using h)
    have RA2 := RA.out w2 B2.out
    rw [decide_eq_false hnA] at RA2
    have RA3 := Lib.hid RA2
    clear RA2 hn hnA RA CA OA ON OM
    go_wp2_with fail
    refine RA3.out.mono ?_
    rintro e w3 ⟨rfl, b3⟩
    have HPP : Hid (P (.returned (.bool true)) w3) := by
      rw [← HP.out]
      exact Lib.hid ⟨rfl, B2.out.trans (b3.mono B2.out.size)⟩
    clear b3
    go_wp2
    exact HPP.out
  · have rA : rightL A := hr A (by simp)
    rw [turns_one4] at hl
    have ra : rightL a := ⟨ha.1, by omega⟩
    have HAT := Lib.hid hat
    have HA1 := Lib.hid ha
    have HRA := Lib.hid rA
    have Hra := Lib.hid ra
    have T2 := Lib.hid (Tight_any so a a.length (by omega) (by rw [turns_one4]; omega) (Nat.le_refl _) w2 hat (cell_keep B2.out HG.out))
    have SM := Lib.hid (fun W (bb : Below w2.heap.size w2 W) (qo : Option Addr) (hq : AtR W qo a) => (Same_any so qo a a a.length a.length (by omega) W (HAT.out.below bb) hq).mono fun e w' h => (⟨h.1.trans (by simp), h.2⟩ : e = .returned (.bool true) ∧ Below W.heap.size W w'))
    have Ca := Lib.hid (fun W (bb : Below w2.heap.size w2 W) => Count_any so a a.length (by omega) (Nat.le_refl _) W (HAT.out.below bb))
    rw [count_lay rA ra ha] at Ca
    obtain ⟨ca, hca⟩ : ∃ n, countL A = n := ⟨_, rfl⟩
    rw [hca] at CA Ca
    have HL2 := Lib.hid (fun (W : World) (e : Ending) (W' : World) (h : LaidP [a] W e W') => laid_known h (by simpa using ra) (fun b hb => lay_once ha hb))
    have HL3 := Lib.hid (fun (W : World) (e : Ending) (W' : World) (h : LaidP [A, A] W e W') => laid_known h (by simpa using rA) (fun b hb => lay_self ha hb))
    have HL4 := Lib.hid (fun (W : World) (e : Ending) (W' : World) (h : LaidP [[], A] W e W') => laid_known h (by simpa using ⟨right_nil, rA⟩) (fun b hb => lay_nil1 ha hb))
    have HL5 := Lib.hid (fun (W : World) (e : Ending) (W' : World) (h : LaidP [A, []] W e W') => laid_known h (by simpa using ⟨rA, right_nil⟩) (fun b hb => lay_nil2 ha hb))
    obtain ⟨an, han⟩ : ∃ n, a.length = n := ⟨_, rfl⟩
    have HN := Lib.hid han
    rw [han] at T2 SM Ca HL2 HL3 HL4 HL5 hl ⊢
    clear hr rA ra ha hat hca han RA
    go_wp2_with fail
    refine T2.out.mono ?_
    rintro e w3 h
    obtain ⟨o3, rfl, at3, b3⟩ := HL2.out _ _ _ h
    have B3 := Lib.hid (B2.out.trans (b3.mono B2.out.size))
    have D3 := Lib.hid b3
    have AT3 := Lib.hid at3
    clear h b3 at3 T2 HL2
    go_wp2_with fail
    refine (OA.out w3 B3.out).mono ?_
    rintro e w4 h
    obtain ⟨o4, rfl, at4, b4⟩ := HL3.out _ _ _ h
    have B4 := Lib.hid (B3.out.trans (b4.mono B3.out.size))
    have D4 := Lib.hid (D3.out.trans (b4.mono D3.out.size))
    have AT4 := Lib.hid at4
    have AT3 := Lib.hid (AT3.out.below b4)
    clear h b4 at4 OA HL3
    go_wp2_with fail
    refine (ON.out w4 B4.out).mono ?_
    rintro e w5 h
    obtain ⟨o5, rfl, at5, b5⟩ := HL4.out _ _ _ h
    have B5 := Lib.hid (B4.out.trans (b5.mono B4.out.size))
    have D5 := Lib.hid (D4.out.trans (b5.mono D4.out.size))
    have AT5 := Lib.hid at5
    have AT3 := Lib.hid (AT3.out.below b5)
    have AT4 := Lib.hid (AT4.out.below b5)
    clear h b5 at5 ON HL4
    go_wp2_with fail
    refine (OM.out w5 B5.out).mono ?_
    rintro e w6 h
    obtain ⟨o6, rfl, at6, b6⟩ := HL5.out _ _ _ h
    have B6 := Lib.hid (B5.out.trans (b6.mono B5.out.size))
    have D6 := Lib.hid (D5.out.trans (b6.mono D5.out.size))
    have AT6 := Lib.hid at6
    have AT3 := Lib.hid (AT3.out.below b6)
    have AT4 := Lib.hid (AT4.out.below b6)
    have AT5 := Lib.hid (AT5.out.below b6)
    have AT0 := Lib.hid (HAT.out.below D6.out)
    clear h b6 at6 OM HL5 B3 B4 B5 D3 D4 D5 HAT
    go_wp2_with fail
    go_loopg [14] an (fun k v wr => ∃ (j q : Nat), v = .int .i64 ((j : Nat) + 1) ∧ j ≤ an ∧ k = an - j ∧ wr = w6.drewN q)
    case atStart => exact ⟨0, 0, rfl, Nat.zero_le _, rfl, rfl⟩
    case round =>
      obtain ⟨j, q, rfl, hj, rfl, rfl⟩ := hrel
      rcases Nat.lt_or_ge (j + 1) an with hlt | hge
      · have hj1 : j < 1000000 := by omega
        obtain ⟨x, hx⟩ : ∃ x, a[j]? = some x := ⟨_, List.getElem?_eq_getElem (by rw [HN.out]; omega)⟩
        obtain ⟨y, hy⟩ : ∃ y, a[j + 1]? = some y := ⟨_, List.getElem?_eq_getElem (by rw [HN.out]; omega)⟩
        have ht := HA1.out.2.1 j x y hx hy
        have hxo := HA1.out.1.1 x (List.mem_of_getElem? hx)
        obtain ⟨g, off, rfl, hc⟩ := AT0.out (by rw [HN.out]; omega)
        obtain ⟨k0, k1, k2⟩ := hc j x hx
        obtain ⟨m0, m1, m2⟩ := hc (j + 1) y hy
        have hg := World.block_lt_of_cell? w6 _ k0
        obtain ⟨xa, xb, xv⟩ := x
        obtain ⟨ya, yb, yv⟩ := y
        simp only at k0 k1 k2 m0 m1 m2 ht
        unfold okR at hxo
        simp only at hxo
        have hlt2 : ((j : Nat) : Int) + 1 < (an : Nat) := by omega
        have hn1 : (((j : Nat) : Int) + 1).toNat = j + 1 := by omega
        have hn2 : 0 ≤ ((j : Nat) : Int) + 1 := by omega
        have hn3 : IntKind.i64.wrap (((j : Nat) : Int) + 1 - 1) = (j : Nat) := by rw [show ((j : Nat) : Int) + 1 - 1 = (j : Nat) from by omega]; exact wrap_id (by omega) (by omega)
        have hn4 : IntKind.i64.wrap (((j : Nat) : Int) + 1 + 1) = ((j : Nat) : Int) + 1 + 1 := wrap_id (by omega) (by omega)
        have hn5 : IntKind.i64.wrap (xb + 1) = xb + 1 := wrap_id (by omega) (by omega)
        clear hc hx hy
        by_cases e1 : ya = xb + 1
        · have e2 : ¬ xv = yv := fun h => ht ⟨e1.symm, h⟩
          have hb1 : (ya == xb + 1) = true := by simpa using e1
          have hb2 : (yv == xv) = false := by simpa using fun h => e2 h.symm
          clear ht e1 e2
          go_wp2_with fail
          go_quiet (fail)
          go_wp2
          go_roundg (an - (j + 1))
          case measure => omega
          case rel => exact ⟨j + 1, q + nq, by simp, by omega, rfl, rfl⟩
        · have hb1 : (ya == xb + 1) = false := by simpa using e1
          clear ht e1
          go_wp2_with fail
          go_quiet (fail)
          go_wp2
          go_roundg (an - (j + 1))
          case measure => omega
          case rel => exact ⟨j + 1, q + nq, by simp, by omega, rfl, rfl⟩
      · have hge2 : ¬ ((j : Nat) : Int) + 1 < (an : Nat) := by omega
        have bq : Below w6.heap.size w6 (w6.drewN q) := below_drewN1 _ _
        obtain ⟨W, hW⟩ : ∃ W, w6.drewN q = W := ⟨_, rfl⟩
        rw [hW] at bq ⊢
        have S1 := Lib.hid (SM.out W (D6.out.trans (bq.mono D6.out.size)) o3 (AT3.out.below bq))
        have HBQ := Lib.hid bq
        clear hW
        clear bq
        go_wp2_with fail
        refine S1.out.mono ?_
        rintro e w7 ⟨rfl, b7⟩
        have B7 := Lib.hid (HBQ.out.trans (b7.mono HBQ.out.size))
        have S2 := Lib.hid (SM.out w7 (D6.out.trans (B7.out.mono D6.out.size)) o4 (AT4.out.below B7.out))
        clear b7 S1
        go_wp2_with fail
        refine S2.out.mono ?_
        rintro e w8 ⟨rfl, b8⟩
        have B8 := Lib.hid (B7.out.trans (b8.mono B7.out.size))
        have S3 := Lib.hid (SM.out w8 (D6.out.trans (B8.out.mono D6.out.size)) o5 (AT5.out.below B8.out))
        clear b8 S2
        go_wp2_with fail
        refine S3.out.mono ?_
        rintro e w9 ⟨rfl, b9⟩
        have B9 := Lib.hid (B8.out.trans (b9.mono B8.out.size))
        have S4 := Lib.hid (SM.out w9 (D6.out.trans (B9.out.mono D6.out.size)) o6 (AT6.out.below B9.out))
        clear b9 S3
        go_wp2_with fail
        refine S4.out.mono ?_
        rintro e w10 ⟨rfl, b10⟩
        have B10 := Lib.hid (B9.out.trans (b10.mono B9.out.size))
        have S5 := Lib.hid (Ca.out w10 (D6.out.trans (B10.out.mono D6.out.size)))
        clear b10 S4
        go_wp2_with fail
        refine S5.out.mono ?_
        rintro e w11 ⟨rfl, b11⟩
        have B11 := Lib.hid (B10.out.trans (b11.mono B10.out.size))
        have S6 := Lib.hid (CA.out w11 (B6.out.trans (B11.out.mono B6.out.size)))
        clear b11 S5
        go_wp2_with fail
        refine S6.out.mono ?_
        rintro e w12 ⟨rfl, b12⟩
        have HPP : Hid (P (.returned (.bool true)) w12) := by
          rw [← HP.out]
          exact Lib.hid ⟨rfl, B6.out.trans ((B11.out.trans (b12.mono B11.out.size)).mono B6.out.size)⟩
        clear b12
        go_wp2
        exact HPP.out
end Go.Proofs.YtkhniogmogcjlaaDoor
