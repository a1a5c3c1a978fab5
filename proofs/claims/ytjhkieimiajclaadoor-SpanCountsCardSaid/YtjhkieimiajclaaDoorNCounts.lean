/- SpanCounts: of how many numbers one map over another one says something. -/
import Derived.Test.YtjhkieimiajclaaDoorNShown
import Derived.Test.YtjhkieimiajclaaDoorNFew
import Derived.Test.YtjhkieimiajclaaDoorNCountMath
namespace Go.Proofs.YtjhkieimiajclaaDoor
open Go.RowKit Go.Shelf Go.Maps
attribute [local go_sem] Oper.semAt_some

theorem turns_length2 (l : List Rng) : (turnsOf l).length = 2 * l.length := by
  unfold turnsOf
  induction l with
  | nil => rfl
  | cons x l ih => rw [List.flatMap_cons, List.length_append, ih]; simp; omega
theorem turns_two2 (a b : List Rng) : (turnsL [a, b]).length = 2 * a.length + 2 * b.length := by
  unfold turnsL
  simp [turns_length2]
theorem count_bounds {l : List Rng} (h : l.length ≤ 1000) : 0 ≤ countL l ∧ countL l ≤ 1114112000 := by
  unfold countL
  by_cases hr : rightL l
  · rw [if_pos hr]
    have := sum_bounds hr.1.1 l.length
    rw [List.take_length] at this
    omega
  · rw [if_neg hr]; omega
set_option maxRecDepth 100000 in
set_option maxHeartbeats 16000000 in
theorem counts_any (o o2 : Option Addr) (a b : List Rng) (cap cap2 : Nat) (hc : a.length ≤ cap) (hc2 : b.length ≤ cap2)
    (w : World) (hA : AtR w o a) (hB : AtR w o2 b) (hG : w.cell? ⟨0, 0, none⟩ = some (rtI 48)) :
    Calls Tryd.prog 9 #[.slice o a.length cap, .slice o2 b.length cap2] w fun e w' => e = .returned (.bool true) ∧ Below w.heap.size w w' := by
  have HS := Lib.hid (shown_any w hG)
  have F1 := Lib.hid (few_any o a cap hc)
  have F2 := Lib.hid (few_any o2 b cap2 hc2)
  have HA := Lib.hid (hA.take 40)
  have HB := Lib.hid (hB.take 40)
  have la : (a.take 40).length ≤ 40 ∧ (a.take 40).length ≤ cap := by rw [List.length_take]; omega
  have lb : (b.take 40).length ≤ 40 ∧ (b.take 40).length ≤ cap2 := by rw [List.length_take]; omega
  obtain ⟨na, hna⟩ : ∃ n, a.length = n := ⟨_, rfl⟩
  obtain ⟨nb, hnb⟩ : ∃ n, b.length = n := ⟨_, rfl⟩
  rw [hna] at F1 ⊢
  rw [hnb] at F2 ⊢
  obtain ⟨A, hAA⟩ : ∃ A, a.take 40 = A := ⟨_, rfl⟩
  obtain ⟨B, hBB⟩ : ∃ B, b.take 40 = B := ⟨_, rfl⟩
  rw [hAA] at F1 HA la
  rw [hBB] at F2 HB lb
  have HG := Lib.hid hG
  obtain ⟨P, hP⟩ : ∃ P, (fun (e : Ending) w' => e = .returned (.bool true) ∧ Below w.heap.size w w') = P := ⟨_, rfl⟩
  have HP := Lib.hid hP
  rw [hP]
  clear hA hB hc hc2 hna hnb hAA hBB hG hP
  go_enter Tryd.func9, Tryd.ntmps9
  go_wp2_with fail
  refine HS.out.mono ?_
  rintro e w1 ⟨rfl, b1⟩
  have B1 := Lib.hid b1
  clear b1
  go_wp2_with fail
  refine (F1.out w1).mono ?_
  rintro e w1' ⟨rfl, rfl⟩
  go_wp2_with fail
  refine (F2.out w1).mono ?_
  rintro e w1' ⟨rfl, rfl⟩
  have O1 := Lib.hid (Over_any o o2 A B cap cap2 (by omega) (by omega) (by rw [turns_two2]; omega) la.2 lb.2 w1 (HA.out.below B1.out) (HB.out.below B1.out) (cell_keep B1.out HG.out))
  go_wp2_with fail
  refine O1.out.mono ?_
  rintro e w2 ⟨b2, h2⟩
  have B2 := Lib.hid (B1.out.trans (b2.mono B1.out.size))
  have H2 : Hid (∃ (so : Option Addr) (x : List Rng) (e1 : Int), e = .returned (.tuple #[.slice so x.length x.length, .int .i64 e1]) ∧ x.length ≤ 160 ∧ AtR w2 so x ∧ ((e1 = 22 ∧ x = []) ∨ (e1 = 0 ∧ countL A ≤ countL x ∧ countL B ≤ countL x ∧ countL x ≤ countL A + countL B))) := by
    refine Lib.hid ?_
    rcases h2 with ⟨h, rfl⟩ | ⟨h, so, m, hm, hl, rfl, hat⟩
    · exact ⟨none, [], 22, rfl, by simp, fun h => absurd h (Nat.not_lt_zero _), .inl ⟨rfl, rfl⟩⟩
    · rw [turns_two2] at hl
      refine ⟨so, m, 0, rfl, by omega, hat, .inr ⟨rfl, over_counts (h A (by simp)) (h B (by simp)) ⟨hm.1, by omega⟩ fun r => ?_⟩⟩
      have := hm.2.2 r
      simpa only [saidL, Option.none_or] using this
  clear h2 b2 O1 HS F1 F2
  obtain ⟨so, x, e1, rfl, hxl, hxa, h2⟩ := H2.out
  have H2' := Lib.hid h2
  have CX := Lib.hid (Count_any so x x.length (by omega) (Nat.le_refl _) w2 hxa)
  have CA := Lib.hid (fun W (bb : Below w.heap.size w W) => Count_any o A cap (by omega) la.2 W (HA.out.below bb))
  have CB := Lib.hid (fun W (bb : Below w.heap.size w W) => Count_any o2 B cap2 (by omega) lb.2 W (HB.out.below bb))
  have ka := count_bounds (l := A) (by omega)
  have kb := count_bounds (l := B) (by omega)
  obtain ⟨xn, hxn⟩ : ∃ n, x.length = n := ⟨_, rfl⟩
  obtain ⟨ca, hca⟩ : ∃ n, countL A = n := ⟨_, rfl⟩
  obtain ⟨cb, hcb⟩ : ∃ n, countL B = n := ⟨_, rfl⟩
  have hcx0 : x = [] → countL x = 0 := fun h => by rw [h]; rfl
  obtain ⟨cx, hcx⟩ : ∃ n, countL x = n := ⟨_, rfl⟩
  rw [hxn, hcx] at CX
  rw [hca] at CA ka
  rw [hcb] at CB kb
  rw [hca, hcb, hcx] at H2'
  rw [hcx] at hcx0
  rw [hxn]
  clear h2 H2 hca hcb hcx hxa
  go_wp2_with fail
  refine CX.out.mono ?_
  rintro e w3 ⟨rfl, b3⟩
  have B3 := Lib.hid (B2.out.trans (b3.mono B2.out.size))
  clear b3
  rcases H2'.out with ⟨rfl, hx0⟩ | ⟨rfl, k1, k2, k3⟩
  · have hz := hcx0 hx0
    subst hz
    have HPP : Hid (P (.returned (.bool true)) w3) := by
      rw [← HP.out]
      exact Lib.hid ⟨rfl, B3.out⟩
    clear hcx0 hx0
    go_wp2
    exact HPP.out
  · have d1 : ca ≤ cx := k1
    have d2 : cb ≤ cx := k2
    have d3 : cx ≤ ca + cb := k3
    have wr : IntKind.i64.wrap (ca + cb) = ca + cb := wrap_id (by omega) (by omega)
    have CA3 := Lib.hid (CA.out w3 B3.out)
    clear hcx0 H2' k1 k2 k3 CX
    go_wp2_with fail
    refine CA3.out.mono ?_
    rintro e w4 ⟨rfl, b4⟩
    have B4 := Lib.hid (B3.out.trans (b4.mono B3.out.size))
    have CB4 := Lib.hid (CB.out w4 B4.out)
    clear b4
    go_wp2_with fail
    refine CB4.out.mono ?_
    rintro e w5 ⟨rfl, b5⟩
    have B5 := Lib.hid (B4.out.trans (b5.mono B4.out.size))
    have CA5 := Lib.hid (CA.out w5 B5.out)
    clear b5
    go_wp2_with fail
    refine CA5.out.mono ?_
    rintro e w6 ⟨rfl, b6⟩
    have B6 := Lib.hid (B5.out.trans (b6.mono B5.out.size))
    have CB6 := Lib.hid (CB.out w6 B6.out)
    clear b6
    go_wp2_with fail
    refine CB6.out.mono ?_
    rintro e w7 ⟨rfl, b7⟩
    have HPP : Hid (P (.returned (.bool true)) w7) := by
      rw [← HP.out]
      exact Lib.hid ⟨rfl, B6.out.trans (b7.mono B6.out.size)⟩
    clear b7
    go_wp2
    exact HPP.out
end Go.Proofs.YtjhkieimiajclaaDoor
