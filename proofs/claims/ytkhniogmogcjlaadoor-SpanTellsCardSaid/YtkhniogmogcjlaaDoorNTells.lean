/- SpanTells: which ranges are a map, what it says, of how many. -/
import Derived.Test.YtkhniogmogcjlaaDoorNShown
import Derived.Test.YtkhniogmogcjlaaDoorNFew
import Derived.Test.YtkhniogmogcjlaaDoorNRef2
namespace Go.Proofs.YtkhniogmogcjlaaDoor
open Go.RowKit Go.Shelf Go.Maps
attribute [local go_sem] Oper.semAt_some

set_option maxRecDepth 100000 in
set_option maxHeartbeats 16000000 in
theorem tells_any (o o2 : Option Addr) (l m : List Rng) (cap cap2 : Nat) (r : Int) (hc : l.length ≤ cap) (hc2 : m.length ≤ cap2)
    (w : World) (hA : AtR w o l) (hB : AtR w o2 m) (hG : w.cell? ⟨0, 0, none⟩ = some (rtI 48)) :
    Calls Tryd.prog 3 #[.slice o l.length cap, .slice o2 m.length cap2, .int .i64 r] w fun e w' => e = .returned (.bool true) ∧ Below w.heap.size w w' := by
  have HS := Lib.hid (shown_any w hG)
  have F1 := Lib.hid (few_any o l cap hc)
  have F2 := Lib.hid (few_any o2 m cap2 hc2)
  have HA := Lib.hid (hA.take 40)
  have HB := Lib.hid (hB.take 40)
  have la : (l.take 40).length ≤ 40 ∧ (l.take 40).length ≤ cap := by rw [List.length_take]; omega
  have lb : (m.take 40).length ≤ 40 ∧ (m.take 40).length ≤ cap2 := by rw [List.length_take]; omega
  obtain ⟨na, hna⟩ : ∃ n, l.length = n := ⟨_, rfl⟩
  obtain ⟨nb, hnb⟩ : ∃ n, m.length = n := ⟨_, rfl⟩
  rw [hna] at F1 ⊢
  rw [hnb] at F2 ⊢
  obtain ⟨A, hAA⟩ : ∃ A, l.take 40 = A := ⟨_, rfl⟩
  obtain ⟨B, hBB⟩ : ∃ B, m.take 40 = B := ⟨_, rfl⟩
  rw [hAA] at F1 HA la
  rw [hBB] at F2 HB lb
  have FP := Lib.hid (fun W (bb : Below w.heap.size w W) => Find_any o A cap r (by omega) la.2 W (HA.out.below bb))
  have FR := Lib.hid (fun W (bb : Below w.heap.size w W) => refFind_any o A cap r (by omega) W (HA.out.below bb))
  have RP := Lib.hid (fun W (bb : Below w.heap.size w W) => Right_any o A cap (by omega) la.2 W (HA.out.below bb))
  have RR := Lib.hid (fun W (bb : Below w.heap.size w W) => refRight_any o A cap (by omega) W (HA.out.below bb))
  have CP := Lib.hid (fun W (bb : Below w.heap.size w W) => Count_any o A cap (by omega) la.2 W (HA.out.below bb))
  have CR := Lib.hid (fun W (bb : Below w.heap.size w W) => refCount_any o A cap (by omega) W (HA.out.below bb))
  have SP := Lib.hid (fun W (bb : Below w.heap.size w W) => Same_any o o2 A B cap cap2 (by omega) W (HA.out.below bb) (HB.out.below bb))
  have SR := Lib.hid (fun W (bb : Below w.heap.size w W) => refSame_any o o2 A B cap cap2 (by omega) W (HA.out.below bb) (HB.out.below bb))
  have SS := Lib.hid (fun W (bb : Below w.heap.size w W) => (Same_any o o A A cap cap (by omega) W (HA.out.below bb) (HA.out.below bb)).mono fun e w' h => (⟨h.1.trans (by simp), h.2⟩ : e = .returned (.bool true) ∧ Below W.heap.size W w'))
  obtain ⟨p, q, hpq⟩ : ∃ p q, ansF (findL A r) = .tuple #[.int .i64 p, .bool q] := by cases findL A r <;> exact ⟨_, _, rfl⟩
  rw [hpq] at FP FR
  obtain ⟨d, hd⟩ : ∃ d, decide (rightL A) = d := ⟨_, rfl⟩
  rw [hd] at RP RR
  obtain ⟨c, hcc⟩ : ∃ c, countL A = c := ⟨_, rfl⟩
  rw [hcc] at CP CR
  obtain ⟨s, hs⟩ : ∃ s, decide (A = B) = s := ⟨_, rfl⟩
  rw [hs] at SP SR
  obtain ⟨an, han⟩ : ∃ n, A.length = n := ⟨_, rfl⟩
  obtain ⟨bn, hbn⟩ : ∃ n, B.length = n := ⟨_, rfl⟩
  rw [han] at F1 FP FR RP RR CP CR SP SR SS
  rw [hbn] at F2 SP SR
  obtain ⟨P, hP⟩ : ∃ P, (fun (e : Ending) w' => e = .returned (.bool true) ∧ Below w.heap.size w w') = P := ⟨_, rfl⟩
  have HP := Lib.hid hP
  rw [hP]
  clear hA hB hc hc2 hna hnb hAA hBB hG hP hpq hd hcc hs han hbn la lb HA HB
  go_enter Tryd.func3, Tryd.ntmps3
  go_wp2_with fail
  refine HS.out.mono ?_
  rintro e w1 ⟨rfl, b1⟩
  have B1 := Lib.hid b1
  clear b1 HS
  go_wp2_with fail
  refine (F1.out w1).mono ?_
  rintro e w1' ⟨rfl, rfl⟩
  go_wp2_with fail
  refine (F2.out w1).mono ?_
  rintro e w1' ⟨rfl, rfl⟩
  clear F1 F2
  go_wp2_with fail
  refine (FP.out w1 B1.out).mono ?_
  rintro e w2 ⟨rfl, b⟩
  have B2 := Lib.hid (B1.out.trans (b.mono B1.out.size))
  clear b
  go_wp2_with fail
  refine (FR.out w2 B2.out).mono ?_
  rintro e w2' ⟨rfl, rfl⟩
  clear FP FR
  go_wp2_with fail
  refine (RP.out w2 B2.out).mono ?_
  rintro e w3 ⟨rfl, b⟩
  have B3 := Lib.hid (B2.out.trans (b.mono B2.out.size))
  clear b
  go_wp2_with fail
  refine (RR.out w3 B3.out).mono ?_
  rintro e w4 ⟨rfl, b⟩
  have B4 := Lib.hid (B3.out.trans (b.mono B3.out.size))
  clear b RP RR
  go_wp2_with fail
  refine (CP.out w4 B4.out).mono ?_
  rintro e w5 ⟨rfl, b⟩
  have B5 := Lib.hid (B4.out.trans (b.mono B4.out.size))
  clear b
  go_wp2_with fail
  refine (CR.out w5 B5.out).mono ?_
  rintro e w6 ⟨rfl, b⟩
  have B6 := Lib.hid (B5.out.trans (b.mono B5.out.size))
  clear b CP CR
  go_wp2_with fail
  refine (SP.out w6 B6.out).mono ?_
  rintro e w7 ⟨rfl, b⟩
  have B7 := Lib.hid (B6.out.trans (b.mono B6.out.size))
  clear b
  go_wp2_with fail
  refine (SR.out w7 B7.out).mono ?_
  rintro e w8 ⟨rfl, b⟩
  have B8 := Lib.hid (B7.out.trans (b.mono B7.out.size))
  clear b SP SR
  go_wp2_with fail
  refine (SS.out w8 B8.out).mono ?_
  rintro e w9 ⟨rfl, b⟩
  have HPP : Hid (P (.returned (.bool true)) w9) := by
    rw [← HP.out]
    exact Lib.hid ⟨rfl, B8.out.trans (b.mono B8.out.size)⟩
  clear b
  go_wp2
  exact HPP.out
end Go.Proofs.YtkhniogmogcjlaaDoor
