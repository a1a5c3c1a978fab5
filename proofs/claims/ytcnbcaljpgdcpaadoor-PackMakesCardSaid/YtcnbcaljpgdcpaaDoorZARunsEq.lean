/- The laws' own: runs alike. -/
import Derived.Test.YtcnbcaljpgdcpaaDoorBunA10
namespace Go.Proofs.YtcnbcaljpgdcpaaDoor
open Go.RowKit Go.Shelf Go.Maps
attribute [local go_sem] Oper.semAt_some

attribute [local go_sem high] neq_run
set_option maxRecDepth 100000 in
set_option maxHeartbeats 2000000 in
theorem sameU_any (o1 o2 : Option Addr) (a b : List (Nat × Int)) (c1 c2 : Nat) (ha : a.length ≤ 1000000) (hb : b.length ≤ 1000000) (w : World) (hA : AtU w o1 a) (hB : AtU w o2 b) :
    Calls Tryd.prog 19 #[.slice o1 a.length c1, .slice o2 b.length c2] w fun e w' => e = .returned (.bool (decide (a = b))) ∧ Below w.heap.size w w' := by
  obtain ⟨P, hP⟩ : ∃ P, (fun (e : Ending) w' => e = .returned (.bool (decide (a = b))) ∧ Below w.heap.size w w') = P := ⟨_, rfl⟩
  have HP := Lib.hid hP
  rw [hP]
  obtain ⟨n, hn⟩ : ∃ n, a.length = n := ⟨_, rfl⟩
  obtain ⟨m, hm⟩ : ∃ n, b.length = n := ⟨_, rfl⟩
  have HN := Lib.hid hn
  have HM := Lib.hid hm
  have HA := Lib.hid hA
  have HB := Lib.hid hB
  rw [hn] at ha ⊢
  rw [hm] at hb ⊢
  have ANS : Hid (∀ (B : Bool) (w' : World), decide (a = b) = B → Below w.heap.size w w' → P (.returned (.bool B)) w') := by
    rw [← HP.out]
    exact Lib.hid fun B w' h1 h2 => ⟨by rw [h1], h2⟩
  clear hP hn hm hA hB
  go_enter Tryd.func19, Tryd.ntmps19
  by_cases hnm : n = m
  · subst hnm
    go_wp2_with fail
    go_loopg [5] n (fun k v wr => ∃ (j : Nat), v = .int .i64 (j : Nat) ∧ j ≤ n ∧ k = n - j ∧ Hid (a.take j = b.take j) ∧ Hid (Below w.heap.size w wr))
    case atStart => exact ⟨0, rfl, Nat.zero_le _, rfl, Lib.hid (by simp), Lib.hid (Below.refl _ _)⟩
    case round =>
      obtain ⟨j, rfl, hj, rfl, HI, HBW⟩ := hrel
      rcases Nat.lt_or_ge j n with hlt | hge
      · have hj1 : j < 1000000 := by omega
        have hwj : IntKind.i64.wrap (((j : Nat) : Int) + 1) = (j : Nat) + 1 := wrap_id (by omega) (by omega)
        obtain ⟨x, hx⟩ : ∃ x, a[j]? = some x := ⟨_, List.getElem?_eq_getElem (by rw [HN.out]; exact hlt)⟩
        obtain ⟨y, hy⟩ : ∃ x, b[j]? = some x := ⟨_, List.getElem?_eq_getElem (by rw [HM.out]; exact hlt)⟩
        obtain ⟨g1, off1, e1, hc1⟩ := (HA.out.below HBW.out) (by rw [HN.out]; omega)
        obtain ⟨g2, off2, e2, hc2⟩ := (HB.out.below HBW.out) (by rw [HM.out]; omega)
        obtain ⟨k0, k1⟩ := hc1 j x hx
        obtain ⟨q0, q1⟩ := hc2 j y hy
        subst e1 e2
        have lg1 := World.block_lt_of_cell? _ _ k0
        have lg2 := World.block_lt_of_cell? _ _ q0
        have HX := Lib.hid hx
        have HY := Lib.hid hy
        obtain ⟨x1, x2⟩ := x
        obtain ⟨y1, y2⟩ := y
        simp only at k0 k1 q0 q1
        clear hc1 hc2 hx hy
        by_cases hxy : x1 = y1 ∧ x2 = y2
        · have HI2 : Hid (a.take (j + 1) = b.take (j + 1)) := Lib.hid (by rw [List.take_add_one, List.take_add_one, HI.out, HX.out, HY.out, hxy.1, hxy.2])
          have HB2 := Lib.hid (show Below w.heap.size w wr.drew from HBW.out.drew)
          obtain ⟨rfl, rfl⟩ := hxy
          clear ANS
          go_wp2_with fail
          go_still_tail 8, (by kernel_rfl)
          change wpList _ _ _ _ _ wr.drew
          go_wp2
          go_roundg (n - (j + 1))
          case measure => omega
          case rel => exact ⟨j + 1, by simp, by omega, rfl, HI2, HB2⟩
        · have HQ := Lib.hid (ANS.out false wr.drew (decide_eq_false fun h => hxy (by
            have h1 := HX.out
            rw [h, HY.out] at h1
            cases h1
            exact ⟨rfl, rfl⟩)) HBW.out.drew)
          have hxy2 : ¬ ((x1 : Int) = (y1 : Int) ∧ x2 = y2) := fun h => hxy ⟨by omega, h.2⟩
          clear ANS hxy
          go_wp2_with fail
          go_still_tail 8, (by kernel_rfl)
          change wpList _ _ _ _ _ wr.drew
          go_wp2
          exact HQ.out
      · obtain rfl : j = n := by omega
        have hI := HI.out
        rw [List.take_of_length_le (by rw [HN.out]; exact Nat.le_refl _), List.take_of_length_le (by rw [HM.out]; exact Nat.le_refl _)] at hI
        have HQ := Lib.hid (ANS.out true wr (decide_eq_true hI) HBW.out)
        clear hI HI ANS
        go_wp2
        exact HQ.out
  · have HQ := Lib.hid (ANS.out false w (decide_eq_false fun h => hnm (by rw [← HN.out, ← HM.out, h])) (Below.refl _ _))
    have hne : ¬ ((n : Nat) : Int) = (m : Nat) := by omega
    clear ANS
    go_wp2_with fail
    exact HQ.out
end Go.Proofs.YtcnbcaljpgdcpaaDoor
