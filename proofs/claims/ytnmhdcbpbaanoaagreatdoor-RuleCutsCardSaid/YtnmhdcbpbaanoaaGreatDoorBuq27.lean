/- Shaken by bunq.py. -/
import Derived.Test.YtnmhdcbpbaanoaaGreatDoorBuq23
namespace Go.Proofs.YtnmhdcbpbaanoaaGreatDoor
open Go.RowKit Go.Shelf Go.Maps
attribute [local go_sem] Oper.semAt_some
attribute [local go_sem high] neq_it

set_option maxRecDepth 100000 in
set_option maxHeartbeats 4000000 in
theorem refSame_anyQ (s1 s2 : Bool) (o o2 : Option Addr) (l l2 : List ItemP) (cap cap2 : Nat) (hn : l.length ≤ 100000) (hn2 : l2.length ≤ 100000) (w : World) (hA : AtI w o l) (hA2 : AtI w o2 l2) :
    Calls Tryz.prog 49 #[patV s1 o l.length cap, patV s2 o2 l2.length cap2] w fun e w' => e = .returned (.bool (sameB s1 s2 l l2)) ∧ Below w.heap.size w w' := by
  obtain ⟨P, hP⟩ : ∃ P, (fun (e : Ending) w' => e = .returned (.bool (sameB s1 s2 l l2)) ∧ Below w.heap.size w w') = P := ⟨_, rfl⟩
  have HP := Lib.hid hP
  rw [hP]
  obtain ⟨n, hnn⟩ : ∃ n, l.length = n := ⟨_, rfl⟩
  obtain ⟨m, hmm⟩ : ∃ m, l2.length = m := ⟨_, rfl⟩
  have HN := Lib.hid hnn
  have HM := Lib.hid hmm
  rw [hnn] at hn ⊢
  rw [hmm] at hn2 ⊢
  obtain ⟨wb, hwb⟩ : ∃ wb, w.alloc (patO s1 o n cap) = wb := ⟨_, rfl⟩
  have bb : Below w.heap.size w wb := by rw [← hwb]; exact (Below.refl _ _).alloc (Nat.le_refl _) _
  have zb : wb.heap.size = w.heap.size + 1 := by rw [← hwb]; simp
  obtain ⟨wa, hwa⟩ : ∃ wa, wb.alloc (patO s2 o2 m cap2) = wa := ⟨_, rfl⟩
  have ba' : Below wb.heap.size wb wa := by rw [← hwa]; exact (Below.refl _ _).alloc (Nat.le_refl _) _
  have HBA := Lib.hid (bb.trans (ba'.mono bb.size))
  have ra : wa.heap[w.heap.size]? = some (patO s1 o n cap) := row_below (by rw [← hwb]; exact heap_alloc_new _ _) ba'
  have ra2 : wa.heap[w.heap.size + 1]? = some (patO s2 o2 m cap2) := by rw [← hwa, ← zb]; exact heap_alloc_new _ _
  have HA := Lib.hid hA
  have HA2 := Lib.hid hA2
  have HWA := Lib.hid hwa
  have HWB := Lib.hid hwb
  obtain ⟨p0, p1⟩ := pat_cells ra
  obtain ⟨q0, q1⟩ := pat_cells ra2
  have R0 := Lib.hid ra
  have R1 := Lib.hid ra2
  have FIN : Hid (∀ W b, sameB s1 s2 l l2 = b → Below wa.heap.size wa W → P (.returned (.bool b)) W) := Lib.hid fun W b h hb => by
    rw [← HP.out]; exact ⟨by rw [h], HBA.out.trans (hb.mono HBA.out.size)⟩
  clear hP hnn hmm hA hA2 hwa hwb bb zb ba' ra ra2
  have hfol : Tryz.prog.follows .mixedOrders = true := by kernel_rfl
  by_cases h1 : s1 = s2
  · subst h1
    by_cases h2 : n = m
    · subst h2
      have hs : (s1 == s1) = true := by simp
      go_enter Tryz.func49, Tryz.ntmps49
      go_wp2_with fail
      rw [HWB.out, HWA.out]
      go_loopg [5] n (fun k v wr => ∃ (j q : Nat), v = .int .i64 (j : Nat) ∧ j ≤ n ∧ k = n - j ∧ l.take j = l2.take j ∧ wr = wa.drewN q)
      case atStart => exact ⟨0, 0, rfl, Nat.zero_le _, rfl, rfl, rfl⟩
      case round =>
        obtain ⟨j, q, rfl, hj, rfl, htk, rfl⟩ := hrel
        rcases Nat.lt_or_ge j n with hlt | hge
        · have hj1 : j < 1000000 := by omega
          obtain ⟨x, hx⟩ : ∃ x, l[j]? = some x := ⟨_, List.getElem?_eq_getElem (by rw [HN.out]; exact hlt)⟩
          obtain ⟨y, hy⟩ : ∃ y, l2[j]? = some y := ⟨_, List.getElem?_eq_getElem (by rw [HM.out]; exact hlt)⟩
          obtain ⟨g, off, rfl, hc⟩ := (HA.out.below HBA.out) (by rw [HN.out]; omega)
          obtain ⟨k0, k1⟩ := hc j x hx
          obtain ⟨g2, off2, rfl, hc2⟩ := (HA2.out.below HBA.out) (by rw [HM.out]; omega)
          obtain ⟨m0, m1⟩ := hc2 j y hy
          have hg := World.block_lt_of_cell? wa _ k0
          have hg2 := World.block_lt_of_cell? wa _ m0
          have hw0 := World.block_lt_of_cell? wa _ p0
          have hw1 := World.block_lt_of_cell? wa _ q0
          have HX := Lib.hid hx
          have HY := Lib.hid hy
          have HT := Lib.hid htk
          obtain ⟨a, b⟩ := x
          obtain ⟨a2, b2⟩ := y
          simp only at k0 k1 m0 m1
          clear hc hc2 hx hy htk
          go_wp2_with fail
          go_quiet (fail)
          try rw [neq_decQ]
          by_cases hxy : ((a, b) : ItemP) = (a2, b2)
          · have HT2 := Lib.hid (take_eqI HT.out HX.out HY.out hxy)
            rw [decide_eq_true hxy]
            clear hxy
            go_wp2
            go_roundg (n - (j + 1))
            case measure => omega
            case rel => exact ⟨j + 1, q + nq, by simp, by omega, rfl, HT2.out, rfl⟩
          · have HPP := Lib.hid (FIN.out ((wa.drewN q).drewN nq) false (by
              unfold sameB
              rw [decide_eq_false (show ¬ l = l2 from fun he => hxy (by
                have h1 := HX.out
                rw [he, HY.out] at h1
                exact (Option.some.inj h1).symm)), Bool.and_false]) (below_drewQ2 _ _ _))
            rw [decide_eq_false hxy]
            clear hxy
            go_wp2
            first | exact HPP.out | (go_ret; exact HPP.out)
        · obtain rfl : j = n := by omega
          have HPP := Lib.hid (FIN.out (wa.drewN q) true (by
            have h := htk
            rw [List.take_of_length_le (by rw [HN.out]; exact Nat.le_refl _), List.take_of_length_le (by rw [HM.out]; exact Nat.le_refl _)] at h
            unfold sameB
            rw [decide_eq_true h, decide_eq_true rfl]
            rfl) (below_drewQ1 _ _))
          clear htk
          go_wp2
          first | exact HPP.out | (go_ret; exact HPP.out)
    · have h2b : (((n : Nat) : Int) == ((m : Nat) : Int)) = false := by rw [beq_eq_false_iff_ne]; omega
      have HF := Lib.hid (FIN.out wa false (by unfold sameB; rw [decide_eq_false (show ¬ l = l2 from fun e => h2 (by rw [← HN.out, ← HM.out, e])), Bool.and_false]) (Below.refl _ _))
      have hs : (s1 == s1) = true := by simp
      go_enter Tryz.func49, Tryz.ntmps49
      go_wp2
      try rw [HWB.out, HWA.out]
      first | exact HF.out | (go_ret; exact HF.out)
  · have h1b : (s1 == s2) = false := by simpa using h1
    have HF := Lib.hid (FIN.out wa false (by unfold sameB; rw [decide_eq_false h1]; rfl) (Below.refl _ _))
    go_enter Tryz.func49, Tryz.ntmps49
    go_wp2
    try rw [HWB.out, HWA.out]
    first | exact HF.out | (go_ret; exact HF.out)
end Go.Proofs.YtnmhdcbpbaanoaaGreatDoor
