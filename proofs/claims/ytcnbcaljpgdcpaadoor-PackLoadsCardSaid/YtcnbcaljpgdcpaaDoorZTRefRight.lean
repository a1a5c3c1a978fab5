/- The document's own Right. -/
import Derived.Test.YtcnbcaljpgdcpaaDoorBunA6
import Derived.StillTailTactics
namespace Go.Proofs.YtcnbcaljpgdcpaaDoor
open Go.RowKit Go.Shelf Go.Maps
attribute [local go_sem] Oper.semAt_some

set_option maxRecDepth 100000 in
set_option maxHeartbeats 4000000 in
theorem refRightT_any (io bo : Option Addr) (t : TrieD) (ic bc : Nat) (hi : t.1.length ≤ 1000000) (hb : t.2.length ≤ 1000000) (w : World) (hA : TrieT w io bo t) :
    Calls Tryd.prog 32 #[trieV io t.1.length ic bo t.2.length bc] w fun e w' => e = .returned (.bool (decide (rightT t))) ∧ Below w.heap.size w w' := by
  obtain ⟨P, hP⟩ : ∃ P, (fun (e : Ending) w' => e = .returned (.bool (decide (rightT t))) ∧ Below w.heap.size w w') = P := ⟨_, rfl⟩
  have HP := Lib.hid hP
  rw [hP]
  obtain ⟨ix, bs⟩ := t
  simp only at hi hb ⊢
  obtain ⟨n, hnn⟩ : ∃ n, ix.length = n := ⟨_, rfl⟩
  obtain ⟨m, hmm⟩ : ∃ n, bs.length = n := ⟨_, rfl⟩
  have HN := Lib.hid hnn
  have HM := Lib.hid hmm
  rw [hnn] at hi ⊢
  rw [hmm] at hb ⊢
  have A1 : Below w.heap.size w (w.alloc (trieO io n ic bo m bc)) := (Below.refl _ _).alloc (Nat.le_refl _) _
  have r1 : (w.alloc (trieO io n ic bo m bc)).heap[w.heap.size]? = some (trieO io n ic bo m bc) := heap_alloc_new _ _
  obtain ⟨W, hW⟩ : ∃ W, w.alloc (trieO io n ic bo m bc) = W := ⟨_, rfl⟩
  rw [hW] at A1 r1
  have HX := Lib.hid (hA.ix.below A1)
  have HB := Lib.hid (hA.bl.below A1)
  have HWW := Lib.hid hW
  have c0 : W.cell? ⟨w.heap.size, 0, none⟩ = some (.slice io n ic) := by rw [cell_of_row _ _ 0 _ _ _ r1]; rfl
  have c1 : W.cell? ⟨w.heap.size, 1, none⟩ = some (.slice bo m bc) := by rw [cell_of_row _ _ 1 _ _ _ r1]; rfl
  have hw0 : w.heap.size < W.heap.size := (Array.getElem?_eq_some_iff.1 r1).1
  have ANS : Hid (∀ b, decide (rightT (ix, bs)) = b → ∀ q, P (.returned (.bool b)) (W.drewN q)) := by
    rw [← HP.out]
    refine Lib.hid fun b h q => ⟨by rw [h], ?_⟩
    have hd : ∀ q, Below w.heap.size w (W.drewN q) := fun q => by
      induction q with
      | zero => exact A1
      | succ q ih => exact ih.drew
    exact hd q
  clear hP hnn hmm hA A1 r1 hW
  go_enter Tryd.func32, Tryd.ntmps32
  by_cases h4 : n = 4352
  · subst h4
    go_wp2_with fail
    rw [HWW.out]
    go_loopg [3] 4352 (fun k v wr => ∃ (j q : Nat), v = .int .i64 (j : Nat) ∧ j ≤ 4352 ∧ k = 4352 - j ∧ Hid (∀ a ∈ ix.take j, 0 ≤ a ∧ a < (m : Nat)) ∧ wr = W.drewN q)
    case atStart => exact ⟨0, 0, rfl, Nat.zero_le _, rfl, Lib.hid fun v h => by simp at h, rfl⟩
    case round =>
      obtain ⟨j, q, rfl, hj, rfl, HI, rfl⟩ := hrel
      have hwj : IntKind.i64.wrap (((j : Nat) : Int) + 1) = (j : Nat) + 1 := wrap_id (by omega) (by omega)
      rcases Nat.lt_or_ge j 4352 with hlt | hge
      · have hj1 : j < 1000000 := by omega
        obtain ⟨x, hx⟩ : ∃ x, ix[j]? = some x := ⟨_, List.getElem?_eq_getElem (by rw [HN.out]; exact hlt)⟩
        obtain ⟨g, off, rfl, hc⟩ := HX.out (by rw [HN.out]; omega)
        have k0 := hc j x hx
        have hg := World.block_lt_of_cell? W _ k0
        by_cases hv : 0 ≤ x ∧ x < (m : Nat)
        · have HI2 : Hid (∀ a ∈ ix.take (j + 1), 0 ≤ a ∧ a < (m : Nat)) := Lib.hid fun v h => by
            rw [List.take_add_one, hx] at h
            rcases List.mem_append.1 h with h1 | h1
            · exact HI.out v h1
            · simp at h1; rw [h1]; exact hv
          obtain ⟨h1, h2⟩ := hv
          have h3 : ¬ x < 0 := by omega
          have h4 : ¬ x ≥ (m : Nat) := by omega
          clear hc hx ANS
          go_wp2_with fail
          go_quiet (fail)
          go_wp2
          go_roundg (4352 - (j + 1))
          case measure => omega
          case rel => exact ⟨j + 1, q + nq, by simp, by omega, rfl, HI2, (World.drewN_drewN W q nq).symm ▸ rfl⟩
        · have HQ := Lib.hid (ANS.out false (decide_eq_false fun h => hv (h.2.1 x (List.mem_of_getElem? hx) |> fun z => by rw [← HM.out]; exact z)))
          rcases (by omega : x < 0 ∨ (¬ x < 0 ∧ x ≥ (m : Nat))) with h1 | ⟨h1, h2⟩
          all_goals
            clear hc hx ANS hv
            go_wp2_with fail
            go_quiet (fail)
            go_wp2
            exact (World.drewN_drewN W q nq).symm ▸ HQ.out (q + nq)
      · obtain rfl : j = 4352 := by omega
        have hI := HI.out
        rw [List.take_of_length_le (by rw [HN.out]; exact Nat.le_refl _)] at hI
        have HI3 := Lib.hid hI
        clear hI HI
        go_wp2_with fail
        go_loopg [4] m (fun k v wr => ∃ (j q : Nat), v = .int .i64 (j : Nat) ∧ j ≤ m ∧ k = m - j ∧ Hid (∀ b ∈ bs.take j, fitsL b) ∧ wr = W.drewN q)
        case atStart => exact ⟨0, q, rfl, Nat.zero_le _, rfl, Lib.hid fun v h => by simp at h, rfl⟩
        case round =>
          obtain ⟨j, q, rfl, hj, rfl, HI, rfl⟩ := hrel
          have hwj : IntKind.i64.wrap (((j : Nat) : Int) + 1) = (j : Nat) + 1 := wrap_id (by omega) (by omega)
          rcases Nat.lt_or_ge j m with hlt | hge
          · have hj1 : j < 1000000 := by omega
            obtain ⟨b, hx⟩ : ∃ x, bs[j]? = some x := ⟨_, List.getElem?_eq_getElem (by rw [HM.out]; exact hlt)⟩
            obtain ⟨g, off, rfl, hc⟩ := HB.out (by rw [HM.out]; omega)
            obtain ⟨so, sc, k0, k1, k2⟩ := hc j b hx
            have hg := World.block_lt_of_cell? W _ k0
            have hbm := List.mem_of_getElem? hx
            have HBX := Lib.hid hx
            have NOB := Lib.hid (fun (h : ¬ fitsL b) => ANS.out false (decide_eq_false fun h' => h (h'.2.2 b hbm)))
            obtain ⟨bl, hbl⟩ : ∃ n, b.length = n := ⟨_, rfl⟩
            have HBL := Lib.hid hbl
            have HK2 := Lib.hid k2
            rw [hbl] at k0
            clear hc hx hbl k1 k2 hbm
            by_cases h6 : bl = 256
            · subst h6
              go_wp2_with fail
              go_loopg [5] 256 (fun d v wr => ∃ (i q : Nat), v = .int .i64 (i : Nat) ∧ i ≤ 256 ∧ d = 256 - i ∧ Hid (∀ v ∈ b.take i, 0 ≤ v ∧ v ≤ 31) ∧ wr = W.drewN q)
              case atStart => exact ⟨0, q, rfl, Nat.zero_le _, rfl, Lib.hid fun v h => by simp at h, rfl⟩
              case round =>
                obtain ⟨i, q, rfl, hi', rfl, HI2, rfl⟩ := hrel
                have hwi : IntKind.i64.wrap (((i : Nat) : Int) + 1) = (i : Nat) + 1 := wrap_id (by omega) (by omega)
                rcases Nat.lt_or_ge i 256 with hlt2 | hge2
                · obtain ⟨v, hv⟩ : ∃ x, b[i]? = some x := ⟨_, List.getElem?_eq_getElem (by rw [HBL.out]; exact hlt2)⟩
                  obtain ⟨gs, os, rfl, hcs⟩ := HK2.out (by rw [HBL.out]; omega)
                  have k4 := hcs i v hv
                  have hg4 := World.block_lt_of_cell? W _ k4
                  by_cases hvv : 0 ≤ v ∧ v ≤ 31
                  · have HI4 : Hid (∀ v ∈ b.take (i + 1), 0 ≤ v ∧ v ≤ 31) := Lib.hid fun u h => by
                      rw [List.take_add_one, hv] at h
                      rcases List.mem_append.1 h with h1 | h1
                      · exact HI2.out u h1
                      · simp at h1; rw [h1]; exact hvv
                    have h3 : ¬ v < 0 := by omega
                    have h5 : ¬ v > 31 := by omega
                    clear hcs hv hvv ANS NOB
                    go_wp2
                    go_roundg (256 - (i + 1))
                    case measure => omega
                    case rel => exact ⟨i + 1, q, by simp, by omega, rfl, HI4, rfl⟩
                  · have HQ := Lib.hid (NOB.out fun h => hvv (h.1 v (List.mem_of_getElem? hv)))
                    rcases (by omega : v < 0 ∨ (¬ v < 0 ∧ v > 31)) with h1 | ⟨h1, h2⟩
                    all_goals
                      clear hcs hv hvv ANS NOB
                      go_wp2
                      exact HQ.out q
                · obtain rfl : i = 256 := by omega
                  have hI2 := HI2.out
                  rw [List.take_of_length_le (by rw [HBL.out]; exact Nat.le_refl _)] at hI2
                  have HIN : Hid (∀ b ∈ bs.take (j + 1), fitsL b) := Lib.hid fun v h => by
                    rw [List.take_add_one, HBX.out] at h
                    rcases List.mem_append.1 h with h1 | h1
                    · exact HI.out v h1
                    · simp at h1; rw [h1]; exact ⟨hI2, HBL.out⟩
                  clear hI2 ANS NOB
                  go_wp2
                  go_roundg (m - (j + 1))
                  case measure => omega
                  case rel => exact ⟨j + 1, q, by simp, by omega, rfl, HIN, rfl⟩
            · have HQ := Lib.hid (NOB.out (fun h => h6 (by rw [← HBL.out]; exact h.2)) q)
              have h7 : (((bl : Nat) : Int) != 256) = true := by simp; omega
              clear ANS NOB
              go_wp2
              exact HQ.out
          · obtain rfl : j = m := by omega
            have hI := HI.out
            rw [List.take_of_length_le (by rw [HM.out]; exact Nat.le_refl _)] at hI
            have HQ := Lib.hid (ANS.out true (decide_eq_true ⟨HN.out, by rw [HM.out]; exact HI3.out, hI⟩) q)
            clear hI HI ANS
            go_wp2
            exact HQ.out
  · have HQ := Lib.hid (ANS.out false (decide_eq_false fun h => h4 (by rw [← HN.out]; exact h.1)) 0)
    have h7 : (((n : Nat) : Int) != 4352) = true := by simp; omega
    clear ANS
    go_wp2_with fail
    rw [HWW.out]
    exact HQ.out
end Go.Proofs.YtcnbcaljpgdcpaaDoor
