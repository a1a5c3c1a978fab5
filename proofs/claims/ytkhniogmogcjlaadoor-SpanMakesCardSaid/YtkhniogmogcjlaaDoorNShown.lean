/- shown, of the laws of span. -/
import Derived.Test.YtkhniogmogcjlaaDoorNWrap
import Derived.Test.YtkhniogmogcjlaaDoorNRefSame
namespace Go.Proofs.YtkhniogmogcjlaaDoor
open Go.RowKit Go.Shelf Go.Maps
attribute [local go_sem] Oper.semAt_some

theorem sh_over : isLay [[(0, 9, 1)], [(3, 4, 2)]] [(0, 2, 1), (3, 4, 2), (5, 9, 1)] := by
  refine ⟨by decide, ?_, fun r => ?_⟩
  · rintro i x y hx hy
    rcases i with _ | _ | i
    · cases hx; cases hy; decide
    · cases hx; cases hy; decide
    · simp at hy
  · simp only [findL, saidL]
    by_cases h1 : 3 ≤ r ∧ r ≤ 4
    · rw [if_neg (by omega), if_pos h1, if_pos h1]; rfl
    · rw [if_neg h1, if_neg h1]
      by_cases h2 : 0 ≤ r ∧ r ≤ 9
      · rw [if_pos h2]
        by_cases h3 : r ≤ 2
        · rw [if_pos (by omega)]; rfl
        · rw [if_neg (by omega), if_pos (by omega)]; rfl
      · rw [if_neg h2, if_neg (by omega), if_neg (by omega)]; rfl
theorem perm_two {m : List Rng} {p q : Rng} (h : m.Perm [p, q]) (hm : mapL m) (hp : p.1 ≤ p.2.1) (hq : q.1 ≤ q.2.1) : (m = [p, q] ∧ p.2.1 < q.1) ∨ (m = [q, p] ∧ q.2.1 < p.1) := by
  have hl := h.length_eq
  match m, hl with
  | [x, y], _ =>
    have h1 : x.2.1 < y.1 := by have := hm.2; simpa using this
    have hx : x = p ∨ x = q := by have := h.mem_iff.1 (List.mem_cons_self); simpa using this
    have hy : y = p ∨ y = q := by have := h.mem_iff.1 (List.mem_cons_of_mem _ (List.mem_singleton_self _)); simpa using this
    rcases hx with rfl | rfl <;> rcases hy with rfl | rfl
    · omega
    · exact .inl ⟨rfl, h1⟩
    · exact .inr ⟨rfl, h1⟩
    · omega
theorem lap_nil {x : Rng} : ¬ lapL [] x := fun ⟨_, h, _⟩ => by simp at h
theorem lap_one {y x : Rng} (h : lapL [y] x) : y.1 ≤ x.2.1 ∧ x.1 ≤ y.2.1 := by
  obtain ⟨z, hz, h⟩ := h
  rw [List.mem_singleton.1 hz] at h
  exact h
theorem sh_sort {w w' : World} {e : Ending} (h : SortP [(5, 6, 0), (1, 2, 0)] w e w') : ∃ o, e = .returned (.tuple #[.slice o 2 2, .int .i64 0, .int .i64 0]) ∧ AtR w' o [(1, 2, 0), (5, 6, 0)] := by
  rcases h.2 with ⟨i, h3, _⟩ | ⟨_, i, x, m, h4, h5, h6, h7, _⟩ | ⟨_, m, o, h4, h5, rfl, h6⟩
  · exact absurd (h3.symm.trans (show chkL _ = none by decide)) (by simp)
  · rcases i with _ | _ | i
    · have := List.perm_nil.1 h6
      subst this
      exact absurd h7 lap_nil
    · have := List.perm_singleton.1 h6
      subst this
      cases h4
      have := lap_one h7
      simp at this
    · simp at h4
  · rcases perm_two h5 h4 (by decide) (by decide) with ⟨_, h⟩ | ⟨rfl, _⟩
    · simp at h
    · exact ⟨o, rfl, h6⟩
theorem sh_lap {w w' : World} {e : Ending} (h : SortP [(5, 6, 0), (1, 5, 0)] w e w') : e = .returned (.tuple #[.slice none 0 0, .int .i64 1, .int .i64 30]) := by
  rcases h.2 with ⟨i, h3, _⟩ | ⟨_, i, x, m, h4, h5, h6, h7, rfl⟩ | ⟨_, m, o, h4, h5, rfl, h6⟩
  · exact absurd (h3.symm.trans (show chkL _ = none by decide)) (by simp)
  · rcases i with _ | _ | i
    · have := List.perm_nil.1 h6
      subst this
      exact absurd h7 lap_nil
    · rfl
    · simp at h4
  · rcases perm_two h5 h4 (by decide) (by decide) with ⟨_, h⟩ | ⟨_, h⟩
    · simp at h
    · simp at h
theorem at_lit (w : World) (l : List Rng) (arr : Array Value) (hl : l.length ≤ 1000) (he : arr.toList = cellsR l) (hs : arr.size = l.length * 3) : AtR (w.alloc (.cells arr 38)) (some ⟨w.heap.size, 0, none⟩) l := by
  have h := World.ownsRow_lit (base := w.heap.size) (e := 38) (size := 3) w arr l.length (Nat.le_refl _) (by unfold maxLen; omega) hs
  rw [he] at h
  exact at_own h
set_option maxRecDepth 100000 in
set_option maxHeartbeats 2000000 in
theorem shown_any (w : World) (hG : w.cell? ⟨0, 0, none⟩ = some (rtI 48)) :
    Calls Tryd.prog 10 #[] w fun e w' => e = .returned (.bool true) ∧ Below w.heap.size w w' := by
  obtain ⟨wa, hwa⟩ : ∃ wa, (w.alloc (.cells #[.int .i64 0, .int .i64 9, .int .i64 1] 38)).alloc (.cells #[.int .i64 3, .int .i64 4, .int .i64 2] 38) = wa := ⟨_, rfl⟩
  have ba : Below w.heap.size w wa := by rw [← hwa]; exact ((Below.refl _ _).alloc (Nat.le_refl _) _).alloc (by simp) _
  have a1 : AtR wa (some ⟨w.heap.size, 0, none⟩) [(0, 9, 1)] := by
    rw [← hwa]
    exact (at_lit w [(0, 9, 1)] _ (by decide) rfl rfl).below ((Below.refl _ _).alloc (Nat.le_refl _) _)
  have a2 : AtR wa (some ⟨w.heap.size + 1, 0, none⟩) [(3, 4, 2)] := by
    rw [← hwa]
    have := at_lit (w.alloc (.cells #[.int .i64 0, .int .i64 9, .int .i64 1] 38)) [(3, 4, 2)] #[.int .i64 3, .int .i64 4, .int .i64 2] (by decide) rfl rfl
    rwa [World.size_alloc] at this
  have ho := Over_any (some ⟨w.heap.size, 0, none⟩) (some ⟨w.heap.size + 1, 0, none⟩) [(0, 9, 1)] [(3, 4, 2)] 1 1 (by decide) (by decide) (by decide) (by decide) (by decide) wa a1 a2 (cell_keep ba hG)
  have HO := Lib.hid ho
  have HBA := Lib.hid ba
  have HWA := Lib.hid hwa
  have HGG := Lib.hid hG
  clear hwa ba a1 a2 ho hG
  go_enter Tryd.func10, Tryd.ntmps10
  go_wp2_with fail
  rw [HWA.out]
  refine HO.out.mono ?_
  rintro e w1 ⟨b1, h⟩
  obtain ⟨o1, rfl, at1⟩ : ∃ o, e = .returned (.tuple #[.slice o 3 3, .int .i64 0]) ∧ AtR w1 o [(0, 2, 1), (3, 4, 2), (5, 9, 1)] := by
    rcases h with ⟨h, _⟩ | ⟨_, o, m, hm, _, rfl, hat⟩
    · exact absurd (by decide) h
    · obtain rfl := isLay_unique hm sh_over
      exact ⟨o, rfl, hat⟩
  have B1 := Lib.hid (HBA.out.trans (b1.mono HBA.out.size))
  have AT1 := Lib.hid at1
  obtain ⟨wb, hwb⟩ : ∃ wb, w1.alloc (.cells #[.int .i64 5, .int .i64 6, .int .i64 0, .int .i64 1, .int .i64 2, .int .i64 0] 38) = wb := ⟨_, rfl⟩
  have bb : Below w1.heap.size w1 wb := by rw [← hwb]; exact (Below.refl _ _).alloc (Nat.le_refl _) _
  have BB := Lib.hid (B1.out.trans (bb.mono B1.out.size))
  have a3 : AtR wb (some ⟨w1.heap.size, 0, none⟩) [(5, 6, 0), (1, 2, 0)] := by rw [← hwb]; exact at_lit w1 [(5, 6, 0), (1, 2, 0)] _ (by decide) rfl rfl
  have HS := Lib.hid (Sort_any (some ⟨w1.heap.size, 0, none⟩) [(5, 6, 0), (1, 2, 0)] 2 (by decide) (by decide) wb a3 (cell_keep BB.out HGG.out))
  have AT1b := Lib.hid (at1.below bb)
  have HWB := Lib.hid hwb
  clear h b1 at1 bb a3 hwb HO
  go_wp2_with fail
  rw [HWB.out]
  refine HS.out.mono ?_
  rintro e w2 h
  obtain ⟨o2, rfl, at2⟩ := sh_sort h
  have b2 := h.1
  have B2 := Lib.hid (BB.out.trans (b2.mono BB.out.size))
  have AT2 := Lib.hid (AT1b.out.below b2)
  obtain ⟨wc, hwc⟩ : ∃ wc, w2.alloc (.cells #[.int .i64 5, .int .i64 6, .int .i64 0, .int .i64 1, .int .i64 5, .int .i64 0] 38) = wc := ⟨_, rfl⟩
  have bc : Below w2.heap.size w2 wc := by rw [← hwc]; exact (Below.refl _ _).alloc (Nat.le_refl _) _
  have BC := Lib.hid (B2.out.trans (bc.mono B2.out.size))
  have a4 : AtR wc (some ⟨w2.heap.size, 0, none⟩) [(5, 6, 0), (1, 5, 0)] := by rw [← hwc]; exact at_lit w2 [(5, 6, 0), (1, 5, 0)] _ (by decide) rfl rfl
  have HS2 := Lib.hid (Sort_any (some ⟨w2.heap.size, 0, none⟩) [(5, 6, 0), (1, 5, 0)] 2 (by decide) (by decide) wc a4 (cell_keep BC.out HGG.out))
  have AT2c := Lib.hid (AT2.out.below bc)
  have MT2c := Lib.hid (at2.below bc)
  have HWC := Lib.hid hwc
  clear h b2 at2 bc a4 hwc HS AT1 AT1b AT2
  go_wp2_with fail
  rw [HWC.out]
  refine HS2.out.mono ?_
  rintro e w3 h
  have b3 := h.1
  obtain rfl := sh_lap h
  have B3 := Lib.hid (BC.out.trans (b3.mono BC.out.size))
  have AT3 := Lib.hid (AT2c.out.below b3)
  have MT3 := Lib.hid (MT2c.out.below b3)
  have HF := Lib.hid (Find_any o1 [(0, 2, 1), (3, 4, 2), (5, 9, 1)] 3 4 (by decide) (by decide) w3 AT3.out)
  clear h b3 HS2 AT2c MT2c
  go_wp2_with fail
  refine HF.out.mono ?_
  rintro e w4 ⟨rfl, b4⟩
  have B4 := Lib.hid (B3.out.trans (b4.mono B3.out.size))
  have AT4 := AT3.out.below b4
  obtain ⟨wd, hwd⟩ : ∃ wd, w4.alloc (.cells #[.int .i64 0, .int .i64 2, .int .i64 1, .int .i64 3, .int .i64 4, .int .i64 2, .int .i64 5, .int .i64 9, .int .i64 1] 38) = wd := ⟨_, rfl⟩
  have bd : Below w4.heap.size w4 wd := by rw [← hwd]; exact (Below.refl _ _).alloc (Nat.le_refl _) _
  have BD := Lib.hid (B4.out.trans (bd.mono B4.out.size))
  have a5 : AtR wd (some ⟨w4.heap.size, 0, none⟩) [(0, 2, 1), (3, 4, 2), (5, 9, 1)] := by rw [← hwd]; exact at_lit w4 [(0, 2, 1), (3, 4, 2), (5, 9, 1)] _ (by decide) rfl rfl
  have HRS := Lib.hid ((refSame_any o1 (some ⟨w4.heap.size, 0, none⟩) [(0, 2, 1), (3, 4, 2), (5, 9, 1)] [(0, 2, 1), (3, 4, 2), (5, 9, 1)] 3 3 (by decide) wd (AT4.below bd) a5).mono fun e w' h => (⟨h.1.trans (by simp), h.2⟩ : e = .returned (.bool true) ∧ Below wd.heap.size wd w'))
  obtain ⟨g, off, rfl, hcell⟩ := (MT3.out.below (b4.trans (bd.mono b4.size))) (by decide)
  have hm0 := (hcell 0 _ rfl).1
  have HM0 := Lib.hid hm0
  have HWD := Lib.hid hwd
  rw [show ansF (findL [(0, 2, 1), (3, 4, 2), (5, 9, 1)] 4) = .tuple #[.int .i64 2, .bool true] from rfl]
  clear b4 AT4 bd a5 hwd hcell hm0 HF AT3 MT3
  go_wp2_with fail
  rw [HWD.out]
  refine HRS.out.mono ?_
  rintro e w5 ⟨rfl, b5⟩
  have hm0 := cell_keep b5 HM0.out
  rw [show off + 0 * 3 = off from by omega] at hm0
  have HB5 := Lib.hid (BD.out.trans (b5.mono BD.out.size))
  clear b5 HRS
  go_wp2
  trace_state
  go_ret
  exact ⟨rfl, HB5.out⟩
end Go.Proofs.YtkhniogmogcjlaaDoor
