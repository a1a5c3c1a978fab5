/- layerOf, laid, stretches: what lay stands on. -/
import Derived.Test.YtkhniogmogcjlaaDoorNLaid
import Derived.Test.YtkhniogmogcjlaaDoorNStr
namespace Go.Proofs.YtkhniogmogcjlaaDoor
open Go.RowKit Go.Shelf Go.Maps

def layerR (o : Option Addr) (l : List Rng) : Value := if rightL l then .tuple #[layerV o l.length l.length, .nilIface] else .tuple #[layerV none 0 0, faultV 22 0]
set_option maxRecDepth 100000 in
set_option maxHeartbeats 1000000 in
theorem layerOf_any (o : Option Addr) (l : List Rng) (cap : Nat) (hn : l.length ≤ 1000000) (hcap : l.length ≤ cap) (w : World) (hA : AtR w o l) :
    Calls Tryd.prog 43 #[.slice o l.length cap] w fun e w' => e = .returned (layerR o l) ∧ Below w.heap.size w w' := by
  obtain ⟨w1, hw1⟩ : ∃ w1, w.alloc (layerO none 0 0) = w1 := ⟨_, rfl⟩
  have A1 : Below w.heap.size w w1 := by rw [← hw1]; exact (Below.refl _ _).alloc (Nat.le_refl _) _
  have z1 : w1.heap.size = w.heap.size + 1 := by rw [← hw1]; simp
  have r1 : w1.heap[w.heap.size]? = some (layerO none 0 0) := by rw [← hw1]; exact heap_alloc_new _ _
  have hch := chartOf_any o l.length cap hcap w1
  have hmap := fun W (h : AtR W o l) => isMap_any o l l.length hn W h
  obtain ⟨D, hD⟩ : ∃ D, decide (rightL l) = D := ⟨_, rfl⟩
  rw [hD] at hmap
  have HRES : Hid (layerR o l = if D then .tuple #[layerV o l.length l.length, .nilIface] else .tuple #[layerV none 0 0, faultV 22 0]) := by
    unfold layerR
    rw [← hD]
    by_cases h : rightL l
    · rw [if_pos h, decide_eq_true h]; exact Lib.hid rfl
    · rw [if_neg h, decide_eq_false h]; exact Lib.hid rfl
  obtain ⟨R, hR⟩ : ∃ R, layerR o l = R := ⟨_, rfl⟩
  rw [hR] at HRES ⊢
  obtain ⟨n, hnn⟩ : ∃ n, l.length = n := ⟨_, rfl⟩
  rw [hnn] at hch hmap HRES hcap hn ⊢
  have HCH := Lib.hid hch
  have HMAP := Lib.hid hmap
  have HA := Lib.hid (hA.below A1)
  have HA1 := Lib.hid A1
  have HR1 := Lib.hid r1
  have HW1 := Lib.hid hw1
  clear hch hmap hA A1 r1 hw1 hD hR hnn
  go_enter Tryd.func43, Tryd.ntmps43
  go_wp2_with fail
  rw [HW1.out]
  refine HCH.out.mono ?_
  rintro e w2 ⟨rfl, b2⟩
  have r2 := row_below HR1.out b2
  have a2 := HA.out.below b2
  have lt2 := (Array.getElem?_eq_some_iff.1 r2).1
  have A3 : Below w2.heap.size w2 (w2.alloc (layerO o n n)) := (Below.refl _ _).alloc (Nat.le_refl _) _
  have HM := Lib.hid (HMAP.out _ (a2.below A3))
  have r3 := row_below r2 A3
  have q3 : (w2.alloc (layerO o n n)).heap[w2.heap.size]? = some (layerO o n n) := heap_alloc_new _ _
  have B3 := HA1.out.trans ((b2.trans (A3.mono b2.size)).mono (by omega))
  have HR3 := Lib.hid r3
  have HQ3 := Lib.hid q3
  have HB3 := Lib.hid B3
  clear r2 a2 b2 A3 r3 q3 B3 HMAP HCH
  go_wp2_with fail
  refine HM.out.mono ?_
  rintro e w4 ⟨rfl, b4⟩
  have r4 := row_below HR3.out b4
  have q4 := row_below HQ3.out b4
  have B4 := HB3.out.trans (b4.mono HB3.out.size)
  have lt4 := (Array.getElem?_eq_some_iff.1 r4).1
  have c4 : w4.cell? ⟨w2.heap.size, 0, none⟩ = some (.slice o n n) := by rw [cell_of_row _ _ 0 _ _ _ q4]; rfl
  have d4 : w4.cell? ⟨w.heap.size, 0, none⟩ = some (.slice none 0 0) := by rw [cell_of_row _ _ 0 _ _ _ r4]; rfl
  have f4 : w4.frozen? ⟨w.heap.size, 0, none⟩ = false := frozen_of_row _ _ _ _ _ r4
  have HR4 := Lib.hid r4
  have HB4 := Lib.hid B4
  clear r4 q4 b4 B4
  cases D
  · go_wp2
    refine bodyPost_ret (v := .tuple #[.agg #[.slice none 0 0], faultV 22 0]) ?_ rfl ⟨by rw [HRES.out]; rfl, HB4.out.setCell (Nat.le_refl _) _⟩
    exact results_cell_tmp rfl _ _ w.heap.size 61 #[.slice none 0 0] (0, 0) _ _ rfl rfl (by rw [heap_setCell_same _ _ 0 _ _ _ HR4.out]; rfl) Tryd.underlying61 rfl (by kernel_rfl)
  · go_wp2
    refine bodyPost_ret (v := .tuple #[.agg #[.slice o n n], .nilIface]) ?_ rfl ⟨by rw [HRES.out]; rfl, HB4.out.setCell (Nat.le_refl _) _⟩
    exact results_cell_tmp rfl _ _ w.heap.size 61 #[.slice o n n] (0, 0) _ _ rfl rfl (by rw [heap_setCell_same _ _ 0 _ _ _ HR4.out]; rfl) Tryd.underlying61 rfl (by kernel_rfl)
theorem laid_any (o : Option Addr) (n cap : Nat) (w : World) : Calls Tryd.prog 44 #[.slice o n cap] w fun e w' => e = .returned (.func (.func 56) #[] #[.pointer (some ⟨w.heap.size, 0, none⟩)]) ∧ w.alloc (.cells #[.slice o n cap] 67) = w' := by
  go_enter Tryd.func44, Tryd.ntmps44
  go_wp2
  go_ret
  exact ⟨rfl, rfl⟩
theorem stretches_any (b : Option Nat) (w : World) : Calls Tryd.prog 45 #[.map b] w fun e w' => e = .returned (.func (.func 59) #[] #[.pointer (some ⟨w.heap.size, 0, none⟩)]) ∧ w.alloc (.cells #[.map b] 74) = w' := by
  go_enter Tryd.func45, Tryd.ntmps45
  go_wp2
  go_ret
  exact ⟨rfl, rfl⟩
end Go.Proofs.YtkhniogmogcjlaaDoor
