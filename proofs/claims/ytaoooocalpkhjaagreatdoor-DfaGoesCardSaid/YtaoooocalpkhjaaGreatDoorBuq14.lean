/- Shaken by bunq.py. -/
import Derived.Test.YtaoooocalpkhjaaGreatDoorBuq11
import Derived.Test.YtaoooocalpkhjaaGreatDoorBuq12
import Derived.Test.YtaoooocalpkhjaaGreatDoorBuq13
import Derived.Test.YtaoooocalpkhjaaGreatDoorBuq8
import Derived.Test.YtaoooocalpkhjaaGreatDoorBuq9
import Derived.Test.YtaoooocalpkhjaaGreatDoorBuq2
import Derived.BigQuiet
import Derived.Deep.QuietTactic
import Derived.Test.YtaoooocalpkhjaaGreatDoorBuq6
namespace Go.Proofs.YtaoooocalpkhjaaGreatDoor
open Go.RowKit Go.Shelf Go.Maps
attribute [local go_sem] Oper.semAt_some

abbrev exD : List PatP := [(false, [((1 : Int), (0 : Int))])]
theorem ex_runD : runD exD 2 6 = ([[1], [5]], [1, 0, 0, 1, 0, 0]) := by decide +kernel
theorem ex_finD : finD exD 2 = ([[1], [5]], [1, 0, 0, 1, 0, 0]) := by
  have h : ¬ liveD exD 2 6 := by
    unfold liveD
    rw [ex_runD]
    decide
  have := run_stop h (q := 300 * (2 + 1)) (by omega)
  rw [ex_runD] at this
  exact this
theorem ex_RD : finR exD 2 = [[1, 0, 0], [1, 0, 0]] := by
  unfold finR
  rw [ex_finD]
  decide
theorem ex_FD : finF exD 2 = [0, 1] := by
  unfold finF
  rw [ex_finD]
  decide
theorem ex_goD : allD [[1, 0, 0], [1, 0, 0]] 2 [0, 1, 0, 7] = [0, 1, 0, 1, 0] := by decide
theorem ex_go2D : allD [[1, 0, 0], [1, 0, 0]] 2 [0, 1] = [0, 1, 0] := by decide
theorem ex_BD : machB [[1, 0, 0], [1, 0, 0]] [0, 1] 2 = true := by decide
theorem ex_r2D (p q : Nat) : rightsU ([oneX p q 1 2].map plX) 2 = true := by
  show rightsU [((false, [((1 : Int), (0 : Int))]), (false, [((2 : Int), (0 : Int))]), false)] 2 = true
  decide
theorem ex_r1D (p q : Nat) : rightsU ([oneX p q 1 2].map plX) 1 = false := by
  show rightsU [((false, [((1 : Int), (0 : Int))]), (false, [((2 : Int), (0 : Int))]), false)] 1 = false
  decide
theorem row_intsD {W : World} {g : Nat} {t : TypeId} {l : List Int} (h : W.heap[g]? = some (.cells (l.map (Value.int .i64)).toArray t (0, 0))) : NumsAt W (some ⟨g, 0, none⟩) l := fun _ => ⟨g, 0, rfl, fun j x hx => by
  rw [Nat.zero_add, cell_of_row _ _ _ _ _ _ h, List.getElem?_toArray, List.getElem?_map, hx]
  rfl⟩
theorem row_rulD {W : World} {g : Nat} {x : RulX} (h : W.heap[g]? = some (rulO x)) : AtC W (some ⟨g, 0, none⟩) [x] := fun _ => ⟨g, 0, rfl, fun j y hy => by
  match j, hy with
  | 0, hy =>
    cases hy
    obtain ⟨c0, c1, c2, c3, c4⟩ := rul_cells h
    exact ⟨c0, c1, c2, c3, c4⟩
  | j + 1, hy => simp at hy⟩
theorem fewC_one {p q : Nat} {a b : Int} : FewC [oneX p q a b] := fun x hx => by
  rw [List.mem_singleton.1 hx]
  exact ⟨by show 1 ≤ 1000; omega, by show 1 ≤ 1000; omega⟩
set_option maxRecDepth 100000 in
set_option maxHeartbeats 8000000 in
theorem shown12_any (w : World) (aR aM aP aS : Addr) (hG : GlobD w aR aM) (hQ : GlobH w aP aS) : Calls Tryz.prog 9 #[] w fun e w' => e = .returned (.bool true) ∧ Below w.heap.size w w' := by
  have HS1 := Lib.hid (single_any 1 2 w)
  obtain ⟨x, hx⟩ : ∃ x, oneX (w.heap.size + 1) (w.heap.size + 1 + 1) 1 2 = x := ⟨_, rfl⟩
  have hp1 : [x].map leftX = exD := by rw [← hx]; rfl
  have hr2 : rightsU ([x].map plX) (((2 : Nat)) : Int) = true := by rw [← hx]; exact ex_r2D _ _
  have hr1 : rightsU ([x].map plX) 1 = false := by rw [← hx]; exact ex_r1D _ _
  have hfc : FewC [x] := by rw [← hx]; exact fewC_one
  have h300 : (finD ([x].map leftX) 2).1.length ≤ 300 := by rw [hp1, ex_finD]; decide
  have HCO := Lib.hid (fun (o : Option Addr) (W : World) (hb : Below w.heap.size w W) (hA : AtC W o [x]) (hI : ItsC W [x]) => Compile_ok o [x] 1 2 hfc W aR aM aP aS (hG.below hb) (hQ.below hb) hA hI hr2 h300)
  have HCB := Lib.hid (fun (o : Option Addr) (W : World) (hb : Below w.heap.size w W) (hA : AtC W o [x]) (hI : ItsC W [x]) => Compile_bad o [x] 1 1 (by simp) hfc W aR aM (hG.below hb) hA hI hr1)
  rw [hp1] at HCO
  rw [hx] at HS1
  have hxr : rulV x = .agg #[.bool false, .slice (some ⟨w.heap.size + 1, 0, none⟩) 1 1, .bool false, .slice (some ⟨w.heap.size + 1 + 1, 0, none⟩) 1 1, .bool false] := by rw [← hx]; rfl
  have hxo : (rulO x : Obj) = .cells #[.bool false, .slice (some ⟨w.heap.size + 1, 0, none⟩) 1 1, .bool false, .slice (some ⟨w.heap.size + 1 + 1, 0, none⟩) 1 1, .bool false] 59 (0, 0) := by rw [← hx]; rfl
  rw [hxr] at HS1
  have HXO := Lib.hid hxo
  have HGD := Lib.hid hG
  clear hx hp1 hr2 hr1 hfc h300 hxr hxo hG hQ
  go_enter Tryz.func9, Tryz.ntmps9
  go_wp2_with fail
  refine HS1.out.mono ?_
  rintro e W1 ⟨rfl, its1, b1⟩
  obtain ⟨W2, hW2⟩ : ∃ W2, W1.alloc (.cells #[.bool false, .slice (some ⟨w.heap.size + 1, 0, none⟩) 1 1, .bool false, .slice (some ⟨w.heap.size + 1 + 1, 0, none⟩) 1 1, .bool false] 59 (0, 0)) = W2 := ⟨_, rfl⟩
  have b2 : Below W1.heap.size W1 W2 := by rw [← hW2]; exact (Below.refl _ _).alloc (Nat.le_refl _) _
  have r2 : W2.heap[W1.heap.size]? = some (rulO x) := by rw [← hW2, ← HXO.out]; exact heap_alloc_new _ _
  obtain ⟨W3, hW3⟩ : ∃ W3, W2.alloc (.cells #[.bool false, .slice (some ⟨w.heap.size + 1, 0, none⟩) 1 1, .bool false, .slice (some ⟨w.heap.size + 1 + 1, 0, none⟩) 1 1, .bool false] 59 (0, 0)) = W3 := ⟨_, rfl⟩
  have b3 : Below W2.heap.size W2 W3 := by rw [← hW3]; exact (Below.refl _ _).alloc (Nat.le_refl _) _
  have r3 : W3.heap[W2.heap.size]? = some (rulO x) := by rw [← hW3, ← HXO.out]; exact heap_alloc_new _ _
  have B3 := b1.trans ((b2.trans (b3.mono b2.size)).mono b1.size)
  have z2 : W2.heap.size = W1.heap.size + 1 := by rw [← hW2]; simp
  have HC3 := Lib.hid (HCO.out (some ⟨W2.heap.size, 0, none⟩) W3 B3 (row_rulD r3) ((its1.below b2).below b3))
  unfold CompQ at HC3
  rw [z2] at HC3
  have r23 := row_below r2 b3
  have HW3 : Hid ((W1.alloc (.cells #[.bool false, .slice (some ⟨w.heap.size + 1, 0, none⟩) 1 1, .bool false, .slice (some ⟨w.heap.size + 1 + 1, 0, none⟩) 1 1, .bool false] 59)).alloc (.cells #[.bool false, .slice (some ⟨w.heap.size + 1, 0, none⟩) 1 1, .bool false, .slice (some ⟨w.heap.size + 1 + 1, 0, none⟩) 1 1, .bool false] 59) = W3) := Lib.hid (by rw [hW2, hW3])
  have HK : Hid (∀ W, Below W3.heap.size W3 W → Below w.heap.size w W ∧ ItsC W [x] ∧ W.heap[W1.heap.size]? = some (rulO x)) := Lib.hid fun W b => ⟨B3.trans (b.mono B3.size), ((its1.below b2).below b3).below b, row_below r23 b⟩
  clear hW2 hW3 b2 b3 r2 r3 B3 z2 r23 its1 b1 HS1 HCO
  go_wp2_with fail
  rw [HW3.out]
  refine HC3.out.mono ?_
  rintro e W4 ⟨⟨m, rfl, hm1, hm2, hm3, _⟩, b4⟩
  rw [ex_RD] at hm1
  rw [ex_FD] at hm2
  have hB : m.B 2 = true := by show machB (m.rows.map (·.2.1)) m.fits 2 = true; rw [hm1, hm2]; exact ex_BD
  obtain ⟨W5, hW5⟩ : ∃ W5, W4.alloc (.cells #[.slice m.no m.rows.length m.nc, .slice m.fo m.fits.length m.fc] 28) = W5 := ⟨_, rfl⟩
  have b5 : Below W4.heap.size W4 W5 := by rw [← hW5]; exact (Below.refl _ _).alloc (Nat.le_refl _) _
  have r5 : W5.heap[W4.heap.size]? = some (.cells #[.slice m.no m.rows.length m.nc, .slice m.fo m.fits.length m.fc] 28 (0, 0)) := by rw [← hW5]; exact heap_alloc_new _ _
  have z5 : W5.heap.size = W4.heap.size + 1 := by rw [← hW5]; simp
  obtain ⟨W6, hW6⟩ : ∃ W6, W5.alloc (.cells #[.int .i64 0, .int .i64 1, .int .i64 0, .int .i64 7] 3) = W6 := ⟨_, rfl⟩
  have b6 : Below W5.heap.size W5 W6 := by rw [← hW6]; exact (Below.refl _ _).alloc (Nat.le_refl _) _
  have n6 : NumsAt W6 (some ⟨W5.heap.size, 0, none⟩) [0, 1, 0, 7] := by rw [← hW6]; exact row_intsD (heap_alloc_new _ _)
  have B45 := b4.trans (b5.mono b4.size)
  have HK5 : Hid (∀ W, Below W5.heap.size W5 W → (Below w.heap.size w W ∧ ItsC W [x] ∧ W.heap[W1.heap.size]? = some (rulO x)) ∧ MachD W m ∧ W.heap[W4.heap.size]? = some (.cells #[.slice m.no m.rows.length m.nc, .slice m.fo m.fits.length m.fc] 28 (0, 0))) := Lib.hid fun W b => ⟨HK.out W (B45.trans (b.mono B45.size)), (hm3.below b5).below b, row_below r5 b⟩
  have HGO := Lib.hid (GoD_right m 2 (some ⟨W5.heap.size, 0, none⟩) [0, 1, 0, 7] 4 hB (by simp) W6 aR aM (HGD.out.below (HK5.out W6 b6).1.1) (HK5.out W6 b6).2.1 n6)
  rw [hm1, ex_goD, z5] at HGO
  have HFI := Lib.hid (fun (o : Option Addr) (W : World) (hb : Below w.heap.size w W) (hM : MachD W m) (hn : NumsAt W o [0, 1]) => FitsD_right m 2 o [0, 1] 2 hB (by simp) W aR aM (HGD.out.below hb) hM hn)
  rw [hm1, ex_go2D, hm2] at HFI
  have HSM := Lib.hid (fun (m2 : MachX) (W : World) (hM : MachD W m) (hM2 : MachD W m2) => refSameD_any m m2 ⟨by have := congrArg List.length hm1; rw [List.length_map] at this; rw [this]; decide, by rw [hm2]; decide, fun y hy => by
    have : y.2.1 ∈ m.rows.map (·.2.1) := List.mem_map.2 ⟨y, hy, rfl⟩
    rw [hm1] at this
    have h3 : y.2.1 = [1, 0, 0] := by simpa using this
    rw [h3]
    decide⟩ W hM hM2)
  rw [show m.R = [[1, 0, 0], [1, 0, 0]] from hm1, hm2] at HSM
  have HW56 : Hid ((W4.alloc (.cells #[.slice m.no m.rows.length m.nc, .slice m.fo m.fits.length m.fc] 28)).alloc (.cells #[.int .i64 0, .int .i64 1, .int .i64 0, .int .i64 7] 3) = W6) := Lib.hid (by rw [hW5, hW6])
  have HB6 := Lib.hid b6
  clear hm1 hm2 hm3 b4 hB hW5 b5 r5 z5 hW6 b6 n6 B45
  obtain ⟨no, rows, nc, fo, fits, fc⟩ := m
  obtain ⟨q, hq⟩ : ∃ q, rows.length = q := ⟨_, rfl⟩
  obtain ⟨f, hf⟩ : ∃ f, fits.length = f := ⟨_, rfl⟩
  simp only [MachX.v, hq, hf] at HK5 HGO HFI HSM HW56 ⊢
  go_wp2_with fail
  rw [HW56.out]
  refine HGO.out.mono ?_
  rintro e W7 ⟨o7, c7, rfl, own7, b7⟩
  have B7 := HB6.out.trans (b7.mono HB6.out.size)
  obtain ⟨W8, hW8⟩ : ∃ W8, W7.alloc (.cells #[.int .i64 0, .int .i64 1] 3) = W8 := ⟨_, rfl⟩
  have b8 : Below W7.heap.size W7 W8 := by rw [← hW8]; exact (Below.refl _ _).alloc (Nat.le_refl _) _
  have B8 := B7.trans (b8.mono B7.size)
  have n8 : NumsAt W8 (some ⟨W7.heap.size, 0, none⟩) [0, 1] := by rw [← hW8]; exact row_intsD (heap_alloc_new _ _)
  obtain ⟨⟨k1, k2, k3⟩, k4, k5⟩ := HK5.out W8 B8
  obtain ⟨p0, p1⟩ := mac_cells (HK5.out W7 B7).2.2
  have lp := World.block_lt_of_cell? W7 _ p0
  have HC8 := Lib.hid (HFI.out _ W8 k1 k4 n8)
  have HN7 : Hid (NumsAt W7 o7 [0, 1, 0, 1, 0]) := Lib.hid (nums_ownN (l := [0, 1, 0, 1, 0]) own7)
  have HN8 := Lib.hid (HN7.out.below b8)
  have HW8 := Lib.hid hW8
  have HB8 := Lib.hid B8
  clear hW8 b8 n8 k1 k2 k3 k4 k5 own7 b7 B7 B8 HGO HFI HW56 hq hf HN7
  go_wp2_with fail
  rw [HW8.out]
  refine HC8.out.mono ?_
  rintro e W9 ⟨o9, c9, rfl, own9, b9⟩
  have B9 := HB8.out.trans (b9.mono HB8.out.size)
  obtain ⟨⟨k1, k2, k3⟩, k4, k5⟩ := HK5.out W9 B9
  obtain ⟨WA, hWA⟩ : ∃ WA, W9.alloc (.cells #[.bool false, .slice (some ⟨w.heap.size + 1, 0, none⟩) 1 1, .bool false, .slice (some ⟨w.heap.size + 1 + 1, 0, none⟩) 1 1, .bool false] 59 (0, 0)) = WA := ⟨_, rfl⟩
  have bA : Below W9.heap.size W9 WA := by rw [← hWA]; exact (Below.refl _ _).alloc (Nat.le_refl _) _
  have rA : WA.heap[W9.heap.size]? = some (rulO x) := by rw [← hWA, ← HXO.out]; exact heap_alloc_new _ _
  have hru := k3
  rw [HXO.out] at hru
  obtain ⟨u0, u1, u2, u3, u4⟩ := five_cells hru
  have lu := World.block_lt_of_cell? W9 _ u0
  have BA := B9.trans (bA.mono B9.size)
  obtain ⟨⟨l1, l2, l3⟩, l4, l5⟩ := HK5.out WA BA
  have HCA := Lib.hid (HCB.out (some ⟨W9.heap.size, 0, none⟩) WA l1 (row_rulD rA) l2)
  have HN9 : Hid (NumsAt WA o9 [0, 1, 0]) := Lib.hid ((nums_ownZ (l := [0, 1, 0]) own9).below bA)
  have HNA := Lib.hid ((HN8.out.below b9).below bA)
  have HWA := Lib.hid hWA
  have HBA := Lib.hid BA
  clear hWA bA rA hru k1 k2 k3 k4 k5 l1 l2 l3 l4 l5 own9 b9 B9 BA p0 p1 lp HN8 HCB
  go_wp2_with fail
  rw [HWA.out]
  refine HCA.out.mono ?_
  rintro e WB ⟨rfl, bB⟩
  have BB := HBA.out.trans (bB.mono HBA.out.size)
  obtain ⟨WC, hWC⟩ : ∃ WC, WB.alloc (.cells #[.slice none 0 0, .slice none 0 0] 28) = WC := ⟨_, rfl⟩
  have bC : Below WB.heap.size WB WC := by rw [← hWC]; exact (Below.refl _ _).alloc (Nat.le_refl _) _
  have BC := BB.trans (bC.mono BB.size)
  have zC : WC.heap.size = WB.heap.size + 1 := by rw [← hWC]; simp
  obtain ⟨WD, hWD⟩ : ∃ WD, WC.alloc (.cells #[.int .i64 1, .int .i64 0, .int .i64 0] 3) = WD := ⟨_, rfl⟩
  have bD : Below WC.heap.size WC WD := by rw [← hWD]; exact (Below.refl _ _).alloc (Nat.le_refl _) _
  have zD : WD.heap.size = WB.heap.size + 2 := by rw [← hWD]; simp; omega
  have nD : NumsAt WD (some ⟨WB.heap.size + 1, 0, none⟩) [1, 0, 0] := by rw [← hWD, ← zC]; exact row_intsD (heap_alloc_new _ _)
  obtain ⟨WE, hWE⟩ : ∃ WE, WD.alloc (.cells #[.int .i64 1, .int .i64 0, .int .i64 0] 3) = WE := ⟨_, rfl⟩
  have bE : Below WD.heap.size WD WE := by rw [← hWE]; exact (Below.refl _ _).alloc (Nat.le_refl _) _
  have zE : WE.heap.size = WB.heap.size + 3 := by rw [← hWE]; simp; omega
  have nE : NumsAt WE (some ⟨WB.heap.size + 1 + 1, 0, none⟩) [1, 0, 0] := by rw [← hWE, show WB.heap.size + 1 + 1 = WD.heap.size by omega]; exact row_intsD (heap_alloc_new _ _)
  obtain ⟨WF, hWF⟩ : ∃ WF, WE.alloc (.cells #[.slice (some ⟨WB.heap.size + 1, 0, none⟩) 3 3, .slice (some ⟨WB.heap.size + 1 + 1, 0, none⟩) 3 3] 34) = WF := ⟨_, rfl⟩
  have bF : Below WE.heap.size WE WF := by rw [← hWF]; exact (Below.refl _ _).alloc (Nat.le_refl _) _
  have zF : WF.heap.size = WB.heap.size + 4 := by rw [← hWF]; simp; omega
  have rF : WF.heap[WB.heap.size + 1 + 1 + 1]? = some (.cells #[.slice (some ⟨WB.heap.size + 1, 0, none⟩) 3 3, .slice (some ⟨WB.heap.size + 1 + 1, 0, none⟩) 3 3] 34 (0, 0)) := by rw [← hWF, show WB.heap.size + 1 + 1 + 1 = WE.heap.size by omega]; exact heap_alloc_new _ _
  obtain ⟨WG, hWG⟩ : ∃ WG, WF.alloc (.cells #[.int .i64 0, .int .i64 1] 2) = WG := ⟨_, rfl⟩
  have bG : Below WF.heap.size WF WG := by rw [← hWG]; exact (Below.refl _ _).alloc (Nat.le_refl _) _
  have nG : NumsAt WG (some ⟨WB.heap.size + 1 + 1 + 1 + 1, 0, none⟩) [0, 1] := by rw [← hWG, show WB.heap.size + 1 + 1 + 1 + 1 = WF.heap.size by omega]; exact row_intsD (heap_alloc_new _ _)
  have bCG : Below WC.heap.size WC WG := bD.trans ((bE.trans ((bF.trans (bG.mono bF.size)).mono bE.size)).mono bD.size)
  have BG := BC.trans (bCG.mono BC.size)
  obtain ⟨⟨l1, l2, l3⟩, l4, l5⟩ := HK5.out WG BG
  have hM2 : MachD WG ⟨some ⟨WB.heap.size + 1 + 1 + 1, 0, none⟩, [(some ⟨WB.heap.size + 1, 0, none⟩, [1, 0, 0], 3), (some ⟨WB.heap.size + 1 + 1, 0, none⟩, [1, 0, 0], 3)], 2, some ⟨WB.heap.size + 1 + 1 + 1 + 1, 0, none⟩, [0, 1], 2⟩ := by
    have rG := row_below rF bG
    refine ⟨fun _ => ⟨WB.heap.size + 1 + 1 + 1, 0, rfl, fun j y hy => ?_⟩, fun y hy => ?_, nG⟩
    · match j, hy with
      | 0, hy => cases hy; rw [cell_of_row _ _ _ _ _ _ rG]; rfl
      | 1, hy => cases hy; rw [cell_of_row _ _ _ _ _ _ rG]; rfl
      | j + 2, hy => simp at hy
    · rcases List.mem_cons.1 hy with rfl | hy
      · exact ((nD.below bE).below bF).below bG
      · rw [List.mem_singleton.1 hy]
        exact (nE.below bF).below bG
  have HCG := Lib.hid (HSM.out _ WG l4 hM2)
  replace HCG : Hid (Calls Tryz.prog 13 #[.agg #[.slice no q nc, .slice fo f fc], .agg #[.slice (some ⟨WB.heap.size + 1 + 1 + 1, 0, none⟩) 2 2, .slice (some ⟨WB.heap.size + 1 + 1 + 1 + 1, 0, none⟩) 2 2]] WG fun e w' => e = .returned (.bool true) ∧ Below WG.heap.size WG w') := Lib.hid (by
    have := HCG.out
    rwa [decide_eq_true (by exact ⟨rfl, rfl⟩)] at this)
  obtain ⟨p0, p1⟩ := mac_cells (HK5.out WC BC).2.2
  obtain ⟨v0, v1⟩ := mac_cells (HK5.out WB BB).2.2
  have lp := World.block_lt_of_cell? WC _ p0
  have lv := World.block_lt_of_cell? WB _ v0
  have HWG : Hid ((((((WB.alloc (.cells #[.slice none 0 0, .slice none 0 0] 28)).alloc (.cells #[.int .i64 1, .int .i64 0, .int .i64 0] 3)).alloc (.cells #[.int .i64 1, .int .i64 0, .int .i64 0] 3)).alloc (.cells #[.slice (some ⟨WB.heap.size + 1, 0, none⟩) 3 3, .slice (some ⟨WB.heap.size + 1 + 1, 0, none⟩) 3 3] 34)).alloc (.cells #[.int .i64 0, .int .i64 1] 2)) = WG) := Lib.hid (by rw [hWC, hWD, hWE, hWF, hWG])
  have HBG := Lib.hid BG
  have HN9 := Lib.hid ((HN9.out.below bB).below (bC.trans (bCG.mono bC.size)))
  have HNA := Lib.hid ((HNA.out.below bB).below (bC.trans (bCG.mono bC.size)))
  clear hWC bC BC zC hWD bD zD nD hWE bE zE nE hWF bF zF rF hWG bG nG bCG BG l1 l2 l3 l4 l5 hM2 bB BB HSM HBA u0 u1 u2 u3 u4 lu
  go_wp2_with fail
  rw [HWG.out]
  refine HCG.out.mono ?_
  rintro e WH ⟨rfl, bH⟩
  have BH := HBG.out.trans (bH.mono HBG.out.size)
  obtain ⟨WI, hWI⟩ : ∃ WI, WH.alloc (.cells #[.int .i64 0, .int .i64 1, .int .i64 0, .int .i64 1, .int .i64 0] 3) = WI := ⟨_, rfl⟩
  have bI : Below WH.heap.size WH WI := by rw [← hWI]; exact (Below.refl _ _).alloc (Nat.le_refl _) _
  have nI : NumsAt WI (some ⟨WH.heap.size, 0, none⟩) [0, 1, 0, 1, 0] := by rw [← hWI]; exact row_intsD (heap_alloc_new _ _)
  have HCI := Lib.hid (intsR_any o7 (some ⟨WH.heap.size, 0, none⟩) [0, 1, 0, 1, 0] [0, 1, 0, 1, 0] c7 5 (by simp) WI ((HNA.out.below bH).below bI) nI)
  rw [decide_eq_true rfl] at HCI
  have HWI := Lib.hid hWI
  have HBI := Lib.hid (BH.trans (bI.mono BH.size))
  have HN9 := Lib.hid ((HN9.out.below bH).below bI)
  clear hWI bI nI bH BH HBG HNA p0 p1 v0 v1 lp lv
  go_wp2_with fail
  rw [HWI.out]
  refine HCI.out.mono ?_
  rintro e WJ ⟨rfl, bJ⟩
  have BJ := HBI.out.trans (bJ.mono HBI.out.size)
  obtain ⟨WL, hWL⟩ : ∃ WL, WJ.alloc (.cells #[.int .i64 0, .int .i64 1, .int .i64 0] 2) = WL := ⟨_, rfl⟩
  have bL : Below WJ.heap.size WJ WL := by rw [← hWL]; exact (Below.refl _ _).alloc (Nat.le_refl _) _
  have nL : NumsAt WL (some ⟨WJ.heap.size, 0, none⟩) [0, 1, 0] := by rw [← hWL]; exact row_intsD (heap_alloc_new _ _)
  have HCL := Lib.hid (setsL12_any o9 (some ⟨WJ.heap.size, 0, none⟩) [0, 1, 0] [0, 1, 0] c9 3 (by simp) WL ((HN9.out.below bJ).below bL) nL)
  rw [decide_eq_true rfl] at HCL
  have HWL := Lib.hid hWL
  have HBL := Lib.hid (BJ.trans (bL.mono BJ.size))
  clear hWL bL nL bJ BJ HBI HN9
  go_wp2_with fail
  rw [HWL.out]
  refine HCL.out.mono ?_
  rintro e WM ⟨rfl, bM⟩
  have HF := Lib.hid (HK5.out WM (HBL.out.trans (bM.mono HBL.out.size))).1.1
  clear bM HBL
  go_wp2_with fail
  go_ret
  exact ⟨rfl, HF.out⟩
end Go.Proofs.YtaoooocalpkhjaaGreatDoor
namespace Go.Proofs.YtaoooocalpkhjaaGreatDoor
open Go.RowKit Go.Shelf Go.Maps
attribute [local go_sem] Oper.semAt_some

theorem Moves.of_grownD {w w' : World} {row : Option Nat} (h : w.grownBy w' row) : Moves (fun k => some k = row) w w' := ⟨h.os, h.tape, h.output, h.size, fun k hk hn => h.block k hk hn⟩
abbrev mchO (o : Option Addr) (n c : Nat) (fo : Option Addr) (k fc : Nat) : Obj := .cells #[.slice o n c, .slice fo k fc] 28 (0, 0)
theorem mac5 {w : World} {g : Nat} {u v : Value} (h : w.heap[g]? = some (.cells #[u, v] 28 (0, 0))) : w.cell? ⟨g, 0, none⟩ = some u ∧ w.cell? ⟨g, 1, none⟩ = some v ∧ w.frozen? ⟨g, 0, none⟩ = false ∧ w.frozen? ⟨g, 1, none⟩ = false ∧ g < w.heap.size :=
  ⟨by rw [cell_of_row _ _ 0 _ _ _ h]; rfl, by rw [cell_of_row _ _ 1 _ _ _ h]; rfl, frozen_of_row _ _ _ _ _ h, frozen_of_row _ _ _ _ _ h, (Array.getElem?_eq_some_iff.1 h).1⟩
theorem mac_set0 {w : World} {g : Nat} {u v : Value} (a : Value) (h : w.heap[g]? = some (.cells #[u, v] 28 (0, 0))) : (w.setCell ⟨g, 0, none⟩ a).heap[g]? = some (.cells #[a, v] 28 (0, 0)) := by
  rw [heap_setCell_same _ _ _ _ _ _ h]; rfl
theorem mac_set1 {w : World} {g : Nat} {u v : Value} (a : Value) (h : w.heap[g]? = some (.cells #[u, v] 28 (0, 0))) : (w.setCell ⟨g, 1, none⟩ a).heap[g]? = some (.cells #[u, a] 28 (0, 0)) := by
  rw [heap_setCell_same _ _ _ _ _ _ h]; rfl
def slX (x : RowD) : Value := .slice x.1 x.2.1.length x.2.2
theorem infoRowsD : (Tryz.prog.info? 34).map (fun i => (i.zero, i.size, i.bytes)) = some (some (.slice none 0 0), 1, 24) := by kernel_rfl
theorem inQ_own {o : Option Addr} {n c k : Nat} : inQ o k ↔ (Value.slice o n c).ownBlock = some k := by
  unfold inQ
  cases o with
  | none => simp [Value.ownBlock]
  | some a => simp [Value.ownBlock]
def RoomM (m : MachX) : Prop := m.fits.length ≤ m.fc ∧ ∀ x ∈ m.rows, x.2.1.length ≤ x.2.2
end Go.Proofs.YtaoooocalpkhjaaGreatDoor
namespace Go.Proofs.YtaoooocalpkhjaaGreatDoor
open Go.RowKit Go.Shelf Go.Maps
attribute [local go_sem] Oper.semAt_some
attribute [local go_sem ↓] app_hide

def cutX (x : RowD) : RowD := (x.1, x.2.1.take 34, x.2.2)
abbrev tabX (m : MachX) (o : Option Addr) (c : Nat) : MachX := ⟨o, (m.rows.take 302).map cutX, c, m.fo, m.fits.take 302, m.fc⟩
structure TabD (w W3 : World) (fo : Option Addr) (k fc : Nat) (rows : List RowD) (j : Nat) (o : Option Addr) (c : Nat) (wr : World) : Prop where
  row : wr.heap[w.heap.size + 2]? = some (mchO o j c fo k fc)
  own : wr.ownsRow W3.heap.size 34 1 (.slice o j c) j ((rows.take j).map fun x => slX (cutX x))
  kept : Moves (fun x => x = w.heap.size + 2) W3 wr
theorem tabD_step {w W3 wr : World} {fo : Option Addr} {k fc : Nat} {rows : List RowD} {j : Nat} {o : Option Addr} {c : Nat} (h : TabD w W3 fo k fc rows j o c wr) (hz : W3.heap.size = w.heap.size + 3) (hj : j ≤ 1000) {x : RowD} (hx : rows[j]? = some x) :
    ∃ g9 c9 w9, (appSem #[25, 25] 25 #[.slice o j c, .slice (some ⟨wr.heap.size, 0, none⟩) 1 1]).run Tryz.prog (wr.alloc (.cells #[slX (cutX x)] 34)).drew = .ok (.slice (some ⟨g9, 0, none⟩) (j + 1) c9) w9 ∧
      w9.cell? ⟨w.heap.size + 2, 0, none⟩ = some (.slice o j c) ∧ w9.frozen? ⟨w.heap.size + 2, 0, none⟩ = false ∧ w.heap.size + 2 < w9.heap.size ∧
      TabD w W3 fo k fc rows (j + 1) (some ⟨g9, 0, none⟩) c9 (w9.setCell ⟨w.heap.size + 2, 0, none⟩ (.slice (some ⟨g9, 0, none⟩) (j + 1) c9)) := by
  have hcs := h.own
  have hzk := h.kept.size
  have a8 : Below wr.heap.size wr (wr.drew.alloc (.cells #[slX (cutX x)] 34)) := ((Below.refl wr.heap.size wr).drew).alloc (Nat.le_refl _) _
  have hcs8 := own_below hcs a8
  obtain ⟨j0, hj0, hy0, hy1, hy2⟩ := info_parts infoRowsD
  obtain ⟨v9, w9, hr9, h29, h39, h49, hat9⟩ := run_append_own_at (P := Tryz.prog) (wr.drew.alloc (.cells #[slX (cutX x)] 34)) W3.heap.size 25 25 34 j0 (.slice none 0 0) 1 24 Tryz.underlying25 hj0 hy0 hy1 hy2 rfl (by decide) _ j _ hcs8 ⟨wr.heap.size, 0, none⟩ 1 1 [slX (cutX x)] rfl
    (cell_one_new wr.drew _ _) (by simp [Value.oneCell', slX]) (by unfold maxLen; omega) (by omega) (by have := a8.size; omega)
  obtain ⟨g9, c9, rfl⟩ := ownsRow_succ h29
  have hob : ∀ y, (Value.slice o j c).ownBlock = some y → W3.heap.size ≤ y := fun y hy => own_rowD' hcs hy
  have m9 : Moves (fun y => (Value.slice o j c).ownBlock = some y) wr w9 := (Moves.of_below a8).trans ((Moves.of_grownD h39).mono fun y hy => hy.symm)
  have row9 := row_keep h.row m9 (fun hy => by have := hob _ hy; omega)
  obtain ⟨e0, e1, e2, e3, e4⟩ := mac5 row9
  refine ⟨g9, c9, w9, hr9, e0, e2, e4, ⟨mac_set0 _ row9, ?_, ?_⟩⟩
  · rw [List.take_add_one, hx, Option.toList_some, List.map_append, List.map_singleton]
    exact own_movesH h29 (Moves.setCell (S := fun y => y = w.heap.size + 2) rfl) (fun y hy e => by have := own_rowD' h29 hy; omega)
  · have mm : Moves (fun y => y = w.heap.size + 2 ∨ W3.heap.size ≤ y) W3 (w9.setCell ⟨w.heap.size + 2, 0, none⟩ (.slice (some ⟨g9, 0, none⟩) (j + 1) c9)) := ((h.kept.mono fun y hy => .inl hy).trans (m9.mono fun y hy => .inr (hob y hy))).trans (Moves.setCell (.inl rfl))
    exact ⟨mm.os, mm.tape, mm.output, mm.size, fun y hy hs => mm.block y hy (by omega)⟩
theorem NumsAt.takeD {w : World} {o : Option Addr} {l : List Int} (h : NumsAt w o l) (k : Nat) : NumsAt w o (l.take k) := fun hn => by
  rw [List.length_take] at hn
  obtain ⟨g, off, ho, hc⟩ := h (by omega)
  refine ⟨g, off, ho, fun j x hx => hc j x ?_⟩
  rw [List.getElem?_take] at hx
  split at hx
  · exact hx
  · cases hx
theorem tab_mach {w W3 wr w5 : World} {m : MachX} {k : Nat} {j : Nat} {o : Option Addr} {c : Nat} (h : TabD w W3 m.fo k m.fc m.rows j o c wr) (hj : m.rows.take j = m.rows.take 302) (hm : Moves (fun x => x = w.heap.size + 1) wr w5) (hz : W3.heap.size = w.heap.size + 3) (hb : Below w.heap.size w w5) (hM : MachD w m) : MachD w5 (tabX m o c) := by
  have ho := own_movesH h.own hm (fun y hy e => by have := own_rowD' h.own hy; omega)
  rw [hj] at ho
  refine ⟨fun hn => ?_, fun x hx => ?_, (hM.below hb).fits.takeD 302⟩
  · have hn2 : 0 < j := by
      have h1 := ho.1
      rw [List.length_map] at h1
      rw [List.length_map] at hn
      omega
    obtain ⟨g, hg, hc⟩ := row_placeK ho hn2
    refine ⟨g, 0, hg, fun i x hx => ?_⟩
    rw [Nat.zero_add]
    have hx2 : ((m.rows.take 302).map cutX)[i]? = some x := hx
    rw [List.getElem?_map] at hx2
    obtain ⟨y, hy, rfl⟩ := Option.map_eq_some_iff.1 hx2
    exact hc i _ (by rw [List.getElem?_map, hy]; rfl)
  · have hx2 : x ∈ (m.rows.take 302).map cutX := hx
    obtain ⟨y, hy, rfl⟩ := List.mem_map.1 hx2
    exact ((hM.below hb).row y (List.mem_of_mem_take hy)).takeD 34
set_option maxRecDepth 100000 in
set_option maxHeartbeats 8000000 in
theorem table12_any (m : MachX) (hfc : m.fits.length ≤ m.fc) (hrc : ∀ x ∈ m.rows, x.2.1.length ≤ x.2.2) (w : World) (hM : MachD w m) :
    Calls Tryz.prog 14 #[m.v] w fun e w' => ∃ o c, e = .returned (tabX m o c).v ∧ MachD w' (tabX m o c) ∧ (∀ k, inQ o k → w.heap.size ≤ k) ∧ Below w.heap.size w w' := by
  obtain ⟨P, hP⟩ : ∃ P, (fun (e : Ending) (w' : World) => ∃ o c, e = .returned (tabX m o c).v ∧ MachD w' (tabX m o c) ∧ (∀ k, inQ o k → w.heap.size ≤ k) ∧ Below w.heap.size w w') = P := ⟨_, rfl⟩
  have HP := Lib.hid hP
  rw [hP]
  obtain ⟨W, hW⟩ : ∃ W, (w.alloc (mchO m.no m.rows.length m.nc m.fo m.fits.length m.fc)).alloc (mchO none 0 0 none 0 0) = W := ⟨_, rfl⟩
  have A1 : Below w.heap.size w W := by rw [← hW]; exact ((Below.refl _ _).alloc (Nat.le_refl _) _).alloc (by simp) _
  have z1 : W.heap.size = w.heap.size + 2 := by rw [← hW]; simp
  have r0 : W.heap[w.heap.size]? = some (mchO m.no m.rows.length m.nc m.fo m.fits.length m.fc) := by rw [← hW, Below.heap_alloc _ _ _ (by simp)]; exact heap_alloc_new _ _
  have r1 : W.heap[w.heap.size + 1]? = some (mchO none 0 0 none 0 0) := by
    rw [← hW]
    have := heap_alloc_new (w.alloc (mchO m.no m.rows.length m.nc m.fo m.fits.length m.fc)) (mchO none 0 0 none 0 0)
    rwa [World.size_alloc] at this
  have HMM := Lib.hid hM
  have HRR := Lib.hid hM.rows
  have HPM : Hid (∀ (o : Option Addr) (c : Nat) (W5 : World), MachD W5 (tabX m o c) → (∀ k, inQ o k → w.heap.size ≤ k) → Below w.heap.size w W5 → P (.returned (tabX m o c).v) W5) := Lib.hid fun o c W5 h1 h0 h2 => by rw [← hP]; exact ⟨o, c, rfl, h1, h0, h2⟩
  obtain ⟨no, rows, nc, fo, fits, fc⟩ := m
  simp only at hfc hrc r0 hW HRR ⊢
  obtain ⟨n, hn⟩ : ∃ n, fits.length = n := ⟨_, rfl⟩
  obtain ⟨q, hq⟩ : ∃ n, rows.length = n := ⟨_, rfl⟩
  rw [hn] at hfc
  simp only [MachX.v, hn, hq] at r0 hW ⊢
  obtain ⟨k, hk⟩ : ∃ k, min n 302 = k := ⟨_, rfl⟩
  have hk2 : min ((n : Nat) : Int) 302 = ((k : Nat) : Int) := by omega
  have hkn : k ≤ n := by omega
  have hkc : k ≤ fc := by omega
  obtain ⟨W3, hW3⟩ : ∃ W3, W.alloc (mchO none 0 0 fo k fc) = W3 := ⟨_, rfl⟩
  have b3 : Below W.heap.size W W3 := by rw [← hW3]; exact (Below.refl _ _).alloc (Nat.le_refl _) _
  have z3 : W3.heap.size = w.heap.size + 3 := by rw [← hW3]; simp; omega
  obtain ⟨c0, c1, _, _, cl⟩ := mac5 r0
  have HR3 : Hid (W3.heap[w.heap.size + 2]? = some (mchO none 0 0 fo k fc)) := Lib.hid (by
    rw [← hW3]
    have := heap_alloc_new W (mchO none 0 0 fo k fc)
    rwa [z1] at this)
  have HRA := Lib.hid (row_below r0 b3)
  have HRB := Lib.hid (row_below r1 b3)
  have HB3 := Lib.hid (A1.trans (b3.mono A1.size))
  have HN := Lib.hid hn
  have HQ := Lib.hid hq
  have HK := Lib.hid hk
  have HW := Lib.hid hW
  have HW3 := Lib.hid hW3
  have HZ3 := Lib.hid z3
  have HRC := Lib.hid hrc
  clear hP hW A1 r0 r1 hn hq hk hM hW3 b3 z3 hrc
  go_enter Tryz.func14, Tryz.ntmps14
  go_wp2_with fail
  rw [HW.out, HW3.out]
  have hz3 : w.heap.size + 2 < W3.heap.size := by rw [HZ3.out]; omega
  have HI0 : Hid (TabD w W3 fo k fc rows 0 none 0 W3) := Lib.hid ⟨HR3.out, World.ownsRow_nil _ _ _ _, Moves.refl _ _⟩
  go_loopg [4] (min q 302) (fun d v wr => ∃ (j : Nat) (o : Option Addr) (c : Nat), v = .int .i64 (j : Nat) ∧ j ≤ min q 302 ∧ min q 302 - j = d ∧ Hid (TabD w W3 fo k fc rows j o c wr))
  case atStart => exact ⟨0, none, 0, rfl, Nat.zero_le _, rfl, HI0⟩
  case round =>
    obtain ⟨j, o, c, rfl, hj, rfl, HI⟩ := hrel
    have hI := HI.out
    obtain ⟨e0, e1, e2, e3, e4⟩ := mac5 hI.row
    have hbr : Below (w.heap.size + 2) W3 wr := ⟨hI.kept.os, hI.kept.tape, hI.kept.output, hI.kept.size, fun x hx => hI.kept.block x (by rw [HZ3.out]; omega) (by omega)⟩
    have hra : wr.heap[w.heap.size]? = some (mchO no q nc fo n fc) := (hbr.block _ (by omega)).trans HRA.out
    obtain ⟨f0, f1, f2, f3, f4⟩ := mac5 hra
    have hbw : Below w.heap.size w wr := HB3.out.trans (hbr.mono (by omega))
    rcases Nat.lt_or_ge j (min q 302) with hlt | hge
    · have hj1 : ((j : Nat) : Int) < ((q : Nat) : Int) := by omega
      have hj2 : ((j : Nat) : Int) < 302 := by omega
      have hj3 : j < q := by omega
      have hjb : j < 1000000 := by omega
      obtain ⟨x, hx⟩ : ∃ x, rows[j]? = some x := ⟨_, List.getElem?_eq_getElem (by rw [HQ.out]; exact hj3)⟩
      obtain ⟨g, off, rfl, hcl⟩ := HRR.out (by rw [HQ.out]; omega)
      have k0 := cell_keepQ hbw (hcl j x hx)
      have hg := World.block_lt_of_cell? _ _ k0
      have hst := tabD_step hI HZ3.out (by omega) hx
      have hsc := HRC.out x (List.mem_of_getElem? hx)
      obtain ⟨so, b, sc⟩ := x
      obtain ⟨bl, hbl⟩ : ∃ n, b.length = n := ⟨_, rfl⟩
      obtain ⟨kl, hkl⟩ : ∃ n, (b.take 34).length = n := ⟨_, rfl⟩
      have hkl2 : min ((bl : Nat) : Int) 34 = ((kl : Nat) : Int) := by rw [List.length_take] at hkl; omega
      have hkb : kl ≤ bl := by rw [List.length_take] at hkl; omega
      simp only [hbl] at k0 hsc
      have hkc2 : kl ≤ sc := by omega
      simp only [cutX, slX, hkl] at hst
      obtain ⟨g9, c9, w9, hr9, s1, s3, s4, hI9⟩ := hst
      have HI9 := Lib.hid hI9
      have hfol : Tryz.prog.follows .mixedOrders = true := by kernel_rfl
      clear hI hI9 hcl hsc hx hbl hkl hbr hra hbw
      go_wp2_with fail
      go_region
      all_goals
        go_simp
        go_wp2_with fail
        go_roundg (min q 302 - (j + 1))
        case measure => omega
        case rel => exact ⟨j + 1, some ⟨g9, 0, none⟩, c9, by simp, by omega, rfl, HI9⟩
    · have hjm : j = min q 302 := by omega
      have hrb : wr.heap[w.heap.size + 1]? = some (mchO none 0 0 none 0 0) := (hbr.block _ (by omega)).trans HRB.out
      obtain ⟨t0, t1, g0, g1, tl⟩ := mac5 hrb
      have r4 := mac_set0 (.slice o j c) hrb
      have r5 := mac_set1 (.slice fo k fc) r4
      have m5 : Moves (fun x => x = w.heap.size + 1) wr ((wr.setCell ⟨w.heap.size + 1, 0, none⟩ (.slice o j c)).setCell ⟨w.heap.size + 1, 1, none⟩ (.slice fo k fc)) := (Moves.setCell (S := fun x => x = w.heap.size + 1) rfl).trans (Moves.setCell (S := fun x => x = w.heap.size + 1) rfl)
      obtain ⟨w5, hw5⟩ : ∃ w5, (wr.setCell ⟨w.heap.size + 1, 0, none⟩ (.slice o j c)).setCell ⟨w.heap.size + 1, 1, none⟩ (.slice fo k fc) = w5 := ⟨_, rfl⟩
      rw [hw5] at r5 m5
      have hb5 : Below w.heap.size w w5 := Moves.below hbw hbw.size m5 (fun x hx => by omega)
      have htk : rows.take j = rows.take 302 := by
        rw [hjm]
        rcases Nat.le_total q 302 with h | h
        · rw [Nat.min_eq_left h, List.take_of_length_le (by rw [HQ.out]; exact Nat.le_refl _), List.take_of_length_le (by rw [HQ.out]; exact h)]
        · rw [Nat.min_eq_right h]
      have hmm := tab_mach (m := ⟨no, rows, nc, fo, fits, fc⟩) hI htk m5 HZ3.out hb5 HMM.out
      have hl1 : ((rows.take 302).map cutX).length = j := by rw [List.length_map, List.length_take, HQ.out]; omega
      have hl2 : (fits.take 302).length = k := by rw [List.length_take, HN.out]; have := HK.out; omega
      have HPP : Hid (P (.returned (.agg #[.slice o j c, .slice fo k fc])) w5) := Lib.hid (by
        have := HPM.out o c w5 hmm (fun k hk => by have := own_rowD' hI.own (inQ_own.1 hk); have := HZ3.out; omega) hb5
        simp only [MachX.v, hl1, hl2] at this
        exact this)
      have HW5 := Lib.hid hw5
      have HR5 := Lib.hid r5
      have hcase : (¬ ((j : Nat) : Int) < ((q : Nat) : Int)) ∨ (((j : Nat) : Int) < ((q : Nat) : Int) ∧ ¬ ((j : Nat) : Int) < 302) := by omega
      clear hmm hI htk hrb r4 r5 m5 hw5 hb5 hl1 hl2 hbr hra hbw hjm hge hj HPM
      rcases hcase with h1 | ⟨h1, h2⟩
      all_goals
        go_wp2_with fail
        rw [HW5.out]
        exact bodyPost_ret (v := .agg #[.slice o j c, .slice fo k fc]) (results_cell_row rfl _ _ (w.heap.size + 1) _ _ _ _ rfl HR5.out Tryz.underlying28 rfl (by kernel_rfl)) rfl HPP.out
end Go.Proofs.YtaoooocalpkhjaaGreatDoor
namespace Go.Proofs.YtaoooocalpkhjaaGreatDoor
open Go.RowKit Go.Shelf Go.Maps
attribute [local go_sem] Oper.semAt_some

theorem machB_of {R : List (List Int)} {F : List Int} {N : Nat} (h1 : 1 ≤ N) (h32 : N ≤ 32) (hq : 1 ≤ R.length) (h300 : R.length ≤ 300) (hf : R.length = F.length)
    (hR : ∀ (i : Nat) (r : List Int), R[i]? = some r → r.length = N + 1 ∧ ∀ (j : Nat) (v : Int), r[j]? = some v → 0 ≤ v ∧ v < ((R.length : Nat) : Int)) (hF : ∀ (i : Nat) (v : Int), F[i]? = some v → 0 ≤ v ∧ v < 1099511627776) : machB R F ((N : Nat) : Int) = true := by
  unfold machB
  simp only [Bool.and_eq_true, List.all_eq_true]
  refine ⟨⟨⟨?_, ?_⟩, fun r hm => ?_⟩, ?_⟩
  · unfold rightZ
    refine decide_eq_true ⟨by omega, by omega, by omega, ?_⟩
    have := two_pos N
    rw [Int.toNat_natCast]
    have e : ((2 : Int) ^ N) = ((2 ^ N : Nat) : Int) := by simp
    rw [e]
    omega
  · exact decide_eq_true ⟨hq, h300, hf⟩
  · obtain ⟨i, hi⟩ := List.getElem?_of_mem hm
    obtain ⟨e1, e2⟩ := hR i r hi
    refine decide_eq_true ⟨by omega, fun v hv => ?_⟩
    obtain ⟨j, hj⟩ := List.getElem?_of_mem hv
    exact e2 j v hj
  · refine decide_eq_true fun v hv => ?_
    obtain ⟨j, hj⟩ := List.getElem?_of_mem hv
    exact hF j v hj
theorem machB_no {R : List (List Int)} {F : List Int} {n : Int} (h : ¬ (1 ≤ n ∧ n ≤ 32 ∧ 1 ≤ R.length ∧ R.length ≤ 300 ∧ R.length = F.length ∧ (∀ r ∈ R, (r.length : Int) = n + 1 ∧ ∀ v ∈ r, 0 ≤ v ∧ v < ((R.length : Nat) : Int)) ∧ ∀ v ∈ F, 0 ≤ v ∧ v < 1099511627776)) : machB R F n = false := by
  cases hb : machB R F n with
  | false => rfl
  | true => exact absurd (machB_parts hb) h
def rowOK (q N : Nat) (r : List Int) (y : Int) : Prop := r.length = N + 1 ∧ (0 ≤ y ∧ y < 1099511627776) ∧ ∀ (j : Nat) (v : Int), r[j]? = some v → 0 ≤ v ∧ v < ((q : Nat) : Int)
set_option maxRecDepth 100000 in
set_option maxHeartbeats 4000000 in
theorem refRight12_any (m : MachX) (n : Int) (hzr : m.rows.length ≤ 1000000) (hzf : m.fits.length ≤ 1000000) (w : World) (hM : MachD w m) :
    Calls Tryz.prog 23 #[m.v, .int .i64 n] w fun e w' => e = .returned (.bool (m.B n)) ∧ Below w.heap.size w w' := by
  obtain ⟨P, hP⟩ : ∃ P, (fun (e : Ending) (w' : World) => e = .returned (.bool (m.B n)) ∧ Below w.heap.size w w') = P := ⟨_, rfl⟩
  obtain ⟨w1, hw1⟩ : ∃ w1, w.alloc (.cells #[.slice m.no m.rows.length m.nc, .slice m.fo m.fits.length m.fc] 28) = w1 := ⟨_, rfl⟩
  have b1 : Below w.heap.size w w1 := by rw [← hw1]; exact (Below.refl _ _).alloc (Nat.le_refl _) _
  have r1 : w1.heap[w.heap.size]? = some (.cells #[.slice m.no m.rows.length m.nc, .slice m.fo m.fits.length m.fc] 28 (0, 0)) := by rw [← hw1]; exact heap_alloc_new _ _
  have HROW := Lib.hid hM.rows
  have HNUM := Lib.hid hM.row
  have HFIT := Lib.hid hM.fits
  have HFA : Hid (∀ b W, Below w1.heap.size w1 W → m.B n = b → P (.returned (.bool b)) W) := Lib.hid fun b W hb e => by rw [← hP, ← e]; exact ⟨rfl, b1.trans (hb.mono b1.size)⟩
  have HB1 := Lib.hid b1
  have HR1 := Lib.hid r1
  rw [hP]
  obtain ⟨no, rows, nc, fo, fits, fc⟩ := m
  simp only at HFA HROW HNUM HFIT HR1 hw1 hzr hzf ⊢
  obtain ⟨RR, hRR⟩ : ∃ RR, rows.map (·.2.1) = RR := ⟨_, rfl⟩
  replace HFA : Hid (∀ b W, Below w1.heap.size w1 W → machB (rows.map (·.2.1)) fits n = b → P (.returned (.bool b)) W) := HFA
  rw [hRR] at HFA
  have HRR := Lib.hid hRR
  obtain ⟨q, hq⟩ : ∃ q, rows.length = q := ⟨_, rfl⟩
  obtain ⟨f, hf⟩ : ∃ q, fits.length = q := ⟨_, rfl⟩
  have HQ := Lib.hid hq
  have HF := Lib.hid hf
  have hRl : RR.length = q := by rw [← hRR, List.length_map, hq]
  have HRL := Lib.hid hRl
  simp only [MachX.v, hq, hf] at HR1 hw1 hzr hzf ⊢
  have HW1 := Lib.hid hw1
  obtain ⟨c0, c1⟩ := mac_cells HR1.out
  have l1 := World.block_lt_of_cell? w1 _ c0
  have hno : ¬ (1 ≤ n ∧ n ≤ 32 ∧ 1 ≤ q ∧ q ≤ 300 ∧ q = f) → P (.returned (.bool false)) w1 := fun h => HFA.out false w1 (Below.refl _ _) (machB_no fun h2 => h ⟨h2.1, h2.2.1, by rw [← hRl]; exact h2.2.2.1, by rw [← hRl]; exact h2.2.2.2.1, by rw [← hRl, ← hf]; exact h2.2.2.2.2.1⟩)
  have HNO := Lib.hid hno
  clear hP hM hRR hq hf hw1 b1 r1 hRl hno
  go_enter Tryz.func23, Tryz.ntmps23
  by_cases h1 : n < 1
  · have HX := Lib.hid (HNO.out (by omega))
    have d1 : decide (n < 1) = true := decide_eq_true h1
    clear HNO HFA
    go_wp2_with fail
    rw [HW1.out]
    exact HX.out
  obtain ⟨N, rfl⟩ : ∃ N : Nat, n = ((N : Nat) : Int) := ⟨n.toNat, by omega⟩
  have d1 : decide (((N : Nat) : Int) < 1) = false := decide_eq_false h1
  by_cases h2 : 32 < N
  · have HX := Lib.hid (HNO.out (by omega))
    have d2 : decide ((32 : Int) < ((N : Nat) : Int)) = true := decide_eq_true (by omega)
    clear HNO HFA
    go_wp2_with fail
    rw [HW1.out]
    exact HX.out
  have d2 : decide ((32 : Int) < ((N : Nat) : Int)) = false := decide_eq_false (by omega)
  by_cases h3 : q < 1
  · have HX := Lib.hid (HNO.out (by omega))
    have d3 : decide (((q : Nat) : Int) < 1) = true := decide_eq_true (by omega)
    clear HNO HFA
    go_wp2_with fail
    rw [HW1.out]
    exact HX.out
  have d3 : decide (((q : Nat) : Int) < 1) = false := decide_eq_false (by omega)
  by_cases h4 : 300 < q
  · have HX := Lib.hid (HNO.out (by omega))
    have d4 : decide ((300 : Int) < ((q : Nat) : Int)) = true := decide_eq_true (by omega)
    clear HNO HFA
    go_wp2_with fail
    rw [HW1.out]
    exact HX.out
  have d4 : decide ((300 : Int) < ((q : Nat) : Int)) = false := decide_eq_false (by omega)
  by_cases h5 : ¬ q = f
  · have HX := Lib.hid (HNO.out (by omega))
    have d5 : (((f : Nat) : Int) == ((q : Nat) : Int)) = false := by rw [beq_eq_false_iff_ne]; omega
    clear HNO HFA
    go_wp2_with fail
    rw [HW1.out]
    exact HX.out
  obtain rfl : q = f := Decidable.not_not.1 h5
  clear HNO h5
  go_wp2_with fail
  rw [HW1.out]
  obtain ⟨N1, hN1⟩ : ∃ N1, N + 1 = N1 := ⟨_, rfl⟩
  have HN1 := Lib.hid hN1
  have e1 : ((N : Nat) : Int) + 1 = ((N1 : Nat) : Int) := by omega
  have e2 : wrap64 (((N : Nat) : Int) + 1) = ((N1 : Nat) : Int) := by unfold wrap64; omega
  have hN33 : N1 ≤ 33 := by omega
  have hq3 : q ≤ 300 := by omega
  have hq1 : 1 ≤ q := by omega
  have hNN : 1 ≤ N ∧ N ≤ 32 := ⟨by omega, by omega⟩
  have HNN := Lib.hid hNN
  clear d1 d2 d3 d4 h1 h2 h3 h4 hN1 hNN c0 c1 l1
  have HR2 : Hid (∀ W, Below w1.heap.size w1 W → W.heap[w.heap.size]? = some (.cells #[.slice no q nc, .slice fo q fc] 28 (0, 0))) := Lib.hid fun W hb => row_below HR1.out hb
  go_loopg [5] q (fun d v wr => ∃ (j : Nat), v = .int .i64 (j : Nat) ∧ j ≤ q ∧ d = q - j ∧ Hid (∀ (i : Nat) (r : List Int) (y : Int), i < j → RR[i]? = some r → fits[i]? = some y → rowOK q N r y) ∧ Hid (Below w1.heap.size w1 wr))
  case atStart => exact ⟨0, rfl, Nat.zero_le _, rfl, Lib.hid fun i r y h => absurd h (Nat.not_lt_zero _), Lib.hid (Below.refl _ _)⟩
  case round =>
    obtain ⟨j, rfl, hj, rfl, HOK, HB⟩ := hrel
    obtain ⟨p0, p1⟩ := mac_cells (HR2.out wr HB.out)
    have lp := World.block_lt_of_cell? _ _ p0
    rcases Nat.lt_or_ge j q with hlt | hge
    · have hj1 : j < 1000000 := by omega
      have hbw := HB1.out.trans (HB.out.mono HB1.out.size)
      obtain ⟨x, hx⟩ : ∃ x, rows[j]? = some x := ⟨_, List.getElem?_eq_getElem (by rw [HQ.out]; exact hlt)⟩
      obtain ⟨y, hy⟩ : ∃ y, fits[j]? = some y := ⟨_, List.getElem?_eq_getElem (by rw [HF.out]; exact hlt)⟩
      have hr : RR[j]? = some x.2.1 := by rw [← HRR.out, List.getElem?_map, hx]; rfl
      obtain ⟨g, off, rfl, hcr⟩ := HROW.out (by rw [HQ.out]; omega)
      have k1 := cell_keepQ hbw (hcr j x hx)
      have lg := World.block_lt_of_cell? _ _ k1
      obtain ⟨gf, of, rfl, hcf⟩ := HFIT.out (by rw [HF.out]; omega)
      have k2 := cell_keepQ hbw (hcf j y hy)
      have lgf := World.block_lt_of_cell? _ _ k2
      have HNX := Lib.hid ((HNUM.out x (List.mem_of_getElem? hx)).below hbw)
      have hbad : ¬ rowOK q N x.2.1 y → machB RR fits ((N : Nat) : Int) = false := fun h => machB_no fun hall => h (by
        obtain ⟨q1, q2⟩ := hall.2.2.2.2.2.1 _ (List.mem_of_getElem? hr)
        exact ⟨by omega, hall.2.2.2.2.2.2 y (List.mem_of_getElem? hy), fun i v hv => by
          have := q2 v (List.mem_of_getElem? hv)
          rwa [HRL.out] at this⟩)
      have HBAD : Hid (∀ W, ¬ rowOK q N x.2.1 y → Below w1.heap.size w1 W → P (.returned (.bool false)) W) := Lib.hid fun W h hb => HFA.out false W hb (hbad h)
      have HOK2 : Hid (rowOK q N x.2.1 y → ∀ (i : Nat) (r : List Int) (z : Int), i < j + 1 → RR[i]? = some r → fits[i]? = some z → rowOK q N r z) := Lib.hid fun h i r z hi hr2 hz2 => by
        rcases Nat.lt_or_ge i j with hl | hl
        · exact HOK.out i r z hl hr2 hz2
        · obtain rfl : i = j := by omega
          rw [hr] at hr2
          rw [hy] at hz2
          cases hr2
          cases hz2
          exact h
      obtain ⟨xo, xl, xc⟩ := x
      simp only at k1 HNX HBAD HOK2
      obtain ⟨xn, hxn⟩ : ∃ xn, xl.length = xn := ⟨_, rfl⟩
      have HXN := Lib.hid hxn
      rw [hxn] at k1
      clear hcr hcf hx hr hy hbw hbad HOK HNUM HROW HFIT hxn
      by_cases hl : ¬ xn = N1
      · have HX := Lib.hid (HBAD.out wr (fun h => hl (by have := h.1; rw [HXN.out] at this; rw [this, HN1.out])) HB.out)
        have f1 : (((xn : Nat) : Int) == ((N1 : Nat) : Int)) = false := by rw [beq_eq_false_iff_ne]; omega
        clear HBAD HOK2
        go_wp2_with fail
        exact HX.out
      obtain rfl : xn = N1 := Decidable.not_not.1 hl
      by_cases hy0 : y < 0
      · have HX := Lib.hid (HBAD.out wr (fun h => by have := h.2.1.1; omega) HB.out)
        have f1 : decide (y < 0) = true := decide_eq_true hy0
        clear HBAD HOK2
        go_wp2_with fail
        exact HX.out
      have f1 : decide (y < 0) = false := decide_eq_false hy0
      by_cases hy1 : 1099511627776 ≤ y
      · have HX := Lib.hid (HBAD.out wr (fun h => by have := h.2.1.2; omega) HB.out)
        have f2 : decide (1099511627776 ≤ y) = true := decide_eq_true hy1
        clear HBAD HOK2
        go_wp2_with fail
        exact HX.out
      have f2 : decide (1099511627776 ≤ y) = false := decide_eq_false hy1
      have HYY : Hid (0 ≤ y ∧ y < 1099511627776) := Lib.hid ⟨by omega, by omega⟩
      go_wp2_with fail
      have K1 := Lib.hid k1
      clear f1 f2 hy0 hy1 hl k1 k2 p0 p1 lp lg lgf
      go_loopg [6] xn (fun d v wr2 => ∃ (c : Nat), v = .int .i64 (c : Nat) ∧ c ≤ xn ∧ d = xn - c ∧ Hid (∀ (i : Nat) (z : Int), i < c → xl[i]? = some z → 0 ≤ z ∧ z < ((q : Nat) : Int)) ∧ Hid (Below wr.heap.size wr wr2))
      case atStart => exact ⟨0, rfl, Nat.zero_le _, rfl, Lib.hid fun i z h => absurd h (Nat.not_lt_zero _), Lib.hid (Below.refl _ _)⟩
      case round =>
        obtain ⟨c, rfl, hc, rfl, HOC, HB3⟩ := hrel
        have hb4 := HB.out.trans (HB3.out.mono HB.out.size)
        have HB4 := Lib.hid hb4
        rcases Nat.lt_or_ge c xn with hlc | hgc
        · obtain ⟨p0, p1⟩ := mac_cells (HR2.out _ hb4)
          have lp := World.block_lt_of_cell? _ _ p0
          have hcn : ((c : Nat) : Int) ≤ ((N : Nat) : Int) := by have := HN1.out; omega
          have dcn : decide (((c : Nat) : Int) ≤ ((N : Nat) : Int)) = true := decide_eq_true hcn
          have hc1 : c < 1000000 := by omega
          obtain ⟨z, hz⟩ : ∃ z, xl[c]? = some z := ⟨_, List.getElem?_eq_getElem (by rw [HXN.out]; exact hlc)⟩
          obtain ⟨g2, off2, rfl, hc2⟩ := HNX.out (by rw [HXN.out]; omega)
          have k3 := cell_keepQ HB3.out (hc2 c z hz)
          have lg3 := World.block_lt_of_cell? _ _ k3
          have k4 := cell_keepQ HB3.out K1.out
          have lg4 := World.block_lt_of_cell? _ _ k4
          have HX : Hid (∀ nq, ¬ (0 ≤ z ∧ z < ((q : Nat) : Int)) → P (.returned (.bool false)) (World.drewN _ nq)) := Lib.hid fun nq h => HBAD.out _ (fun h2 => h (h2.2.2 c z hz)) (hb4.trans ((below_drewD1 _ nq).mono hb4.size))
          have HNX2 : Hid (0 ≤ z ∧ z < ((q : Nat) : Int) → ∀ (i : Nat) (u : Int), i < c + 1 → xl[i]? = some u → 0 ≤ u ∧ u < ((q : Nat) : Int)) := Lib.hid fun h i u hi hu => by
            rcases Nat.lt_or_ge i c with hl | hl
            · exact HOC.out i u hl hu
            · obtain rfl : i = c := by omega
              rw [hz] at hu
              cases hu
              exact h
          have HBD := Lib.hid (fun nq => HB3.out.trans ((below_drewD1 _ nq).mono HB3.out.size))
          clear hc2 hz hb4 HOC HBAD HOK2 HFA HR2
          by_cases hz0 : z < 0
          · have HY := Lib.hid (fun nq => HX.out nq (by omega))
            have g1 : decide (z < 0) = true := decide_eq_true hz0
            clear HX HNX2 HBD
            go_wp2_with fail
            go_quiet (fail)
            go_wp2
            exact HY.out _
          have g1 : decide (z < 0) = false := decide_eq_false hz0
          by_cases hzq : ((q : Nat) : Int) ≤ z
          · have HY := Lib.hid (fun nq => HX.out nq (by omega))
            have g2 : decide (((q : Nat) : Int) ≤ z) = true := decide_eq_true hzq
            clear HX HNX2 HBD
            go_wp2_with fail
            go_quiet (fail)
            go_wp2
            exact HY.out _
          have g2 : decide (((q : Nat) : Int) ≤ z) = false := decide_eq_false hzq
          have HN3 := Lib.hid (HNX2.out ⟨by omega, by omega⟩)
          clear HX HNX2
          go_wp2_with fail
          go_quiet (fail)
          go_wp2
          go_roundg (xn - (c + 1))
          case measure => omega
          case rel => exact ⟨c + 1, by simp, by omega, rfl, HN3, Lib.hid (HBD.out _)⟩
        · obtain rfl : c = xn := by omega
          have dcn : decide (((c : Nat) : Int) ≤ ((N : Nat) : Int)) = false := decide_eq_false (by have := HN1.out; omega)
          have hcn : ¬ ((c : Nat) : Int) ≤ ((N : Nat) : Int) := by have := HN1.out; omega
          have HOK3 := Lib.hid (HOK2.out ⟨by rw [HXN.out, HN1.out], HYY.out, fun i u hu => HOC.out i u (by have := (List.getElem?_eq_some_iff.1 hu).1; rw [HXN.out] at this; exact this) hu⟩)
          clear HBAD HOK2 HOC HFA HR2
          go_wp2_with fail
          go_roundg (q - (j + 1))
          case measure => omega
          case rel => exact ⟨j + 1, by simp, by omega, rfl, HOK3, HB4⟩
    · obtain rfl : j = q := by omega
      have HX := Lib.hid (HFA.out true wr HB.out (machB_of HNN.out.1 HNN.out.2 (by rw [HRL.out]; exact hq1) (by rw [HRL.out]; exact hq3) (by rw [HRL.out, HF.out]) (fun i r hr => by
        have hi := (List.getElem?_eq_some_iff.1 hr).1
        rw [HRL.out] at hi ⊢
        obtain ⟨y, hy⟩ : ∃ y, fits[i]? = some y := ⟨_, List.getElem?_eq_getElem (by rw [HF.out]; exact hi)⟩
        have h := HOK.out i r y hi hr hy
        exact ⟨h.1, h.2.2⟩) (fun i y hy => by
        have hi := (List.getElem?_eq_some_iff.1 hy).1
        rw [HF.out] at hi
        obtain ⟨r, hr⟩ : ∃ r, RR[i]? = some r := ⟨_, List.getElem?_eq_getElem (by rw [HRL.out]; exact hi)⟩
        exact (HOK.out i r y hi hr hy).2.1)))
      clear HFA HOK HNUM HROW HFIT
      go_wp2_with fail
      exact HX.out
end Go.Proofs.YtaoooocalpkhjaaGreatDoor
namespace Go.Proofs.YtaoooocalpkhjaaGreatDoor
open Go.RowKit Go.Shelf

def wayN (R : List (List Int)) (s c : Nat) : Nat := (((R[s]?.getD [])[c]?).getD 0).toNat
def metN (R : List (List Int)) (n : Nat) : Nat → List Nat
  | 0 => [0]
  | q + 1 => match (metN R n q)[q / (n + 1)]? with
    | none => metN R n q
    | some s => if wayN R s (q % (n + 1)) ∈ metN R n q then metN R n q else metN R n q ++ [wayN R s (q % (n + 1))]
abbrev liveN (R : List (List Int)) (n q : Nat) : Prop := q / (n + 1) < (metN R n q).length
theorem met_next {R : List (List Int)} {n q s : Nat} (h : (metN R n q)[q / (n + 1)]? = some s) : metN R n (q + 1) = if wayN R s (q % (n + 1)) ∈ metN R n q then metN R n q else metN R n q ++ [wayN R s (q % (n + 1))] := by
  rw [metN, h]
theorem met_halt {R : List (List Int)} {n q : Nat} (h : ¬ liveN R n q) : metN R n (q + 1) = metN R n q := by
  rw [metN, List.getElem?_eq_none (by unfold liveN at h; omega)]
theorem met_prefix1 (R : List (List Int)) (n q : Nat) : metN R n q <+: metN R n (q + 1) := by
  by_cases h : liveN R n q
  · obtain ⟨S, hS⟩ : ∃ S, (metN R n q)[q / (n + 1)]? = some S := ⟨_, List.getElem?_eq_getElem h⟩
    rw [met_next hS]
    split
    · exact List.prefix_refl _
    · exact List.prefix_append _ _
  · rw [met_halt h]
    exact List.prefix_refl _
theorem met_prefix (R : List (List Int)) (n : Nat) {p q : Nat} (h : p ≤ q) : metN R n p <+: metN R n q := by
  induction q with
  | zero => obtain rfl : p = 0 := by omega
            exact List.prefix_refl _
  | succ q ih =>
    rcases Nat.lt_or_ge p (q + 1) with g | g
    · exact (ih (by omega)).trans (met_prefix1 R n q)
    · obtain rfl : p = q + 1 := by omega
      exact List.prefix_refl _
theorem met_len (R : List (List Int)) (n : Nat) {p q : Nat} (h : p ≤ q) : (metN R n p).length ≤ (metN R n q).length := (met_prefix R n h).length_le
theorem met_pos (R : List (List Int)) (n q : Nat) : 1 ≤ (metN R n q).length := met_len R n (Nat.zero_le q)
theorem met_stop {R : List (List Int)} {n p : Nat} (h : ¬ liveN R n p) : ∀ {q : Nat}, p ≤ q → metN R n q = metN R n p := by
  intro q
  induction q with
  | zero => intro hq; obtain rfl : p = 0 := by omega
            rfl
  | succ q ih =>
    intro hq
    rcases Nat.lt_or_ge p (q + 1) with g | g
    · have e := ih (by omega)
      rw [met_halt ?_, e]
      unfold liveN at h ⊢
      rw [e]
      have : p / (n + 1) ≤ q / (n + 1) := Nat.div_le_div_right (by omega)
      omega
    · obtain rfl : p = q + 1 := by omega
      rfl
theorem met_nodup (R : List (List Int)) (n : Nat) : ∀ q, (metN R n q).Nodup
  | 0 => by simp [metN]
  | q + 1 => by
    have ih := met_nodup R n q
    by_cases h : liveN R n q
    · obtain ⟨S, hS⟩ : ∃ S, (metN R n q)[q / (n + 1)]? = some S := ⟨_, List.getElem?_eq_getElem h⟩
      rw [met_next hS]
      split
      · exact ih
      · rename_i hn
        rw [List.nodup_append]
        refine ⟨ih, by simp, fun a ha b hb => ?_⟩
        rw [List.mem_singleton.1 hb]
        exact fun e => hn (e ▸ ha)
    · rw [met_halt h]
      exact ih
theorem way_ltN {R : List (List Int)} {F : List Int} {n : Nat} (h : machB R F ((n : Nat) : Int) = true) {s c : Nat} (hs : s < R.length) (hc : c ≤ n) : ∃ r v, R[s]? = some r ∧ r.length = n + 1 ∧ r[c]? = some ((v : Nat) : Int) ∧ wayN R s c = v ∧ v < R.length := by
  obtain ⟨h1, h2, h3, h4, h5, h6, h7⟩ := machB_parts h
  obtain ⟨r, hr⟩ : ∃ r, R[s]? = some r := ⟨_, List.getElem?_eq_getElem hs⟩
  obtain ⟨e1, e2⟩ := h6 r (List.mem_of_getElem? hr)
  obtain ⟨v, hv⟩ : ∃ v, r[c]? = some v := ⟨_, List.getElem?_eq_getElem (by omega)⟩
  obtain ⟨q1, q2⟩ := e2 v (List.mem_of_getElem? hv)
  refine ⟨r, v.toNat, hr, by omega, by rw [hv]; congr 1; omega, ?_, by omega⟩
  unfold wayN
  rw [hr, Option.getD_some, hv]
  rfl
theorem met_lt {R : List (List Int)} {F : List Int} {n : Nat} (h : machB R F ((n : Nat) : Int) = true) : ∀ q, ∀ s ∈ metN R n q, s < R.length
  | 0 => fun s hs => by
    rw [metN, List.mem_singleton] at hs
    obtain ⟨_, _, h3, _⟩ := machB_parts h
    omega
  | q + 1 => fun s hs => by
    have ih := met_lt h q
    by_cases hv : liveN R n q
    · obtain ⟨S, hS⟩ : ∃ S, (metN R n q)[q / (n + 1)]? = some S := ⟨_, List.getElem?_eq_getElem hv⟩
      rw [met_next hS] at hs
      split at hs
      · exact ih s hs
      · rcases List.mem_append.1 hs with hs | hs
        · exact ih s hs
        · rw [List.mem_singleton.1 hs]
          obtain ⟨r, v, e1, e2, e3, e4, e5⟩ := way_ltN h (ih S (List.mem_of_getElem? hS)) (c := q % (n + 1)) (by have := Nat.mod_lt q (show n + 1 > 0 by omega); omega)
          rw [e4]
          exact e5
    · rw [met_halt hv] at hs
      exact ih s hs
theorem nodup_le {l : List Nat} {k : Nat} (hn : l.Nodup) (hk : ∀ s ∈ l, s < k) : l.length ≤ k := by
  have := List.Nodup.length_le_of_subset (l₂ := List.range k) hn fun s hs => List.mem_range.2 (hk s hs)
  rwa [List.length_range] at this
theorem met_le {R : List (List Int)} {F : List Int} {n : Nat} (h : machB R F ((n : Nat) : Int) = true) (q : Nat) : (metN R n q).length ≤ R.length := nodup_le (met_nodup R n q) (met_lt h q)
def finN (R : List (List Int)) (n : Nat) : List Nat := metN R n (300 * (n + 1))
theorem finN_end {R : List (List Int)} {F : List Int} {n : Nat} (h : machB R F ((n : Nat) : Int) = true) : (∀ p, p < (finN R n).length * (n + 1) → liveN R n p) ∧ ¬ liveN R n ((finN R n).length * (n + 1)) ∧ metN R n ((finN R n).length * (n + 1)) = finN R n := by
  obtain ⟨_, _, _, h4, _⟩ := machB_parts h
  have h5 : (finN R n).length ≤ R.length := met_le h _
  obtain ⟨k, hk⟩ : ∃ k, (finN R n).length = k := ⟨_, rfl⟩
  rw [hk] at h5 ⊢
  have hQ : k * (n + 1) ≤ 300 * (n + 1) := Nat.mul_le_mul_right _ (by omega)
  have hdiv : k * (n + 1) / (n + 1) = k := Nat.mul_div_cancel _ (by omega)
  have hnl : ¬ liveN R n (k * (n + 1)) := by
    unfold liveN
    rw [hdiv]
    have h1 := met_len R n hQ
    have h2 : (metN R n (300 * (n + 1))).length = k := hk
    omega
  have hrun : metN R n (k * (n + 1)) = finN R n := (met_stop hnl hQ).symm
  refine ⟨fun p hp => Decidable.byContradiction fun hn => ?_, hnl, hrun⟩
  have e := met_stop hn (Nat.le_of_lt hp)
  rw [hrun] at e
  unfold liveN at hn
  rw [← e, hk] at hn
  have := Nat.div_lt_iff_lt_mul (k := n + 1) (x := p) (y := k) (by omega)
  exact hn (this.2 hp)
def reachL (R : List (List Int)) (n : Nat) : List Nat := (List.range R.length).filter fun s => decide (s ∈ finN R n)
theorem sorted_same : ∀ {l r : List Int}, l.Pairwise (· ≤ ·) → r.Pairwise (· ≤ ·) → l.Perm r → l = r := fun hl hr hp => List.Perm.eq_of_pairwise (fun a b _ _ h1 h2 => by omega) hl hr hp
theorem reach_perm {R : List (List Int)} {F : List Int} {n : Nat} (h : machB R F ((n : Nat) : Int) = true) : (finN R n).Perm (reachL R n) := by
  refine (List.perm_ext_iff_of_nodup (met_nodup R n _) (List.nodup_range.filter _)).2 fun s => ?_
  show s ∈ finN R n ↔ s ∈ (List.range R.length).filter fun s => decide (s ∈ finN R n)
  rw [List.mem_filter, List.mem_range, decide_eq_true_iff]
  exact ⟨fun hs => ⟨met_lt h _ s hs, hs⟩, fun hs => hs.2⟩
theorem reach_sorted (R : List (List Int)) (n : Nat) : ((reachL R n).map fun s => ((s : Nat) : Int)).Pairwise (· ≤ ·) := by
  rw [List.pairwise_map]
  have h := (List.pairwise_lt_range (n := R.length)).filter fun s => decide (s ∈ finN R n)
  exact h.imp fun h => by omega
end Go.Proofs.YtaoooocalpkhjaaGreatDoor
namespace Go.Proofs.YtaoooocalpkhjaaGreatDoor
open Go.RowKit Go.Shelf Go.Maps
attribute [local go_sem] Oper.semAt_some

def lkN (m k : Value) : Sem Value := Instr.lookup 117 m k true
theorem lk_hideN (m k : Value) : Instr.lookup 117 m k true = lkN m k := rfl
def muN (m k v : Value) : Sem Unit := Instr.mapUpdate 117 m k v
theorem mu_hideN (m k v : Value) : Instr.mapUpdate 117 m k v = muN m k v := rfl
attribute [local go_sem ↓] app_hide lk_hideN mu_hideN
theorem keyIntD : Keyed Tryz.prog 3 := int_keyed Tryz.underlying3
abbrev kN (c : Nat) : Lit := .int .i64 ((c : Nat) : Int)
theorem key_natD {c : Nat} (h : c ≤ 1000000) : keyOf Tryz.prog 3 (.int .i64 ((c : Nat) : Int)) = some (kN c) := by
  refine keyOf_int_mk Tryz.underlying3 ?_
  simp only [Lit.wf, Bool.and_eq_true, decide_eq_true_eq]
  have e1 : IntKind.i64.min = -(2 ^ 63) := by decide
  have e2 : IntKind.i64.max = 2 ^ 63 - 1 := by decide
  rw [e1, e2]
  omega
theorem kN_inj {a b : Nat} (h : kN a = kN b) : a = b := by
  have h2 : ((a : Nat) : Int) = ((b : Nat) : Int) := by injection h
  omega
def PlacesN (W : World) (M : Nat) (bs : List Nat) : Prop := ∃ (D : DataW Unit) (n : Nat), W.ownsMap Tryz.prog 3 (plainElem Tryz.prog 3) M n D ∧ n ≤ bs.length ∧ ∀ c : Nat, has D (kN c) = decide (c ∈ bs)
theorem PlacesN.row {W W' : World} {M : Nat} {bs : List Nat} (h : PlacesN W M bs) (hb : W'.heap[M]? = W.heap[M]?) : PlacesN W' M bs := by
  obtain ⟨D, n, ⟨es, clock, h1, h2⟩, hT⟩ := h
  exact ⟨D, n, ⟨es, clock, hb.trans h1, h2⟩, hT⟩
theorem PlacesN.lt {W : World} {M : Nat} {bs : List Nat} (h : PlacesN W M bs) : M < W.heap.size := by
  obtain ⟨D, n, ⟨es, clock, h1, _⟩, _⟩ := h
  exact (Array.getElem?_eq_some_iff.1 h1).1
theorem PlacesN.below {W W' : World} {M : Nat} {bs : List Nat} (h : PlacesN W M bs) (hb : Below W.heap.size W W') : PlacesN W' M bs := h.row (hb.block _ h.lt)
theorem PlacesN.made {w : World} {M : Nat} (h : w.ownsMap Tryz.prog 3 (plainElem (H := Unit) Tryz.prog 3) M 0 (.map [])) : PlacesN w M [] :=
  ⟨.map [], 0, h, Nat.le_refl _, fun _ => rfl⟩
theorem PlacesN.more {W' : World} {M n : Nat} {bs : List Nat} {b : Nat} {d : DataW Unit} {D : DataW Unit} (hT : Tidy D) (h2 : n ≤ bs.length) (h3 : ∀ c : Nat, has D (kN c) = decide (c ∈ bs))
    (ho : W'.ownsMap Tryz.prog 3 (plainElem Tryz.prog 3) M (n + 1) (D.put (kN b) d)) : PlacesN W' M (bs ++ [b]) := by
  refine ⟨_, n + 1, ho, by simp; omega, fun c => ?_⟩
  by_cases e : c = b
  · subst e
    rw [has_put_same hT.isMap (by trivial)]
    exact (decide_eq_true (by simp)).symm
  · rw [has_put_other (fun h => e (kN_inj h)), h3]
    exact decide_eq_decide.2 (by simp [e])
structure MetN (w : World) (base G M : Nat) (ao : Option Addr) (ac : Nat) (A : List Nat) : Prop where
  ne : G ≠ M ∧ base ≤ w.heap.size
  row : w.heap[G]? = some (.cells #[.map (some M), .slice ao A.length ac] 119 (0, 0))
  pl : PlacesN w M A
  all : w.ownsRow base 3 1 (.slice ao A.length ac) A.length (A.map fun s => .int .i64 ((s : Nat) : Int))
  sep : ∀ k, (Value.slice ao A.length ac).ownBlock = some k → k ≠ G ∧ k ≠ M
theorem MetN.keep {w w' : World} {S : Nat → Prop} {base G M ac : Nat} {ao : Option Addr} {A : List Nat} (h : MetN w base G M ao ac A) (hm : Moves S w w') (hG : ¬ S G) (hM : ¬ S M) (ha : ∀ k, (Value.slice ao A.length ac).ownBlock = some k → ¬ S k) : MetN w' base G M ao ac A :=
  ⟨⟨h.ne.1, Nat.le_trans h.ne.2 hm.size⟩, row_keep h.row hm hG, h.pl.row (hm.block _ h.pl.lt hM), own_movesH h.all hm ha, h.sep⟩
theorem two_cells {w : World} {k : Nat} {t : TypeId} {a b : Value} (h : w.heap[k]? = some (.cells #[a, b] t (0, 0))) : w.cell? ⟨k, 0, none⟩ = some a ∧ w.cell? ⟨k, 1, none⟩ = some b := by
  refine ⟨?_, ?_⟩
  · rw [cell_of_row _ _ 0 _ _ _ h]; rfl
  · rw [cell_of_row _ _ 1 _ _ _ h]; rfl
end Go.Proofs.YtaoooocalpkhjaaGreatDoor
