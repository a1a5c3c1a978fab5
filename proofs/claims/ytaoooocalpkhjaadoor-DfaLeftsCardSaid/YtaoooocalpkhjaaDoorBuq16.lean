/- Shaken by bunq.py. -/
import Derived.Test.YtaoooocalpkhjaaDoorBuq15
import Derived.Test.YtaoooocalpkhjaaDoorBuq13
import Derived.Test.YtaoooocalpkhjaaDoorBuq14
import Derived.Test.YtaoooocalpkhjaaDoorBuq9
import Derived.Test.YtaoooocalpkhjaaDoorBuq8
import Derived.BigQuiet
namespace Go.Proofs.YtaoooocalpkhjaaDoor
open Go.RowKit Go.Shelf Go.Maps
attribute [local go_sem] Oper.semAt_some

set_option maxRecDepth 100000 in
set_option maxHeartbeats 4000000 in
theorem GoD_right (m : MachX) (n : Int) (lo : Option Addr) (L : List Int) (lcap : Nat) (hB : m.B n = true) (hll : L.length ≤ 1000) (w : World) (aR aM : Addr) (hG : GlobD w aR aM) (hM : MachD w m) (hL : NumsAt w lo L) :
    Calls Tryd.prog 12 #[m.v, .int .i64 n, .slice lo L.length lcap] w fun e w' => ∃ o' cap', e = .returned (.tuple #[.slice o' (L.length + 1) cap', .int .i64 0]) ∧ w'.ownsRow (w.heap.size + 1) 3 1 (.slice o' (L.length + 1) cap') (L.length + 1) ((allD (m.rows.map (·.2.1)) n L).map (fun s : Nat => Value.int .i64 ((s : Nat) : Int))) ∧ Below w.heap.size w w' := by
  obtain ⟨w1, hw1⟩ : ∃ w1, w.alloc (.cells #[.slice m.no m.rows.length m.nc, .slice m.fo m.fits.length m.fc] 25) = w1 := ⟨_, rfl⟩
  have b1 : Below w.heap.size w w1 := by rw [← hw1]; exact (Below.refl _ _).alloc (Nat.le_refl _) _
  have r1 : w1.heap[w.heap.size]? = some (.cells #[.slice m.no m.rows.length m.nc, .slice m.fo m.fits.length m.fc] 25 (0, 0)) := by rw [← hw1]; exact heap_alloc_new _ _
  have z1 : w1.heap.size = w.heap.size + 1 := by rw [← hw1]; simp
  have c0 : w1.cell? ⟨w.heap.size, 0, none⟩ = some (.slice m.no m.rows.length m.nc) := by rw [cell_of_row _ _ 0 _ _ _ r1]; rfl
  have c1 : w1.cell? ⟨w.heap.size, 1, none⟩ = some (.slice m.fo m.fits.length m.fc) := by rw [cell_of_row _ _ 1 _ _ _ r1]; rfl
  have HR0 := tellI_right m n lo L lcap hB hll w1 aR aM (hG.below b1) (hM.below b1) (hL.below b1)
  unfold TellIQ at HR0
  have HNUM := Lib.hid (fun W (hb : Below w.heap.size w W) => number_nilD (hG.below hb))
  obtain ⟨vs, hvs⟩ : ∃ vs, (allD (m.rows.map (·.2.1)) n L).map (fun s : Nat => Value.int .i64 ((s : Nat) : Int)) = vs := ⟨_, rfl⟩
  rw [hvs] at HR0 ⊢
  obtain ⟨no, rows, nc, fo, fits, fc⟩ := m
  simp only at c0 c1 hw1
  replace HR0 : Calls Tryd.prog 29 #[.agg #[.slice no rows.length nc, .slice fo fits.length fc], .int .i64 n, (.func (.func 30) #[] #[]), .slice lo L.length lcap] w1 fun e w' => ∃ o' cap', e = .returned (.tuple #[.slice o' (L.length + 1) cap', .nilIface]) ∧ w'.ownsRow (w1.heap.size + 1) 3 1 (.slice o' (L.length + 1) cap') (L.length + 1) vs ∧ Below w1.heap.size w1 w' := HR0
  show Calls _ _ #[.agg #[.slice no rows.length nc, .slice fo fits.length fc], .int .i64 n, .slice lo L.length lcap] _ _
  obtain ⟨q, hq⟩ : ∃ q, rows.length = q := ⟨_, rfl⟩
  obtain ⟨f, hf⟩ : ∃ f, fits.length = f := ⟨_, rfl⟩
  obtain ⟨ll, hln⟩ : ∃ ll, L.length = ll := ⟨_, rfl⟩
  rw [hq] at HR0 c0 hw1 ⊢
  rw [hf] at HR0 c1 hw1 ⊢
  rw [hln] at HR0 ⊢
  have HR := Lib.hid HR0
  have HW1 := Lib.hid hw1
  have HB1 := Lib.hid b1
  have HZ1 := Lib.hid z1
  clear hw1 b1 r1 hB hG hM hL hll HR0 hq hf hln hvs z1
  go_enter Tryd.func12, Tryd.ntmps12
  go_wp2_with fail
  rw [HW1.out]
  refine HR.out.mono ?_
  rintro e W3 ⟨o2, cap2, rfl, hown, b3⟩
  have HB3 := Lib.hid (HB1.out.trans (b3.mono HB1.out.size))
  have HC := Lib.hid (HNUM.out W3 HB3.out)
  have HOW := Lib.hid hown
  clear b3 hown
  go_wp2_with fail
  refine HC.out.mono ?_
  rintro e _ ⟨rfl, rfl⟩
  go_wp2_with fail
  exact bodyPost_ret (results_tmp2 (t := 6) (u := 7) rfl _ _ _) rfl ⟨o2, cap2, rfl, own_base HOW.out (by have := HZ1.out; omega), HB3.out⟩
set_option maxRecDepth 100000 in
set_option maxHeartbeats 4000000 in
theorem FitsD_right (m : MachX) (n : Int) (lo : Option Addr) (L : List Int) (lcap : Nat) (hB : m.B n = true) (hll : L.length ≤ 1000) (w : World) (aR aM : Addr) (hG : GlobD w aR aM) (hM : MachD w m) (hL : NumsAt w lo L) :
    Calls Tryd.prog 26 #[m.v, .int .i64 n, .slice lo L.length lcap] w fun e w' => ∃ o' cap', e = .returned (.tuple #[.slice o' (L.length + 1) cap', .int .i64 0]) ∧ w'.ownsRow (w.heap.size + 1) 2 1 (.slice o' (L.length + 1) cap') (L.length + 1) ((allD (m.rows.map (·.2.1)) n L).map (fun s : Nat => Value.int .i64 (m.fits[s]?.getD 0))) ∧ Below w.heap.size w w' := by
  obtain ⟨w1, hw1⟩ : ∃ w1, w.alloc (.cells #[.slice m.no m.rows.length m.nc, .slice m.fo m.fits.length m.fc] 25) = w1 := ⟨_, rfl⟩
  have b1 : Below w.heap.size w w1 := by rw [← hw1]; exact (Below.refl _ _).alloc (Nat.le_refl _) _
  have r1 : w1.heap[w.heap.size]? = some (.cells #[.slice m.no m.rows.length m.nc, .slice m.fo m.fits.length m.fc] 25 (0, 0)) := by rw [← hw1]; exact heap_alloc_new _ _
  have z1 : w1.heap.size = w.heap.size + 1 := by rw [← hw1]; simp
  have c0 : w1.cell? ⟨w.heap.size, 0, none⟩ = some (.slice m.no m.rows.length m.nc) := by rw [cell_of_row _ _ 0 _ _ _ r1]; rfl
  have c1 : w1.cell? ⟨w.heap.size, 1, none⟩ = some (.slice m.fo m.fits.length m.fc) := by rw [cell_of_row _ _ 1 _ _ _ r1]; rfl
  have HR0 := tellL_right m n lo L lcap hB hll w1 aR aM (hG.below b1) (hM.below b1) (hL.below b1)
  unfold TellLQ at HR0
  have HNUM := Lib.hid (fun W (hb : Below w.heap.size w W) => number_nilD (hG.below hb))
  obtain ⟨vs, hvs⟩ : ∃ vs, (allD (m.rows.map (·.2.1)) n L).map (fun s : Nat => Value.int .i64 (m.fits[s]?.getD 0)) = vs := ⟨_, rfl⟩
  rw [hvs] at HR0 ⊢
  obtain ⟨no, rows, nc, fo, fits, fc⟩ := m
  simp only at c0 c1 hw1
  replace HR0 : Calls Tryd.prog 43 #[.agg #[.slice no rows.length nc, .slice fo fits.length fc], .int .i64 n, (.func (.func 44) #[] #[]), .slice lo L.length lcap] w1 fun e w' => ∃ o' cap', e = .returned (.tuple #[.slice o' (L.length + 1) cap', .nilIface]) ∧ w'.ownsRow (w1.heap.size + 1) 2 1 (.slice o' (L.length + 1) cap') (L.length + 1) vs ∧ Below w1.heap.size w1 w' := HR0
  show Calls _ _ #[.agg #[.slice no rows.length nc, .slice fo fits.length fc], .int .i64 n, .slice lo L.length lcap] _ _
  obtain ⟨q, hq⟩ : ∃ q, rows.length = q := ⟨_, rfl⟩
  obtain ⟨f, hf⟩ : ∃ f, fits.length = f := ⟨_, rfl⟩
  obtain ⟨ll, hln⟩ : ∃ ll, L.length = ll := ⟨_, rfl⟩
  rw [hq] at HR0 c0 hw1 ⊢
  rw [hf] at HR0 c1 hw1 ⊢
  rw [hln] at HR0 ⊢
  have HR := Lib.hid HR0
  have HW1 := Lib.hid hw1
  have HB1 := Lib.hid b1
  have HZ1 := Lib.hid z1
  clear hw1 b1 r1 hB hG hM hL hll HR0 hq hf hln hvs z1
  go_enter Tryd.func26, Tryd.ntmps26
  go_wp2_with fail
  rw [HW1.out]
  refine HR.out.mono ?_
  rintro e W3 ⟨o2, cap2, rfl, hown, b3⟩
  have HB3 := Lib.hid (HB1.out.trans (b3.mono HB1.out.size))
  have HC := Lib.hid (HNUM.out W3 HB3.out)
  have HOW := Lib.hid hown
  clear b3 hown
  go_wp2_with fail
  refine HC.out.mono ?_
  rintro e _ ⟨rfl, rfl⟩
  go_wp2_with fail
  exact bodyPost_ret (results_tmp2 (t := 6) (u := 7) rfl _ _ _) rfl ⟨o2, cap2, rfl, own_base HOW.out (by have := HZ1.out; omega), HB3.out⟩
end Go.Proofs.YtaoooocalpkhjaaDoor
namespace Go.Proofs.YtaoooocalpkhjaaDoor
open Go.RowKit Go.Shelf Go.Maps
attribute [local go_sem] Oper.semAt_some

abbrev exD : List PatP := [(false, [((1 : Int), (0 : Int))])]
theorem ex_runD : runD exD 2 6 = ([[1], [5]], [1, 0, 0, 1, 0, 0]) := by decide +kernel
theorem ex_finD : finD exD 2 = ([[1], [5]], [1, 0, 0, 1, 0, 0]) := by
  have h : ¬ liveD exD 2 6 := by
    unfold liveD
    rw [ex_runD]
    decide
  have := run_stop h (q := 300 * (2 + 1)) (by omega)
  rw [ex_runD] at this
  exact this
theorem ex_RD : finR exD 2 = [[1, 0, 0], [1, 0, 0]] := by
  unfold finR
  rw [ex_finD]
  decide
theorem ex_FD : finF exD 2 = [0, 1] := by
  unfold finF
  rw [ex_finD]
  decide
theorem ex_goD : allD [[1, 0, 0], [1, 0, 0]] 2 [0, 1, 0, 7] = [0, 1, 0, 1, 0] := by decide
theorem ex_go2D : allD [[1, 0, 0], [1, 0, 0]] 2 [0, 1] = [0, 1, 0] := by decide
theorem ex_BD : machB [[1, 0, 0], [1, 0, 0]] [0, 1] 2 = true := by decide
theorem ex_r2D (p q : Nat) : rightsU ([oneX p q 1 2].map plX) 2 = true := by
  show rightsU [((false, [((1 : Int), (0 : Int))]), (false, [((2 : Int), (0 : Int))]), false)] 2 = true
  decide
theorem ex_r1D (p q : Nat) : rightsU ([oneX p q 1 2].map plX) 1 = false := by
  show rightsU [((false, [((1 : Int), (0 : Int))]), (false, [((2 : Int), (0 : Int))]), false)] 1 = false
  decide
theorem row_intsD {W : World} {g : Nat} {t : TypeId} {l : List Int} (h : W.heap[g]? = some (.cells (l.map (Value.int .i64)).toArray t (0, 0))) : NumsAt W (some ⟨g, 0, none⟩) l := fun _ => ⟨g, 0, rfl, fun j x hx => by
  rw [Nat.zero_add, cell_of_row _ _ _ _ _ _ h, List.getElem?_toArray, List.getElem?_map, hx]
  rfl⟩
theorem row_rulD {W : World} {g : Nat} {x : RulX} (h : W.heap[g]? = some (rulO x)) : AtC W (some ⟨g, 0, none⟩) [x] := fun _ => ⟨g, 0, rfl, fun j y hy => by
  match j, hy with
  | 0, hy =>
    cases hy
    obtain ⟨c0, c1, c2, c3, c4⟩ := rul_cells h
    exact ⟨c0, c1, c2, c3, c4⟩
  | j + 1, hy => simp at hy⟩
theorem fewC_one {p q : Nat} {a b : Int} : FewC [oneX p q a b] := fun x hx => by
  rw [List.mem_singleton.1 hx]
  exact ⟨by show 1 ≤ 1000; omega, by show 1 ≤ 1000; omega⟩
set_option maxRecDepth 100000 in
set_option maxHeartbeats 8000000 in
theorem shown12_any (w : World) (aR aM aP aS : Addr) (hG : GlobD w aR aM) (hQ : GlobH w aP aS) : Calls Tryd.prog 9 #[] w fun e w' => e = .returned (.bool true) ∧ Below w.heap.size w w' := by
  have HS1 := Lib.hid (single_any 1 2 w)
  obtain ⟨x, hx⟩ : ∃ x, oneX (w.heap.size + 1) (w.heap.size + 1 + 1) 1 2 = x := ⟨_, rfl⟩
  have hp1 : [x].map leftX = exD := by rw [← hx]; rfl
  have hr2 : rightsU ([x].map plX) (((2 : Nat)) : Int) = true := by rw [← hx]; exact ex_r2D _ _
  have hr1 : rightsU ([x].map plX) 1 = false := by rw [← hx]; exact ex_r1D _ _
  have hfc : FewC [x] := by rw [← hx]; exact fewC_one
  have h300 : (finD ([x].map leftX) 2).1.length ≤ 300 := by rw [hp1, ex_finD]; decide
  have HCO := Lib.hid (fun (o : Option Addr) (W : World) (hb : Below w.heap.size w W) (hA : AtC W o [x]) (hI : ItsC W [x]) => Compile_ok o [x] 1 2 hfc W aR aM aP aS (hG.below hb) (hQ.below hb) hA hI hr2 h300)
  have HCB := Lib.hid (fun (o : Option Addr) (W : World) (hb : Below w.heap.size w W) (hA : AtC W o [x]) (hI : ItsC W [x]) => Compile_bad o [x] 1 1 (by simp) hfc W aR aM (hG.below hb) hA hI hr1)
  rw [hp1] at HCO
  rw [hx] at HS1
  have hxr : rulV x = .agg #[.bool false, .slice (some ⟨w.heap.size + 1, 0, none⟩) 1 1, .bool false, .slice (some ⟨w.heap.size + 1 + 1, 0, none⟩) 1 1, .bool false] := by rw [← hx]; rfl
  have hxo : (rulO x : Obj) = .cells #[.bool false, .slice (some ⟨w.heap.size + 1, 0, none⟩) 1 1, .bool false, .slice (some ⟨w.heap.size + 1 + 1, 0, none⟩) 1 1, .bool false] 42 (0, 0) := by rw [← hx]; rfl
  rw [hxr] at HS1
  have HXO := Lib.hid hxo
  have HGD := Lib.hid hG
  clear hx hp1 hr2 hr1 hfc h300 hxr hxo hG hQ
  go_enter Tryd.func9, Tryd.ntmps9
  go_wp2_with fail
  refine HS1.out.mono ?_
  rintro e W1 ⟨rfl, its1, b1⟩
  obtain ⟨W2, hW2⟩ : ∃ W2, W1.alloc (.cells #[.bool false, .slice (some ⟨w.heap.size + 1, 0, none⟩) 1 1, .bool false, .slice (some ⟨w.heap.size + 1 + 1, 0, none⟩) 1 1, .bool false] 42 (0, 0)) = W2 := ⟨_, rfl⟩
  have b2 : Below W1.heap.size W1 W2 := by rw [← hW2]; exact (Below.refl _ _).alloc (Nat.le_refl _) _
  have r2 : W2.heap[W1.heap.size]? = some (rulO x) := by rw [← hW2, ← HXO.out]; exact heap_alloc_new _ _
  obtain ⟨W3, hW3⟩ : ∃ W3, W2.alloc (.cells #[.bool false, .slice (some ⟨w.heap.size + 1, 0, none⟩) 1 1, .bool false, .slice (some ⟨w.heap.size + 1 + 1, 0, none⟩) 1 1, .bool false] 42 (0, 0)) = W3 := ⟨_, rfl⟩
  have b3 : Below W2.heap.size W2 W3 := by rw [← hW3]; exact (Below.refl _ _).alloc (Nat.le_refl _) _
  have r3 : W3.heap[W2.heap.size]? = some (rulO x) := by rw [← hW3, ← HXO.out]; exact heap_alloc_new _ _
  have B3 := b1.trans ((b2.trans (b3.mono b2.size)).mono b1.size)
  have z2 : W2.heap.size = W1.heap.size + 1 := by rw [← hW2]; simp
  have HC3 := Lib.hid (HCO.out (some ⟨W2.heap.size, 0, none⟩) W3 B3 (row_rulD r3) ((its1.below b2).below b3))
  unfold CompQ at HC3
  rw [z2] at HC3
  have r23 := row_below r2 b3
  have HW3 : Hid ((W1.alloc (.cells #[.bool false, .slice (some ⟨w.heap.size + 1, 0, none⟩) 1 1, .bool false, .slice (some ⟨w.heap.size + 1 + 1, 0, none⟩) 1 1, .bool false] 42)).alloc (.cells #[.bool false, .slice (some ⟨w.heap.size + 1, 0, none⟩) 1 1, .bool false, .slice (some ⟨w.heap.size + 1 + 1, 0, none⟩) 1 1, .bool false] 42) = W3) := Lib.hid (by rw [hW2, hW3])
  have HK : Hid (∀ W, Below W3.heap.size W3 W → Below w.heap.size w W ∧ ItsC W [x] ∧ W.heap[W1.heap.size]? = some (rulO x)) := Lib.hid fun W b => ⟨B3.trans (b.mono B3.size), ((its1.below b2).below b3).below b, row_below r23 b⟩
  clear hW2 hW3 b2 b3 r2 r3 B3 z2 r23 its1 b1 HS1 HCO
  go_wp2_with fail
  rw [HW3.out]
  refine HC3.out.mono ?_
  rintro e W4 ⟨⟨m, rfl, hm1, hm2, hm3, _⟩, b4⟩
  rw [ex_RD] at hm1
  rw [ex_FD] at hm2
  have hB : m.B 2 = true := by show machB (m.rows.map (·.2.1)) m.fits 2 = true; rw [hm1, hm2]; exact ex_BD
  obtain ⟨W5, hW5⟩ : ∃ W5, W4.alloc (.cells #[.slice m.no m.rows.length m.nc, .slice m.fo m.fits.length m.fc] 25) = W5 := ⟨_, rfl⟩
  have b5 : Below W4.heap.size W4 W5 := by rw [← hW5]; exact (Below.refl _ _).alloc (Nat.le_refl _) _
  have r5 : W5.heap[W4.heap.size]? = some (.cells #[.slice m.no m.rows.length m.nc, .slice m.fo m.fits.length m.fc] 25 (0, 0)) := by rw [← hW5]; exact heap_alloc_new _ _
  have z5 : W5.heap.size = W4.heap.size + 1 := by rw [← hW5]; simp
  obtain ⟨W6, hW6⟩ : ∃ W6, W5.alloc (.cells #[.int .i64 0, .int .i64 1, .int .i64 0, .int .i64 7] 3) = W6 := ⟨_, rfl⟩
  have b6 : Below W5.heap.size W5 W6 := by rw [← hW6]; exact (Below.refl _ _).alloc (Nat.le_refl _) _
  have n6 : NumsAt W6 (some ⟨W5.heap.size, 0, none⟩) [0, 1, 0, 7] := by rw [← hW6]; exact row_intsD (heap_alloc_new _ _)
  have B45 := b4.trans (b5.mono b4.size)
  have HK5 : Hid (∀ W, Below W5.heap.size W5 W → (Below w.heap.size w W ∧ ItsC W [x] ∧ W.heap[W1.heap.size]? = some (rulO x)) ∧ MachD W m ∧ W.heap[W4.heap.size]? = some (.cells #[.slice m.no m.rows.length m.nc, .slice m.fo m.fits.length m.fc] 25 (0, 0))) := Lib.hid fun W b => ⟨HK.out W (B45.trans (b.mono B45.size)), (hm3.below b5).below b, row_below r5 b⟩
  have HGO := Lib.hid (GoD_right m 2 (some ⟨W5.heap.size, 0, none⟩) [0, 1, 0, 7] 4 hB (by simp) W6 aR aM (HGD.out.below (HK5.out W6 b6).1.1) (HK5.out W6 b6).2.1 n6)
  rw [hm1, ex_goD, z5] at HGO
  have HFI := Lib.hid (fun (o : Option Addr) (W : World) (hb : Below w.heap.size w W) (hM : MachD W m) (hn : NumsAt W o [0, 1]) => FitsD_right m 2 o [0, 1] 2 hB (by simp) W aR aM (HGD.out.below hb) hM hn)
  rw [hm1, ex_go2D, hm2] at HFI
  have HSM := Lib.hid (fun (m2 : MachX) (W : World) (hM : MachD W m) (hM2 : MachD W m2) => refSameD_any m m2 ⟨by have := congrArg List.length hm1; rw [List.length_map] at this; rw [this]; decide, by rw [hm2]; decide, fun y hy => by
    have : y.2.1 ∈ m.rows.map (·.2.1) := List.mem_map.2 ⟨y, hy, rfl⟩
    rw [hm1] at this
    have h3 : y.2.1 = [1, 0, 0] := by simpa using this
    rw [h3]
    decide⟩ W hM hM2)
  rw [show m.R = [[1, 0, 0], [1, 0, 0]] from hm1, hm2] at HSM
  have HW56 : Hid ((W4.alloc (.cells #[.slice m.no m.rows.length m.nc, .slice m.fo m.fits.length m.fc] 25)).alloc (.cells #[.int .i64 0, .int .i64 1, .int .i64 0, .int .i64 7] 3) = W6) := Lib.hid (by rw [hW5, hW6])
  have HB6 := Lib.hid b6
  clear hm1 hm2 hm3 b4 hB hW5 b5 r5 z5 hW6 b6 n6 B45
  obtain ⟨no, rows, nc, fo, fits, fc⟩ := m
  obtain ⟨q, hq⟩ : ∃ q, rows.length = q := ⟨_, rfl⟩
  obtain ⟨f, hf⟩ : ∃ f, fits.length = f := ⟨_, rfl⟩
  simp only [MachX.v, hq, hf] at HK5 HGO HFI HSM HW56 ⊢
  go_wp2_with fail
  rw [HW56.out]
  refine HGO.out.mono ?_
  rintro e W7 ⟨o7, c7, rfl, own7, b7⟩
  have B7 := HB6.out.trans (b7.mono HB6.out.size)
  obtain ⟨W8, hW8⟩ : ∃ W8, W7.alloc (.cells #[.int .i64 0, .int .i64 1] 3) = W8 := ⟨_, rfl⟩
  have b8 : Below W7.heap.size W7 W8 := by rw [← hW8]; exact (Below.refl _ _).alloc (Nat.le_refl _) _
  have B8 := B7.trans (b8.mono B7.size)
  have n8 : NumsAt W8 (some ⟨W7.heap.size, 0, none⟩) [0, 1] := by rw [← hW8]; exact row_intsD (heap_alloc_new _ _)
  obtain ⟨⟨k1, k2, k3⟩, k4, k5⟩ := HK5.out W8 B8
  obtain ⟨p0, p1⟩ := mac_cells (HK5.out W7 B7).2.2
  have lp := World.block_lt_of_cell? W7 _ p0
  have HC8 := Lib.hid (HFI.out _ W8 k1 k4 n8)
  have HN7 : Hid (NumsAt W7 o7 [0, 1, 0, 1, 0]) := Lib.hid (nums_ownN (l := [0, 1, 0, 1, 0]) own7)
  have HN8 := Lib.hid (HN7.out.below b8)
  have HW8 := Lib.hid hW8
  have HB8 := Lib.hid B8
  clear hW8 b8 n8 k1 k2 k3 k4 k5 own7 b7 B7 B8 HGO HFI HW56 hq hf HN7
  go_wp2_with fail
  rw [HW8.out]
  refine HC8.out.mono ?_
  rintro e W9 ⟨o9, c9, rfl, own9, b9⟩
  have B9 := HB8.out.trans (b9.mono HB8.out.size)
  obtain ⟨⟨k1, k2, k3⟩, k4, k5⟩ := HK5.out W9 B9
  obtain ⟨WA, hWA⟩ : ∃ WA, W9.alloc (.cells #[.bool false, .slice (some ⟨w.heap.size + 1, 0, none⟩) 1 1, .bool false, .slice (some ⟨w.heap.size + 1 + 1, 0, none⟩) 1 1, .bool false] 42 (0, 0)) = WA := ⟨_, rfl⟩
  have bA : Below W9.heap.size W9 WA := by rw [← hWA]; exact (Below.refl _ _).alloc (Nat.le_refl _) _
  have rA : WA.heap[W9.heap.size]? = some (rulO x) := by rw [← hWA, ← HXO.out]; exact heap_alloc_new _ _
  have hru := k3
  rw [HXO.out] at hru
  obtain ⟨u0, u1, u2, u3, u4⟩ := five_cells hru
  have lu := World.block_lt_of_cell? W9 _ u0
  have BA := B9.trans (bA.mono B9.size)
  obtain ⟨⟨l1, l2, l3⟩, l4, l5⟩ := HK5.out WA BA
  have HCA := Lib.hid (HCB.out (some ⟨W9.heap.size, 0, none⟩) WA l1 (row_rulD rA) l2)
  have HN9 : Hid (NumsAt WA o9 [0, 1, 0]) := Lib.hid ((nums_ownZ (l := [0, 1, 0]) own9).below bA)
  have HNA := Lib.hid ((HN8.out.below b9).below bA)
  have HWA := Lib.hid hWA
  have HBA := Lib.hid BA
  clear hWA bA rA hru k1 k2 k3 k4 k5 l1 l2 l3 l4 l5 own9 b9 B9 BA p0 p1 lp HN8 HCB
  go_wp2_with fail
  rw [HWA.out]
  refine HCA.out.mono ?_
  rintro e WB ⟨rfl, bB⟩
  have BB := HBA.out.trans (bB.mono HBA.out.size)
  obtain ⟨WC, hWC⟩ : ∃ WC, WB.alloc (.cells #[.slice none 0 0, .slice none 0 0] 25) = WC := ⟨_, rfl⟩
  have bC : Below WB.heap.size WB WC := by rw [← hWC]; exact (Below.refl _ _).alloc (Nat.le_refl _) _
  have BC := BB.trans (bC.mono BB.size)
  have zC : WC.heap.size = WB.heap.size + 1 := by rw [← hWC]; simp
  obtain ⟨WD, hWD⟩ : ∃ WD, WC.alloc (.cells #[.int .i64 1, .int .i64 0, .int .i64 0] 3) = WD := ⟨_, rfl⟩
  have bD : Below WC.heap.size WC WD := by rw [← hWD]; exact (Below.refl _ _).alloc (Nat.le_refl _) _
  have zD : WD.heap.size = WB.heap.size + 2 := by rw [← hWD]; simp; omega
  have nD : NumsAt WD (some ⟨WB.heap.size + 1, 0, none⟩) [1, 0, 0] := by rw [← hWD, ← zC]; exact row_intsD (heap_alloc_new _ _)
  obtain ⟨WE, hWE⟩ : ∃ WE, WD.alloc (.cells #[.int .i64 1, .int .i64 0, .int .i64 0] 3) = WE := ⟨_, rfl⟩
  have bE : Below WD.heap.size WD WE := by rw [← hWE]; exact (Below.refl _ _).alloc (Nat.le_refl _) _
  have zE : WE.heap.size = WB.heap.size + 3 := by rw [← hWE]; simp; omega
  have nE : NumsAt WE (some ⟨WB.heap.size + 1 + 1, 0, none⟩) [1, 0, 0] := by rw [← hWE, show WB.heap.size + 1 + 1 = WD.heap.size by omega]; exact row_intsD (heap_alloc_new _ _)
  obtain ⟨WF, hWF⟩ : ∃ WF, WE.alloc (.cells #[.slice (some ⟨WB.heap.size + 1, 0, none⟩) 3 3, .slice (some ⟨WB.heap.size + 1 + 1, 0, none⟩) 3 3] 26) = WF := ⟨_, rfl⟩
  have bF : Below WE.heap.size WE WF := by rw [← hWF]; exact (Below.refl _ _).alloc (Nat.le_refl _) _
  have zF : WF.heap.size = WB.heap.size + 4 := by rw [← hWF]; simp; omega
  have rF : WF.heap[WB.heap.size + 1 + 1 + 1]? = some (.cells #[.slice (some ⟨WB.heap.size + 1, 0, none⟩) 3 3, .slice (some ⟨WB.heap.size + 1 + 1, 0, none⟩) 3 3] 26 (0, 0)) := by rw [← hWF, show WB.heap.size + 1 + 1 + 1 = WE.heap.size by omega]; exact heap_alloc_new _ _
  obtain ⟨WG, hWG⟩ : ∃ WG, WF.alloc (.cells #[.int .i64 0, .int .i64 1] 2) = WG := ⟨_, rfl⟩
  have bG : Below WF.heap.size WF WG := by rw [← hWG]; exact (Below.refl _ _).alloc (Nat.le_refl _) _
  have nG : NumsAt WG (some ⟨WB.heap.size + 1 + 1 + 1 + 1, 0, none⟩) [0, 1] := by rw [← hWG, show WB.heap.size + 1 + 1 + 1 + 1 = WF.heap.size by omega]; exact row_intsD (heap_alloc_new _ _)
  have bCG : Below WC.heap.size WC WG := bD.trans ((bE.trans ((bF.trans (bG.mono bF.size)).mono bE.size)).mono bD.size)
  have BG := BC.trans (bCG.mono BC.size)
  obtain ⟨⟨l1, l2, l3⟩, l4, l5⟩ := HK5.out WG BG
  have hM2 : MachD WG ⟨some ⟨WB.heap.size + 1 + 1 + 1, 0, none⟩, [(some ⟨WB.heap.size + 1, 0, none⟩, [1, 0, 0], 3), (some ⟨WB.heap.size + 1 + 1, 0, none⟩, [1, 0, 0], 3)], 2, some ⟨WB.heap.size + 1 + 1 + 1 + 1, 0, none⟩, [0, 1], 2⟩ := by
    have rG := row_below rF bG
    refine ⟨fun _ => ⟨WB.heap.size + 1 + 1 + 1, 0, rfl, fun j y hy => ?_⟩, fun y hy => ?_, nG⟩
    · match j, hy with
      | 0, hy => cases hy; rw [cell_of_row _ _ _ _ _ _ rG]; rfl
      | 1, hy => cases hy; rw [cell_of_row _ _ _ _ _ _ rG]; rfl
      | j + 2, hy => simp at hy
    · rcases List.mem_cons.1 hy with rfl | hy
      · exact ((nD.below bE).below bF).below bG
      · rw [List.mem_singleton.1 hy]
        exact (nE.below bF).below bG
  have HCG := Lib.hid (HSM.out _ WG l4 hM2)
  replace HCG : Hid (Calls Tryd.prog 27 #[.agg #[.slice no q nc, .slice fo f fc], .agg #[.slice (some ⟨WB.heap.size + 1 + 1 + 1, 0, none⟩) 2 2, .slice (some ⟨WB.heap.size + 1 + 1 + 1 + 1, 0, none⟩) 2 2]] WG fun e w' => e = .returned (.bool true) ∧ Below WG.heap.size WG w') := Lib.hid (by
    have := HCG.out
    rwa [decide_eq_true (by exact ⟨rfl, rfl⟩)] at this)
  obtain ⟨p0, p1⟩ := mac_cells (HK5.out WC BC).2.2
  obtain ⟨v0, v1⟩ := mac_cells (HK5.out WB BB).2.2
  have lp := World.block_lt_of_cell? WC _ p0
  have lv := World.block_lt_of_cell? WB _ v0
  have HWG : Hid ((((((WB.alloc (.cells #[.slice none 0 0, .slice none 0 0] 25)).alloc (.cells #[.int .i64 1, .int .i64 0, .int .i64 0] 3)).alloc (.cells #[.int .i64 1, .int .i64 0, .int .i64 0] 3)).alloc (.cells #[.slice (some ⟨WB.heap.size + 1, 0, none⟩) 3 3, .slice (some ⟨WB.heap.size + 1 + 1, 0, none⟩) 3 3] 26)).alloc (.cells #[.int .i64 0, .int .i64 1] 2)) = WG) := Lib.hid (by rw [hWC, hWD, hWE, hWF, hWG])
  have HBG := Lib.hid BG
  have HN9 := Lib.hid ((HN9.out.below bB).below (bC.trans (bCG.mono bC.size)))
  have HNA := Lib.hid ((HNA.out.below bB).below (bC.trans (bCG.mono bC.size)))
  clear hWC bC BC zC hWD bD zD nD hWE bE zE nE hWF bF zF rF hWG bG nG bCG BG l1 l2 l3 l4 l5 hM2 bB BB HSM HBA u0 u1 u2 u3 u4 lu
  go_wp2_with fail
  rw [HWG.out]
  refine HCG.out.mono ?_
  rintro e WH ⟨rfl, bH⟩
  have BH := HBG.out.trans (bH.mono HBG.out.size)
  obtain ⟨WI, hWI⟩ : ∃ WI, WH.alloc (.cells #[.int .i64 0, .int .i64 1, .int .i64 0, .int .i64 1, .int .i64 0] 3) = WI := ⟨_, rfl⟩
  have bI : Below WH.heap.size WH WI := by rw [← hWI]; exact (Below.refl _ _).alloc (Nat.le_refl _) _
  have nI : NumsAt WI (some ⟨WH.heap.size, 0, none⟩) [0, 1, 0, 1, 0] := by rw [← hWI]; exact row_intsD (heap_alloc_new _ _)
  have HCI := Lib.hid (intsR_any o7 (some ⟨WH.heap.size, 0, none⟩) [0, 1, 0, 1, 0] [0, 1, 0, 1, 0] c7 5 (by simp) WI ((HNA.out.below bH).below bI) nI)
  rw [decide_eq_true rfl] at HCI
  have HWI := Lib.hid hWI
  have HBI := Lib.hid (BH.trans (bI.mono BH.size))
  have HN9 := Lib.hid ((HN9.out.below bH).below bI)
  clear hWI bI nI bH BH HBG HNA p0 p1 v0 v1 lp lv
  go_wp2_with fail
  rw [HWI.out]
  refine HCI.out.mono ?_
  rintro e WJ ⟨rfl, bJ⟩
  have BJ := HBI.out.trans (bJ.mono HBI.out.size)
  obtain ⟨WL, hWL⟩ : ∃ WL, WJ.alloc (.cells #[.int .i64 0, .int .i64 1, .int .i64 0] 2) = WL := ⟨_, rfl⟩
  have bL : Below WJ.heap.size WJ WL := by rw [← hWL]; exact (Below.refl _ _).alloc (Nat.le_refl _) _
  have nL : NumsAt WL (some ⟨WJ.heap.size, 0, none⟩) [0, 1, 0] := by rw [← hWL]; exact row_intsD (heap_alloc_new _ _)
  have HCL := Lib.hid (setsL12_any o9 (some ⟨WJ.heap.size, 0, none⟩) [0, 1, 0] [0, 1, 0] c9 3 (by simp) WL ((HN9.out.below bJ).below bL) nL)
  rw [decide_eq_true rfl] at HCL
  have HWL := Lib.hid hWL
  have HBL := Lib.hid (BJ.trans (bL.mono BJ.size))
  clear hWL bL nL bJ BJ HBI HN9
  go_wp2_with fail
  rw [HWL.out]
  refine HCL.out.mono ?_
  rintro e WM ⟨rfl, bM⟩
  have HF := Lib.hid (HK5.out WM (HBL.out.trans (bM.mono HBL.out.size))).1.1
  clear bM HBL
  go_wp2_with fail
  go_ret
  exact ⟨rfl, HF.out⟩
end Go.Proofs.YtaoooocalpkhjaaDoor
namespace Go.Proofs.YtaoooocalpkhjaaDoor
open Go.RowKit Go.Shelf Go.Maps

abbrev zeroX : MachX := ⟨none, [], 0, none, [], 0⟩
def CmpQ (l : List RulX) (n code : Int) (m : MachX) (w' : World) : Prop :=
  (code = 90 ∧ m = zeroX ∧ rightsU (l.map plX) n = false) ∨
  (code = 100 ∧ m = zeroX ∧ rightsU (l.map plX) n = true ∧ ∃ N : Nat, n = ((N : Nat) : Int) ∧ 300 < (finD (l.map leftX) N).1.length) ∨
  (code = 0 ∧ rightsU (l.map plX) n = true ∧ ∃ N : Nat, n = ((N : Nat) : Int) ∧ 1 ≤ N ∧ N ≤ 32 ∧ l.length ≤ 40 ∧ leftsL N l ∧ (finD (l.map leftX) N).1.length ≤ 300 ∧ m.rows.map (·.2.1) = finR (l.map leftX) N ∧ m.fits = finF (l.map leftX) N ∧ MachD w' m ∧ m.B n = true)
theorem Comp12_any (o : Option Addr) (l : List RulX) (cap : Nat) (n : Int) (hl : l.length ≤ 1000000) (hfw : FewC l) (w : World) (aR aM aP aS : Addr) (hG : GlobD w aR aM) (hQ : GlobH w aP aS) (hA : AtC w o l) (hI : ItsC w l) :
    Calls Tryd.prog 16 #[.slice o l.length cap, .int .i64 n] w fun e w' => ∃ (m : MachX) (code : Int), e = .returned (.tuple #[m.v, .int .i64 code]) ∧ CmpQ l n code m w' ∧ Below w.heap.size w w' := by
  cases hr : rightsU (l.map plX) n with
  | false =>
    refine (Compile_bad o l cap n hl hfw w aR aM hG hA hI hr).mono ?_
    rintro e w' ⟨rfl, b⟩
    exact ⟨zeroX, 90, rfl, .inl ⟨rfl, rfl, hr⟩, b⟩
  | true =>
    obtain ⟨N, rfl, h1, h32, h40, hlf⟩ := lefts_of hr
    rcases Nat.lt_or_ge 300 (finD (l.map leftX) N).1.length with h | h
    · refine (Compile_over o l cap N hfw w aR aM aP aS hG hQ hA hI hr h).mono ?_
      rintro e w' ⟨rfl, b⟩
      exact ⟨zeroX, 100, rfl, .inr (.inl ⟨rfl, rfl, hr, N, rfl, h⟩), b⟩
    · refine (Compile_ok o l cap N hfw w aR aM aP aS hG hQ hA hI hr h).mono ?_
      rintro e w' ⟨⟨m, rfl, hm1, hm2, hm3, _⟩, b⟩
      refine ⟨m, 0, rfl, .inr (.inr ⟨rfl, hr, N, rfl, h1, h32, h40, hlf, h, hm1, hm2, hm3, ?_⟩), b⟩
      show machB (m.rows.map (·.2.1)) m.fits _ = true
      rw [hm1, hm2]
      exact fin_right hlf.up h40 h1 h32 h
end Go.Proofs.YtaoooocalpkhjaaDoor
namespace Go.Proofs.YtaoooocalpkhjaaDoor
open Go.RowKit Go.Shelf Go.Maps
attribute [local go_sem] Oper.semAt_some
attribute [local go_sem ↓] app_hide

theorem own_geR {w : World} {base : Nat} {e : TypeId} {size : Nat} {v : Value} {n : Nat} {xs : List Value} (h : w.ownsRow base e size v n xs) {g : Nat} (hg : v.ownBlock = some g) : base ≤ g := by
  rcases h.2 with ⟨rfl, _⟩ | ⟨g', cap, cur, rfl, hb, _⟩
  · simp [Value.ownBlock] at hg
  · obtain rfl : g' = g := by simpa [Value.ownBlock] using hg
    exact hb
theorem rulsC_length (xs : List RulX) : (rulsC xs).length = xs.length * 5 := by
  induction xs with
  | nil => rfl
  | cons x t ih =>
    have e : rulsC (x :: t) = (rulC x).toList ++ rulsC t := by unfold rulsC; rw [List.flatMap_cons]
    rw [e, List.length_append, ih]
    show 5 + t.length * 5 = (t.length + 1) * 5
    omega
theorem rulsC_append (xs ys : List RulX) : rulsC (xs ++ ys) = rulsC xs ++ rulsC ys := by unfold rulsC; rw [List.flatMap_append]
theorem rulsC_one (xs : List RulX) : ∀ u ∈ rulsC xs, u.oneCell' = true := by
  intro u hu
  unfold rulsC at hu
  obtain ⟨x, _, hx⟩ := List.mem_flatMap.1 hu
  have hx' : u ∈ [Value.bool x.1.1, .slice x.1.2.1 x.1.2.2.1.length x.1.2.2.2, .bool x.2.1.1, .slice x.2.1.2.1 x.2.1.2.2.1.length x.2.1.2.2.2, .bool x.2.2] := hx
  simp only [List.mem_cons, List.not_mem_nil, or_false] at hx'
  rcases hx' with rfl | rfl | rfl | rfl | rfl <;> rfl
theorem add_inJ {w : World} {g off : Nat} {l : List RulX} (hc : ∀ (j : Nat) (x : RulX), l[j]? = some x →
    w.cell? ⟨g, off + j * 5, none⟩ = some (.bool x.1.1) ∧ w.cell? ⟨g, off + j * 5 + 1, none⟩ = some (.slice x.1.2.1 x.1.2.2.1.length x.1.2.2.2) ∧ w.cell? ⟨g, off + j * 5 + 2, none⟩ = some (.bool x.2.1.1) ∧
    w.cell? ⟨g, off + j * 5 + 3, none⟩ = some (.slice x.2.1.2.1 x.2.1.2.2.1.length x.2.1.2.2.2) ∧ w.cell? ⟨g, off + j * 5 + 4, none⟩ = some (.bool x.2.2)) :
    ∀ j u, (rulsC l)[j]? = some u → w.cell? ((⟨g, off, none⟩ : Addr).add j) = some u := by
  intro j u hj
  have hadd : (⟨g, off, none⟩ : Addr).add j = ⟨g, off + j, none⟩ := by unfold Addr.add; split <;> simp_all
  rw [hadd]
  have hlt := (List.getElem?_eq_some_iff.1 hj).1
  rw [rulsC_length] at hlt
  obtain ⟨x, hx⟩ : ∃ x, l[j / 5]? = some x := ⟨_, List.getElem?_eq_getElem (by omega)⟩
  obtain ⟨h0, h1, h2, h3, h4⟩ := hc _ x hx
  have h := rulsC_at l _ x hx
  have hm : j % 5 = 0 ∨ j % 5 = 1 ∨ j % 5 = 2 ∨ j % 5 = 3 ∨ j % 5 = 4 := by omega
  rcases hm with e | e | e | e | e
  · have c := h 0 _ rfl
    rw [show j / 5 * 5 + 0 = j from by omega] at c
    rw [show off + j / 5 * 5 = off + j from by omega] at h0
    rw [c] at hj; cases hj; exact h0
  · have c := h 1 _ rfl
    rw [show j / 5 * 5 + 1 = j from by omega] at c
    rw [show off + j / 5 * 5 + 1 = off + j from by omega] at h1
    rw [c] at hj; cases hj; exact h1
  · have c := h 2 _ rfl
    rw [show j / 5 * 5 + 2 = j from by omega] at c
    rw [show off + j / 5 * 5 + 2 = off + j from by omega] at h2
    rw [c] at hj; cases hj; exact h2
  · have c := h 3 _ rfl
    rw [show j / 5 * 5 + 3 = j from by omega] at c
    rw [show off + j / 5 * 5 + 3 = off + j from by omega] at h3
    rw [c] at hj; cases hj; exact h3
  · have c := h 4 _ rfl
    rw [show j / 5 * 5 + 4 = j from by omega] at c
    rw [show off + j / 5 * 5 + 4 = off + j from by omega] at h4
    rw [c] at hj; cases hj; exact h4
theorem app_noneJ (W : World) (v : Value) {k : Nat} {base : Nat} {xs : List Value} (ho : W.ownsRow base 42 5 v k xs) (c : Nat) :
    (appSem #[36, 36] 36 #[v, .slice none 0 c]).run Tryd.prog W = .ok v W := by
  obtain ⟨i0, hi, hz0, hz1, hz2⟩ := info_parts infoRul
  rcases ho.2 with ⟨rfl, rfl⟩ | ⟨g, cap, cur, rfl, _, _, hnc, _, _, _⟩
  · simp [appSem, Builtin.append_, run_underlying Tryd.underlying36, sizeOf, typeInfo, hi, Builtin.lenOf, Builtin.firstCells]
  · simp [appSem, Builtin.append_, run_underlying Tryd.underlying36, sizeOf, typeInfo, hi, Builtin.lenOf, Builtin.firstCells, loadCells, storeCells, hnc]
theorem ruls_own {W : World} {base k : Nat} {v : Value} {xs : List Value} (l : List RulX) (o : Option Addr) (c : Nat) (hA : AtC W o l) (ho : W.ownsRow base 42 5 v k xs) (hk : k + l.length ≤ 100000) (hbase : base ≤ W.heap.size) :
    ∃ o' cap w6, (appSem #[36, 36] 36 #[v, .slice o l.length c]).run Tryd.prog W = .ok (.slice o' (k + l.length) cap) w6 ∧
      w6.ownsRow base 42 5 (.slice o' (k + l.length) cap) (k + l.length) (xs ++ rulsC l) ∧ Below base W w6 := by
  obtain ⟨i0, hi, hz0, hz1, hz2⟩ := info_parts infoRul
  have main : ∀ a : Addr, (∀ j u, (rulsC l)[j]? = some u → W.cell? (a.add j) = some u) → o = some a → ∃ o' cap w6, (appSem #[36, 36] 36 #[v, .slice o l.length c]).run Tryd.prog W = .ok (.slice o' (k + l.length) cap) w6 ∧
      w6.ownsRow base 42 5 (.slice o' (k + l.length) cap) (k + l.length) (xs ++ rulsC l) ∧ Below base W w6 := by
    rintro a hc rfl
    obtain ⟨v', w6, hr, h2, h3, _, h5⟩ := run_append_own_at (P := Tryd.prog) W base 36 36 42 i0 (.agg zeroR) 5 72 Tryd.underlying36 hi hz0 hz1 hz2 rfl (by decide) v k xs ho a l.length c (rulsC l) (rulsC_length l) hc (rulsC_one _) (by unfold maxLen; omega) (by omega) hbase
    obtain ⟨o', cap, rfl⟩ := own_form h2
    refine ⟨o', cap, w6, hr, h2, Below.grown (Below.refl _ _) h3 hbase (fun g hg => own_geR ho hg)⟩
  rcases Nat.eq_zero_or_pos l.length with h0 | h0
  · obtain rfl := List.eq_nil_of_length_eq_zero h0
    cases o with
    | none =>
      obtain ⟨o', cap, rfl⟩ := own_form ho
      exact ⟨o', cap, W, app_noneJ W _ ho c, by simpa [rulsC] using ho, Below.refl _ _⟩
    | some a => exact main a (fun j u hj => by simp [rulsC] at hj) rfl
  · obtain ⟨g, off, rfl, hc⟩ := hA h0
    exact main _ (add_inJ hc) rfl
theorem itsC_append {w : World} {l m : List RulX} (h : ItsC w l) (h2 : ItsC w m) : ItsC w (l ++ m) := fun x hx => (List.mem_append.1 hx).elim (h x) (h2 x)
theorem fewC_append {l m : List RulX} (h : FewC l) (h2 : FewC m) : FewC (l ++ m) := fun x hx => (List.mem_append.1 hx).elim (h x) (h2 x)
end Go.Proofs.YtaoooocalpkhjaaDoor
namespace Go.Proofs.YtaoooocalpkhjaaDoor
open Go.RowKit Go.Shelf Go.Maps
attribute [local go_sem] Oper.semAt_some
attribute [local go_sem ↓] app_hide

abbrev bareX (x : RulX) : RulX := (x.1, (false, none, [], 0), !x.2.2)
theorem bare_left (l : List RulX) : (l.map bareX).map leftX = l.map leftX := by rw [List.map_map]; rfl
theorem bare_right {l : List RulX} {n : Int} (h : rightsU (l.map plX) n = true) : rightsU ((l.map bareX).map plX) n = true := by
  obtain ⟨h1, h2, h3, h4⟩ := rights_parts h
  unfold rightsU
  simp only [Bool.and_eq_true, decide_eq_true_iff, List.all_eq_true]
  rw [List.length_map] at h3
  refine ⟨⟨⟨h1, h2⟩, by rw [List.length_map, List.length_map]; exact h3⟩, fun y hy => ?_⟩
  obtain ⟨z, hz, rfl⟩ := List.mem_map.1 hy
  obtain ⟨x, hx, rfl⟩ := List.mem_map.1 hz
  have := h4 (plX x) (List.mem_map_of_mem hx)
  unfold rightU at this ⊢
  simp only [Bool.and_eq_true] at this ⊢
  exact ⟨⟨this.1.1, rightB_of ⟨h1, h2⟩ (Nat.zero_le _) fun x hx => by cases hx⟩, rfl⟩
theorem itsC_bare {w : World} {l : List RulX} (h : ItsC w l) : ItsC w (l.map bareX) := fun y hy => by
  obtain ⟨x, hx, rfl⟩ := List.mem_map.1 hy
  exact ⟨(h x hx).1, (fun h0 => absurd h0 (Nat.lt_irrefl _)), Nat.le_refl _⟩
theorem fewC_bare {l : List RulX} (h : FewC l) : FewC (l.map bareX) := fun y hy => by
  obtain ⟨x, hx, rfl⟩ := List.mem_map.1 hy
  exact ⟨(h x hx).1, Nat.zero_le _⟩
theorem cmp_lefts {l k : List RulX} {n c d : Int} {m o : MachX} {w v : World} (hl : k.map leftX = l.map leftX) (hr : rightsU (l.map plX) n = true → rightsU (k.map plX) n = true) (h : CmpQ l n c m w) (g : CmpQ k n d o v) :
    (c = 90 ∧ m = zeroX) ∨ (c ≠ 90 ∧ c = d ∧ m.fits = o.fits ∧ m.rows.map rowP = o.rows.map rowP) := by
  rcases h with ⟨rfl, rfl, h1⟩ | ⟨rfl, rfl, h1, N, rfl, h2⟩ | ⟨rfl, h1, N, rfl, _, _, _, _, h2, h3, h4, _, _⟩
  · exact .inl ⟨rfl, rfl⟩
  · right
    have h5 := hr h1
    rcases g with ⟨rfl, rfl, g1⟩ | ⟨rfl, rfl, g1, K, e, g2⟩ | ⟨rfl, g1, K, e, _, _, _, _, g2, g3, g4, _, _⟩
    · rw [h5] at g1; cases g1
    · exact ⟨by omega, rfl, rfl, rfl⟩
    · obtain rfl : N = K := by omega
      rw [hl] at g2
      omega
  · right
    have h5 := hr h1
    rcases g with ⟨rfl, rfl, g1⟩ | ⟨rfl, rfl, g1, K, e, g2⟩ | ⟨rfl, g1, K, e, _, _, _, _, g2, g3, g4, _, _⟩
    · rw [h5] at g1; cases g1
    · obtain rfl : N = K := by omega
      rw [hl] at g2
      omega
    · obtain rfl : N = K := by omega
      exact ⟨by omega, rfl, by rw [h4, g4, hl], by show m.rows.map (·.2.1) = o.rows.map (·.2.1); rw [h3, g3, hl]⟩
theorem zero_machD' (w : World) : MachD w zeroX := ⟨fun h => absurd h (Nat.lt_irrefl _), fun x h => (by cases h), fun h => absurd h (Nat.lt_irrefl _)⟩
theorem cmp_machD {l : List RulX} {n c : Int} {m : MachX} {w : World} (h : CmpQ l n c m w) : MachD w m := by
  rcases h with ⟨_, rfl, _⟩ | ⟨_, rfl, _⟩ | ⟨_, _, _, _, _, _, _, _, _, _, _, h, _⟩
  · exact zero_machD' w
  · exact zero_machD' w
  · exact h
theorem cmp_smallD {l : List RulX} {n c : Int} {m : MachX} {w : World} (h : CmpQ l n c m w) : m.rows.length ≤ 300 ∧ m.fits.length ≤ 300 ∧ ∀ y ∈ m.rows, y.2.1.length ≤ 33 := by
  rcases h with ⟨_, rfl, _⟩ | ⟨_, rfl, _⟩ | ⟨_, _, N, rfl, h1, h32, _, _, h3, hm1, hm2, _, hB⟩
  · exact ⟨Nat.zero_le _, Nat.zero_le _, fun y hy => by cases hy⟩
  · exact ⟨Nat.zero_le _, Nat.zero_le _, fun y hy => by cases hy⟩
  · obtain ⟨_, _, _, k3, k4, k5, _⟩ := machB_parts hB
    rw [List.length_map] at k3 k4
    refine ⟨k3, by omega, fun y hy => ?_⟩
    have := (k5 y.2.1 (List.mem_map.2 ⟨y, hy, rfl⟩)).1
    omega
set_option maxRecDepth 100000 in
set_option maxHeartbeats 8000000 in
theorem dfaLefts_anyL (o : Option Addr) (l : List RulX) (cap : Nat) (n : Int) (w : World) (aR aM aP aS : Addr) (hG : GlobD w aR aM) (hQ : GlobH w aP aS) (hA : AtC w o l) (hI : ItsC w l) :
    Calls Tryd.prog 4 #[.slice o l.length cap, .int .i64 n] w fun e w' => e = .returned (.bool true) ∧ Below w.heap.size w w' := by
  obtain ⟨P, hP⟩ : ∃ P, (fun (e : Ending) (w' : World) => e = .returned (.bool true) ∧ Below w.heap.size w w') = P := ⟨_, rfl⟩
  have HPP : Hid (∀ W, Below w.heap.size w W → P (.returned (.bool true)) W) := by rw [← hP]; exact Lib.hid fun W h => ⟨rfl, h⟩
  rw [hP]
  have HSH := Lib.hid (shown12_any w aR aM aP aS hG hQ)
  have HFW := Lib.hid (fun W (hb : Below w.heap.size w W) => few12_any o l cap W (hA.below hb) (hI.below hb))
  have HFF := fewC_S l
  have hfl := fewS_len l
  obtain ⟨F, hF⟩ : ∃ q, fewS l = q := ⟨_, rfl⟩
  rw [hF] at HFW HFF hfl
  have HCW := Lib.hid (fun (o' : Option Addr) (c' : Nat) W (hb : Below w.heap.size w W) (hA' : AtC W o' F) (hI' : ItsC W F) => Comp12_any o' F c' n (by omega) HFF W aR aM aP aS (hG.below hb) (hQ.below hb) hA' hI')
  have HCB := Lib.hid (fun (o' : Option Addr) (c' : Nat) W (hb : Below w.heap.size w W) (hA' : AtC W o' (F.map bareX)) (hI' : ItsC W (F.map bareX)) => Comp12_any o' (F.map bareX) c' n (by rw [List.length_map]; omega) (fewC_bare HFF) W aR aM aP aS (hG.below hb) (hQ.below hb) hA' hI')
  obtain ⟨nl, hnl⟩ : ∃ q, l.length = q := ⟨_, rfl⟩
  rw [hnl] at HFW ⊢
  obtain ⟨nf, hnf⟩ : ∃ q, F.length = q := ⟨_, rfl⟩
  rw [hnf] at HFW HCW hfl
  rw [List.length_map, hnf] at HCB
  have HNF := Lib.hid hnf
  clear hP hG hQ hA hI hF hnl hnf HFF
  go_enter Tryd.func4, Tryd.ntmps4
  go_wp2_with fail
  refine HSH.out.mono ?_
  rintro e w1 ⟨rfl, b1⟩
  have HB1 := Lib.hid b1
  clear b1 HSH
  go_wp2_with fail
  refine (HFW.out w1 HB1.out).mono ?_
  rintro e w2 ⟨o2, c2, rfl, ho, hi, _, b2⟩
  have HB2 := Lib.hid (HB1.out.trans (b2.mono HB1.out.size))
  have HO := Lib.hid ho
  have HI := Lib.hid hi
  clear ho hi b2 HFW HB1
  go_wp2_with fail
  go_loopg [6, 7] nf (fun d v6 v7 wr => ∃ (j : Nat) (ro : Option Addr) (rc : Nat), v7 = .int .i64 (j : Nat) ∧ v6 = .slice ro j rc ∧ j ≤ nf ∧ d = nf - j ∧ Hid (wr.ownsRow w2.heap.size 42 5 (.slice ro j rc) j (rulsC ((F.take j).map bareX))) ∧ Hid (Below w2.heap.size w2 wr))
  case atStart => exact ⟨0, none, 0, rfl, rfl, Nat.zero_le _, rfl, Lib.hid (World.ownsRow_nil _ _ _ _), Lib.hid (Below.refl _ _)⟩
  case round =>
    obtain ⟨j, ro, rc, rfl, rfl, hj, rfl, HOW, HB⟩ := hrel
    have hbz := HB.out.size
    rcases Nat.lt_or_ge j nf with hlt | hge
    · have d1 : decide (((j : Nat) : Int) < ((nf : Nat) : Int)) = true := decide_eq_true (by omega)
      obtain ⟨x, hx⟩ : ∃ x, F[j]? = some x := ⟨_, List.getElem?_eq_getElem (by rw [HNF.out]; exact hlt)⟩
      obtain ⟨g, off, rfl, hc⟩ := HO.out (by rw [HNF.out]; omega)
      obtain ⟨u0, u1, _, _, u4⟩ := hc j x hx
      have t0 := cell_keepQ HB.out u0
      have t1 := cell_keepQ HB.out u1
      have t4 := cell_keepQ HB.out u4
      have lg := World.block_lt_of_cell? _ _ t0
      have hd : Below wr.heap.size wr wr.drew := (Below.refl _ _).drew
      obtain ⟨g', cap', w6, hrun0, hown', hgrow, _⟩ := rul_own (bareX x) (own_below HOW.out hd) (by omega) (by show w2.heap.size ≤ wr.heap.size; omega)
      have hsn : rulsC ((F.take (j + 1)).map bareX) = rulsC ((F.take j).map bareX) ++ (rulC (bareX x)).toList := by
        rw [List.take_add_one, hx, Option.toList_some, List.map_append, List.map_singleton, rulsC_snoc]
      rw [← hsn] at hown'
      have HO6 := Lib.hid hown'
      have hda := (HB.out.trans (hd.mono hbz)).alloc (by show w2.heap.size ≤ wr.heap.size; omega) (rulO (bareX x))
      have HB6 : Hid (Below w2.heap.size w2 w6) := Lib.hid (hda.grown hgrow (by rw [World.size_alloc]; show w2.heap.size ≤ wr.heap.size + 1; omega) (fun k hk => own_rowD' HOW.out hk))
      obtain ⟨⟨s1, p1, xs1, k1⟩, ⟨s2, p2, xs2, k2⟩, br⟩ := x
      simp only at t0 t1 t4
      obtain ⟨m1, hm1⟩ : ∃ k, xs1.length = k := ⟨_, rfl⟩
      have hrun : (appSem #[36, 36] 36 #[.slice ro j rc, .slice (some ⟨wr.heap.size, 0, none⟩) 1 1]).run Tryd.prog (wr.alloc (.cells #[.bool s1, .slice p1 m1 k1, .bool false, .slice none 0 0, .bool (!br)] 42)).drew = .ok (.slice (some ⟨g', 0, none⟩) (j + 1) cap') w6 := by
        rw [← hm1]; exact hrun0
      simp only [hm1] at t1
      have hjm : j < 1000000 := by omega
      have hfol : Tryd.prog.follows .mixedOrders = true := by kernel_rfl
      clear hc hx u0 u1 u4 hd hown' hgrow hsn hda hrun0 hm1
      go_wp2_with fail
      go_region
      all_goals
        go_simp
        go_wp2_with fail
        go_roundg (nf - (j + 1))
        case measure => omega
        case rel => exact ⟨j + 1, _, _, by simp, rfl, by omega, rfl, HO6, HB6⟩
    · obtain rfl : nf = j := by omega
      have d1 : decide (((nf : Nat) : Int) < ((nf : Nat) : Int)) = false := decide_eq_false (by omega)
      have how := HOW.out
      rw [List.take_of_length_le (by rw [HNF.out]; exact Nat.le_refl _)] at how
      have HAB := Lib.hid (atC_own how (by rw [List.length_map, HNF.out]))
      have HIB := Lib.hid (itsC_bare (HI.out.below HB.out))
      have HBR := Lib.hid (HB2.out.trans (HB.out.mono HB2.out.size))
      have HCR := Lib.hid (HCW.out o2 c2 wr HBR.out (HO.out.below HB.out) (HI.out.below HB.out))
      clear how HOW HB HO HI HCW
      go_wp2_with fail
      refine HCR.out.mono ?_
      rintro e w3 ⟨m, code, rfl, hC, b3⟩
      obtain ⟨w4, hw4⟩ : ∃ w4, w3.alloc (.cells #[.slice m.no m.rows.length m.nc, .slice m.fo m.fits.length m.fc] 25) = w4 := ⟨_, rfl⟩
      have b4 : Below w3.heap.size w3 w4 := by rw [← hw4]; exact (Below.refl _ _).alloc (Nat.le_refl _) _
      have r4 : w4.heap[w3.heap.size]? = some (.cells #[.slice m.no m.rows.length m.nc, .slice m.fo m.fits.length m.fc] 25 (0, 0)) := by rw [← hw4]; exact heap_alloc_new _ _
      have b24 : Below wr.heap.size wr w4 := b3.trans (b4.mono b3.size)
      have HB4 := Lib.hid (HBR.out.trans (b24.mono HBR.out.size))
      have HR4 := Lib.hid (HCB.out ro rc w4 HB4.out (HAB.out.below b24) (HIB.out.below b24))
      have HW4 := Lib.hid hw4
      have HRO := Lib.hid r4
      have HC := Lib.hid hC
      have HM := Lib.hid ((cmp_machD hC).below b4)
      clear hw4 hC b3 b4 r4 b24 HCR HBR HCB HAB HIB
      go_wp2_with fail
      rw [HW4.out]
      refine HR4.out.mono ?_
      rintro e w5 ⟨k, code2, rfl, hC5, b5⟩
      have hls := cmp_lefts (bare_left F) bare_right HC.out hC5
      obtain ⟨w6, hw6⟩ : ∃ w6, w5.alloc (.cells #[.slice k.no k.rows.length k.nc, .slice k.fo k.fits.length k.fc] 25) = w6 := ⟨_, rfl⟩
      have b6 : Below w5.heap.size w5 w6 := by rw [← hw6]; exact (Below.refl _ _).alloc (Nat.le_refl _) _
      have r6 : w6.heap[w5.heap.size]? = some (.cells #[.slice k.no k.rows.length k.nc, .slice k.fo k.fits.length k.fc] 25 (0, 0)) := by rw [← hw6]; exact heap_alloc_new _ _
      have b46 : Below w4.heap.size w4 w6 := b5.trans (b6.mono b5.size)
      have HEND : Hid (∀ W, Below w6.heap.size w6 W → P (.returned (.bool true)) W) := Lib.hid fun W hb => HPP.out W (HB4.out.trans ((b46.trans (hb.mono b46.size)).mono HB4.out.size))
      obtain ⟨q1, q2, q3⟩ := cmp_smallD HC.out
      have hsame := SameD_any m k (by omega) (by omega) (fun x hx => by have := q3 x hx; omega) w6 (HM.out.below b46) ((cmp_machD hC5).below b6)
      obtain ⟨c0, c1⟩ := mac_cells (row_below (row_below HRO.out b5) b6)
      have l6 := World.block_lt_of_cell? w6 _ c0
      obtain ⟨c0', c1'⟩ := mac_cells (row_below HRO.out b5)
      have l5 := World.block_lt_of_cell? w5 _ c0'
      obtain ⟨e0, e1⟩ := mac_cells r6
      have HX0 := Lib.hid (HEND.out w6 (Below.refl _ _))
      have HW6 := Lib.hid hw6
      rcases hls with ⟨rfl, rfl⟩ | ⟨hc90, rfl, hf, hr⟩
      · simp only at c0 c1 c0' c1'
        rw [← hw6] at HX0
        clear hw6 hC5 b5 b6 r6 b46 HR4 HC HM HRO HW4 HB4 HPP q1 q2 q3 hsame HEND e0 e1
        simp only [MachX.v]
        go_wp2_with fail
        exact HX0.out
      · have d90 : (code == 90) = false := by rw [beq_eq_false_iff_ne]; exact hc90
        have hcc : (code == code) = true := beq_self_eq_true _
        rw [decide_eq_true hf, decide_eq_true hr] at hsame
        clear hw6 hC5 b5 b6 r6 b46 HR4 HC HM HRO HW4 HB4 HPP q1 q2 q3 HX0
        obtain ⟨no, rows, nc, fo, fits, fc⟩ := m
        obtain ⟨no2, rows2, nc2, fo2, fits2, fc2⟩ := k
        simp only [MachX.v] at hsame HW6 c0 c1 c0' c1' e0 e1 ⊢
        obtain ⟨q, hq⟩ : ∃ q, rows.length = q := ⟨_, rfl⟩
        obtain ⟨f, hf⟩ : ∃ q, fits.length = q := ⟨_, rfl⟩
        obtain ⟨q2, hq2⟩ : ∃ q, rows2.length = q := ⟨_, rfl⟩
        obtain ⟨f2, hf2⟩ : ∃ q, fits2.length = q := ⟨_, rfl⟩
        rw [hq] at hsame c0 c0' ⊢
        rw [hf] at hsame c1 c1' ⊢
        rw [hq2] at hsame HW6 e0 ⊢
        rw [hf2] at hsame HW6 e1 ⊢
        have HS := Lib.hid hsame
        clear hq hf hq2 hf2 hsame hr
        go_wp2_with fail
        rw [HW6.out]
        refine HS.out.mono ?_
        rintro e w7 ⟨rfl, b7⟩
        have HX := Lib.hid (HEND.out w7 b7)
        clear b7
        go_wp2_with fail
        exact HX.out
end Go.Proofs.YtaoooocalpkhjaaDoor
