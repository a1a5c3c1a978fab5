/- Shaken by bunq.py. -/
import Derived.Test.YtaoooocalpkhjaaDoorBuq4
import Derived.Test.YtaoooocalpkhjaaDoorBuq1
import Derived.Test.YtaoooocalpkhjaaDoorBuq2
namespace Go.Proofs.YtaoooocalpkhjaaDoor
open Go.RowKit Go.Shelf Go.Maps
attribute [local go_sem] Oper.semAt_some

theorem firstR_any (st : Bool) (o : Option Addr) (xs : List ItemP) (cap : Nat) (m : Option Nat) (hxl : xs.length ≤ 10) (w : World) (hA : AtI w o xs) :
    Calls Tryd.prog 111 #[rnrV st o xs.length cap (.map m)] w fun e w' => e = .returned (.int .i64 ((firstS xs : Nat) : Int)) ∧ Below w.heap.size w w' := by
  obtain ⟨w1, hw1⟩ : ∃ w1, w.alloc (rnrO st o xs.length cap (.map m)) = w1 := ⟨_, rfl⟩
  have b1 : Below w.heap.size w w1 := by rw [← hw1]; exact (Below.refl _ _).alloc (Nat.le_refl _) _
  have r1 : w1.heap[w.heap.size]? = some (rnrO st o xs.length cap (.map m)) := by rw [← hw1]; exact heap_alloc_new _ _
  have z1 : w1.heap.size = w.heap.size + 1 := by rw [← hw1]; simp
  obtain ⟨c0, c1, c2⟩ := rnr_cells r1
  obtain ⟨w2, hw2⟩ : ∃ w2, w1.alloc (.cells #[.int .i64 0] 3) = w2 := ⟨_, rfl⟩
  have b2 : Below w1.heap.size w1 w2 := by rw [← hw2]; exact (Below.refl _ _).alloc (Nat.le_refl _) _
  have n2 : NumsAt w2 (some ⟨w.heap.size + 1, 0, none⟩) (natsZ [0]) := by
    rw [← hw2, ← z1]
    exact num_new (heap_alloc_new _ _)
  have B2 := b1.trans (b2.mono b1.size)
  have HC := Lib.hid (closed_any st o (some ⟨w.heap.size + 1, 0, none⟩) xs cap 1 m [0] hxl (by simp) (by simp) w2 (hA.below B2) n2)
  have e1 : closedH xs (setOfN [0]) = firstS xs := by unfold firstS setOfN orN; simp
  rw [e1] at HC
  obtain ⟨n, hn⟩ : ∃ n, xs.length = n := ⟨_, rfl⟩
  rw [hn] at HC c1 hw1 ⊢
  have HW1 := Lib.hid hw1
  have HW2 := Lib.hid hw2
  have HB := Lib.hid B2
  clear hw1 hw2 b1 b2 r1 n2 B2 e1 hn hA hxl
  go_enter Tryd.func111, Tryd.ntmps111
  go_wp2_with fail
  rw [HW1.out]
  try rw [HW2.out]
  refine HC.out.mono ?_
  rintro e w3 ⟨rfl, b3⟩
  have HB3 := Lib.hid (HB.out.trans (b3.mono HB.out.size))
  clear b3
  go_wp2_with fail
  first | (go_ret; exact ⟨rfl, HB3.out⟩) | exact ⟨rfl, HB3.out⟩
structure SetsI (w0 : World) (Rb Lb : Nat) (st : Bool) (o lo : Option Addr) (n cap ll lcap M N : Nat) (XW : Nat → Prop) (W : World) : Prop where
  b0 : Below w0.heap.size w0 W
  rb : W.heap[Rb]? = some (rnrO st o n cap (.map (some M)))
  lb : Boxed W Lb 26 (.slice lo ll lcap)
  wm : WayMap W M N XW
  hx : ∀ k, XW k → k < W.heap.size ∧ w0.heap.size ≤ k ∧ k ≠ Rb ∧ k ≠ Lb
abbrev SetsOw (XW : Nat → Prop) (M : Nat) : Nat → Prop := fun k => XW k ∨ k = M
abbrev SetsDep (w0 : World) (Rb Lb : Nat) : Nat → Prop := fun k => k < w0.heap.size ∨ k = Rb ∨ k = Lb
theorem SetsI.round {w0 : World} {Rb Lb : Nat} {st : Bool} {o lo : Option Addr} {n cap ll lcap M N : Nat} {XW : Nat → Prop} {W W' : World} (h : SetsI w0 Rb Lb st o lo n cap ll lcap M N XW W) (hm : Moves (fun k => ¬ SetsOw XW M k ∧ ¬ SetsDep w0 Rb Lb k) W W') : SetsI w0 Rb Lb st o lo n cap ll lcap M N XW W' :=
  ⟨Moves.below h.b0 h.b0.size hm (fun k hk => by have := hk.2; omega), row_keep h.rb hm (fun e => e.2 (.inr (.inl rfl))), row_keep h.lb hm (fun e => e.2 (.inr (.inr rfl))), h.wm.moves hm (fun e => e.1 (.inr rfl)) (fun k hk e => e.1 (.inl hk)), fun k hk => ⟨Nat.lt_of_lt_of_le (h.hx k hk).1 hm.size, (h.hx k hk).2⟩⟩
theorem SetsI.step {w0 : World} {Rb Lb : Nat} {st : Bool} {o lo : Option Addr} {n cap ll lcap M N : Nat} {XW XW' : Nat → Prop} {W W' : World} (h : SetsI w0 Rb Lb st o lo n cap ll lcap M N XW W) (hm : Moves (fun k => k = M) W W') (h0 : w0.heap.size ≤ M) (h1 : M ≠ Rb) (h2 : M ≠ Lb) (hw : WayMap W' M (N + 21) XW') (hx : ∀ k, XW' k → (XW k ∨ W.heap.size ≤ k) ∧ k < W'.heap.size) : SetsI w0 Rb Lb st o lo n cap ll lcap M (N + 21) XW' W' :=
  ⟨Moves.below h.b0 h.b0.size hm (fun k hk => by omega), row_keep h.rb hm (fun e => h1 e.symm), row_keep h.lb hm (fun e => h2 e.symm), hw, fun k hk => by
    have hr := (Array.getElem?_eq_some_iff.1 h.rb).1
    have hl := (Array.getElem?_eq_some_iff.1 (show W.heap[Lb]? = _ from h.lb)).1
    have := h.b0.size
    obtain ⟨h3 | h3, h4⟩ := hx k hk
    · have := h.hx k h3; omega
    · omega⟩
end Go.Proofs.YtaoooocalpkhjaaDoor
namespace Go.Proofs.YtaoooocalpkhjaaDoor
open Go.RowKit Go.Shelf Go.Maps
attribute [local go_sem] Oper.semAt_some

end Go.Proofs.YtaoooocalpkhjaaDoor
namespace Go.Proofs.YtaoooocalpkhjaaDoor
open Go.RowKit Go.Shelf Go.Maps
attribute [local go_sem] Oper.semAt_some

theorem results_cell_tmpH {P : Program} {fn : Func} {p q : Tmp} {ty : TypeId} (h : fn.results = #[.cell p ty, .tmp q]) (tmps : Array Value) (w : World) (g : Nat) (t : TypeId) (cs : Array Value) (fr : Nat × Nat) (d : TypeDesc) (v : Value)
    (hp : tmps.getD p undef = .pointer (some ⟨g, 0, none⟩)) (hq : tmps.getD q undef = v) (hg : w.heap[g]? = some (.cells cs t fr))
    (hu : P.underlying ty = some d) (hd : (match d with | .struct _ | .array _ _ => true | _ => false) = true) (hi : (P.info? ty).map (·.size) = some cs.size) :
    (results fn tmps).run P w = .ok (.tuple #[.agg cs, v]) w := by
  have hp' : tmps[p]?.getD undef = .pointer (some ⟨g, 0, none⟩) := by simpa using hp
  have hq' : tmps[q]?.getD undef = v := by simpa using hq
  simp [results, h, hp', hq', asAddr, run_loadVar_row w g t ty cs fr d hg hu hd hi]
theorem three_set {w : World} {g : Nat} {u v x : Value} {t : TypeId} (a b c : Value) (h : w.heap[g]? = some (.cells #[u, v, x] t (0, 0))) :
    (((w.setCell ⟨g, 0, none⟩ a).setCell ⟨g, 1, none⟩ b).setCell ⟨g, 2, none⟩ c).heap[g]? = some (.cells #[a, b, c] t (0, 0)) ∧ Moves (fun k => k = g) w (((w.setCell ⟨g, 0, none⟩ a).setCell ⟨g, 1, none⟩ b).setCell ⟨g, 2, none⟩ c) := by
  have h1 : (w.setCell ⟨g, 0, none⟩ a).heap[g]? = some (.cells #[a, v, x] t (0, 0)) := by rw [heap_setCell_same _ _ _ _ _ _ h]; rfl
  have h2 : ((w.setCell ⟨g, 0, none⟩ a).setCell ⟨g, 1, none⟩ b).heap[g]? = some (.cells #[a, b, x] t (0, 0)) := by rw [heap_setCell_same _ _ _ _ _ _ h1]; rfl
  exact ⟨by rw [heap_setCell_same _ _ _ _ _ _ h2]; rfl, ((Moves.setCell (S := fun k => k = g) rfl).trans (Moves.setCell (S := fun k => k = g) rfl)).trans (Moves.setCell (S := fun k => k = g) rfl)⟩
theorem pat_cellsH {w : World} {k : Nat} {st : Bool} {o : Option Addr} {n cap : Nat} (h : w.heap[k]? = some (.cells (patC st o n cap) 40 (0, 0))) : w.cell? ⟨k, 0, none⟩ = some (.bool st) ∧ w.cell? ⟨k, 1, none⟩ = some (.slice o n cap) :=
  ⟨cell_of_row _ _ 0 _ _ _ h, cell_of_row _ _ 1 _ _ _ h⟩
theorem rightB_fits {xs : List ItemP} (h : rightB xs 32 = true) : xs.length ≤ 10 ∧ howP xs ∧ ∀ x ∈ xs, fits64 x := by
  obtain ⟨_, h2, h3⟩ := rightB_parts h
  refine ⟨h2, rightB_how h, fun x hx => ?_⟩
  obtain ⟨h4, h5⟩ := h3 x hx
  unfold rightZ at h4
  have h4 := of_decide_eq_true h4
  have e : (2 : Int) ^ (32 : Int).toNat = 4294967296 := by decide
  rw [e] at h4
  unfold fits64
  omega
set_option maxRecDepth 100000 in
set_option maxHeartbeats 4000000 in
theorem runnerOf_right (st : Bool) (o : Option Addr) (xs : List ItemP) (cap : Nat) (hr : rightB xs 32 = true) (w : World) (hA : AtI w o xs) :
    Calls Tryd.prog 110 #[patV st o xs.length cap] w fun e w' => ∃ M, e = .returned (.tuple #[rnrV st o xs.length cap (.map (some M)), .nilIface]) ∧ w.heap.size ≤ M ∧ WayMap w' M 0 (fun _ => False) ∧ Below w.heap.size w w' := by
  have hn := (rightB_parts hr).2.1
  obtain ⟨P, hP⟩ : ∃ P, (fun (e : Ending) (w' : World) => ∃ M, e = .returned (.tuple #[rnrV st o xs.length cap (.map (some M)), .nilIface]) ∧ w.heap.size ≤ M ∧ WayMap w' M 0 (fun _ => False) ∧ Below w.heap.size w w') = P := ⟨_, rfl⟩
  have HP := Lib.hid hP
  rw [hP]
  obtain ⟨w1, hw1⟩ : ∃ w1, w.alloc (.cells (patC st o xs.length cap) 40 (0, 0)) = w1 := ⟨_, rfl⟩
  have b1 : Below w.heap.size w w1 := by rw [← hw1]; exact (Below.refl _ _).alloc (Nat.le_refl _) _
  have z1 : w1.heap.size = w.heap.size + 1 := by rw [← hw1]; simp
  have r1 : w1.heap[w.heap.size]? = some (.cells (patC st o xs.length cap) 40 (0, 0)) := by rw [← hw1]; exact heap_alloc_new _ _
  obtain ⟨w2, hw2⟩ : ∃ w2, w1.alloc (rnrO false none 0 0 (.map none)) = w2 := ⟨_, rfl⟩
  have b2 : Below w1.heap.size w1 w2 := by rw [← hw2]; exact (Below.refl _ _).alloc (Nat.le_refl _) _
  have r2 : w2.heap[w.heap.size + 1]? = some (rnrO false none 0 0 (.map none)) := by rw [← hw2, ← z1]; exact heap_alloc_new _ _
  have B2 := b1.trans (b2.mono b1.size)
  obtain ⟨c0, c1⟩ := pat_cellsH (row_below r1 b2)
  have z2 : w2.heap.size = w.heap.size + 2 := by rw [← hw2]; simp; omega
  have HR := Lib.hid (Right_anyQ st o xs cap 32 (by omega) w2 (hA.below B2))
  rw [hr] at HR
  obtain ⟨n, hnn⟩ : ∃ n, xs.length = n := ⟨_, rfl⟩
  rw [hnn] at HR c1 hw1 HP r1 ⊢
  have HW1 := Lib.hid hw1
  have HW2 := Lib.hid hw2
  have HB := Lib.hid B2
  have HR1 := Lib.hid (row_below r1 b2)
  have HR2 := Lib.hid r2
  have HZ := Lib.hid z2
  clear hP hw1 hw2 b1 b2 r1 r2 B2 z1 z2 hnn hA hn hr
  have hmm := @run_makeMap Tryd.prog
  go_enter Tryd.func110, Tryd.ntmps110
  go_wp2_with fail
  rw [HW1.out]
  try rw [HW2.out]
  refine HR.out.mono ?_
  rintro e w3 ⟨rfl, b3⟩
  have hr1 := row_below HR1.out b3
  have hr2 := row_below HR2.out b3
  obtain ⟨f0, f1⟩ := pat_cellsH hr1
  obtain ⟨g0, g1, g2⟩ := rnr_cells hr2
  have hz3 : w.heap.size + 1 < w3.heap.size := World.block_lt_of_cell? w3 _ g0
  have WMK : Hid (∀ w6, Moves (fun k => k = w.heap.size + 1) w3 w6 → w6.heap.size = w3.heap.size → P (.returned (.tuple #[rnrV st o n cap (.map (some w3.heap.size)), .nilIface])) (w6.alloc (.map #[] 0))) := Lib.hid fun w6 hm6 h6 => by
    rw [← HP.out]
    have hz := HZ.out
    have h3 := b3.size
    have bm : Below w6.heap.size w6 (w6.alloc (.map #[] 0)) := (Below.refl _ _).alloc (Nat.le_refl _) _
    refine ⟨_, rfl, by omega, by rw [← h6]; exact WayMap.made w6, (Moves.below (HB.out.trans (b3.mono HB.out.size)) (by omega) hm6 (fun k hk => by omega)).trans (bm.mono (by omega))⟩
  obtain ⟨q0, q1, q2⟩ : w3.frozen? ⟨w.heap.size + 1, 0, none⟩ = false ∧ w3.frozen? ⟨w.heap.size + 1, 1, none⟩ = false ∧ w3.frozen? ⟨w.heap.size + 1, 2, none⟩ = false := ⟨frozen_of_row _ _ _ _ _ hr2, frozen_of_row _ _ _ _ _ hr2, frozen_of_row _ _ _ _ _ hr2⟩
  obtain ⟨r6, m6⟩ := three_set (.bool st) (.slice o n cap) (.map (some w3.heap.size)) hr2
  obtain ⟨w6, hw6⟩ : ∃ w6, ((w3.setCell ⟨w.heap.size + 1, 0, none⟩ (.bool st)).setCell ⟨w.heap.size + 1, 1, none⟩ (.slice o n cap)).setCell ⟨w.heap.size + 1, 2, none⟩ (.map (some w3.heap.size)) = w6 := ⟨_, rfl⟩
  rw [hw6] at r6 m6
  have s6 : w6.heap.size = w3.heap.size := by rw [← hw6]; simp
  have FIN := Lib.hid (WMK.out w6 m6 s6)
  have HW6 := Lib.hid hw6
  have HR6 : Hid ((w6.alloc (.map #[] 0)).heap[w.heap.size + 1]? = some (rnrO st o n cap (.map (some w3.heap.size)))) := Lib.hid ((Below.heap_alloc _ _ _ (by omega)).trans r6)
  clear c0 c1 hr1 hr2 b3 r6 m6 s6 hw6
  go_wp2_with fail
  rw [HW6.out]
  exact bodyPost_ret (v := .tuple #[rnrV st o n cap (.map (some w3.heap.size)), .nilIface]) (results_cell_tmpH rfl _ _ (w.heap.size + 1) _ _ _ _ _ rfl rfl HR6.out Tryd.underlying170 rfl (by kernel_rfl)) rfl FIN.out
end Go.Proofs.YtaoooocalpkhjaaDoor
namespace Go.Proofs.YtaoooocalpkhjaaDoor
open Go.RowKit Go.Shelf Go.Maps
attribute [local go_sem] Oper.semAt_some

theorem boxR (W : World) (st : Bool) (o : Option Addr) (n cap : Nat) (m : Value) : ∃ W5, W.alloc (rnrO st o n cap m) = W5 ∧ W5.heap[W.heap.size]? = some (rnrO st o n cap m) ∧ Below W.heap.size W W5 ∧ W5.heap.size = W.heap.size + 1 :=
  ⟨_, rfl, heap_alloc_new _ _, (Below.refl _ _).alloc (Nat.le_refl _) _, by simp⟩
set_option maxRecDepth 100000 in
set_option maxHeartbeats 4000000 in
theorem first_right (st : Bool) (o : Option Addr) (xs : List ItemP) (cap : Nat) (hr : rightB xs 32 = true) (w : World) (hA : AtI w o xs) :
    Calls Tryd.prog 93 #[patV st o xs.length cap] w fun e w' => e = .returned (.tuple #[.int .i64 ((firstS xs : Nat) : Int), .nilIface]) ∧ Below w.heap.size w w' := by
  obtain ⟨w1, hw1⟩ : ∃ w1, w.alloc (.cells (patC st o xs.length cap) 40 (0, 0)) = w1 := ⟨_, rfl⟩
  have b1 : Below w.heap.size w w1 := by rw [← hw1]; exact (Below.refl _ _).alloc (Nat.le_refl _) _
  have r1 : w1.heap[w.heap.size]? = some (.cells (patC st o xs.length cap) 40 (0, 0)) := by rw [← hw1]; exact heap_alloc_new _ _
  obtain ⟨c0, c1⟩ := pat_cellsH r1
  have HR := Lib.hid (runnerOf_right st o xs cap hr w1 (hA.below b1))
  have HF := Lib.hid (fun M W (hb : Below w.heap.size w W) => firstR_any st o xs cap (some M) (rightB_parts hr).2.1 W (hA.below hb))
  obtain ⟨z, hz⟩ : ∃ z, firstS xs = z := ⟨_, rfl⟩
  obtain ⟨n, hn⟩ : ∃ n, xs.length = n := ⟨_, rfl⟩
  rw [hz] at HF ⊢
  rw [hn] at HF HR c1 hw1 ⊢
  have HW1 := Lib.hid hw1
  have HB1 := Lib.hid b1
  clear hw1 b1 r1 hz hn hA hr
  go_enter Tryd.func93, Tryd.ntmps93
  go_wp2_with fail
  rw [HW1.out]
  refine HR.out.mono ?_
  rintro e W3 ⟨M, rfl, hM, hWM, b3⟩
  obtain ⟨W5, hW5, r5, b5, z5⟩ := boxR W3 st o n cap (.map (some M))
  have HW5 := Lib.hid hW5
  have HB3 := Lib.hid (HB1.out.trans (b3.mono HB1.out.size))
  have HB5 := Lib.hid (HB3.out.trans (b5.mono HB3.out.size))
  have HC := Lib.hid (HF.out M W5 HB5.out)
  clear hM hWM b3 hW5 r5 b5 z5
  go_wp2_with fail
  rw [HW5.out]
  refine HC.out.mono ?_
  rintro e W6 ⟨rfl, b6⟩
  have HB6 := Lib.hid (HB5.out.trans (b6.mono HB5.out.size))
  clear b6
  go_wp2_with fail
  exact bodyPost_ret (results_tmp2 (t := 2) (u := 3) rfl _ _ _) rfl ⟨rfl, HB6.out⟩
set_option maxRecDepth 100000 in
set_option maxHeartbeats 4000000 in
theorem Done_right (st : Bool) (o : Option Addr) (xs : List ItemP) (cap : Nat) (hr : rightB xs 32 = true) (s : Int) (w : World) (hA : AtI w o xs) :
    Calls Tryd.prog 98 #[patV st o xs.length cap, .int .i64 s] w fun e w' => e = .returned (.bool (knowsB xs.length s && doneS xs s.toNat)) ∧ Below w.heap.size w w' := by
  obtain ⟨w1, hw1⟩ : ∃ w1, w.alloc (.cells (patC st o xs.length cap) 40 (0, 0)) = w1 := ⟨_, rfl⟩
  have b1 : Below w.heap.size w w1 := by rw [← hw1]; exact (Below.refl _ _).alloc (Nat.le_refl _) _
  have r1 : w1.heap[w.heap.size]? = some (.cells (patC st o xs.length cap) 40 (0, 0)) := by rw [← hw1]; exact heap_alloc_new _ _
  obtain ⟨c0, c1⟩ := pat_cellsH r1
  have HR := Lib.hid (runnerOf_right st o xs cap hr w1 (hA.below b1))
  have hlen := (rightB_parts hr).2.1
  have HF := Lib.hid (fun M W => knowsR_any st o xs.length cap (some M) hlen s W)
  have HD : Hid (∀ M W, knowsB xs.length s = true → Calls Tryd.prog 114 #[rnrV st o xs.length cap (.map (some M)), .int .i64 s] W fun e w' => e = .returned (.bool (doneS xs s.toNat)) ∧ Below W.heap.size W w') := Lib.hid fun M W hk => by
    unfold knowsB at hk
    have hk := of_decide_eq_true hk
    have h22 : 2 ^ (2 * xs.length + 1) ≤ 2 ^ 21 := Nat.pow_le_pow_right (by decide) (by omega)
    have h21 : (2 : Nat) ^ 21 = 2097152 := by decide
    have h32 : (2 : Nat) ^ 32 = 4294967296 := by decide
    have := doneR_any st o xs.length cap (some M) hlen s.toNat (by omega) W
    rwa [Int.toNat_of_nonneg hk.1] at this
  obtain ⟨n, hn⟩ : ∃ n, xs.length = n := ⟨_, rfl⟩
  obtain ⟨b, hb⟩ : ∃ b, knowsB xs.length s = b := ⟨_, rfl⟩
  obtain ⟨d, hd⟩ : ∃ d, doneS xs s.toNat = d := ⟨_, rfl⟩
  rw [hb] at HF HD ⊢
  rw [hd] at HD ⊢
  rw [hn] at HF HR HD c1 hw1 ⊢
  have HW1 := Lib.hid hw1
  have HB1 := Lib.hid b1
  clear hw1 b1 r1 hn hA hr hlen hb hd
  go_enter Tryd.func98, Tryd.ntmps98
  go_wp2_with fail
  rw [HW1.out]
  refine HR.out.mono ?_
  rintro e W3 ⟨M, rfl, hM, hWM, b3⟩
  obtain ⟨W5, hW5, r5, b5, z5⟩ := boxR W3 st o n cap (.map (some M))
  have HW5 := Lib.hid hW5
  have HB3 := Lib.hid (HB1.out.trans (b3.mono HB1.out.size))
  have HB5 := Lib.hid (HB3.out.trans (b5.mono HB3.out.size))
  have HC := Lib.hid (HF.out M W5)
  obtain ⟨f0, f1, f2⟩ := rnr_cells r5
  have HR5 := Lib.hid r5
  clear hM hWM b3 hW5 r5 b5 z5
  go_wp2_with fail
  rw [HW5.out]
  refine HC.out.mono ?_
  rintro e W6 ⟨rfl, b6⟩
  have HB6 := Lib.hid (HB5.out.trans (b6.mono HB5.out.size))
  obtain ⟨g0, g1, g2⟩ := rnr_cells (row_below HR5.out b6)
  clear b6 f0 f1 f2
  cases b with
  | false =>
    go_wp2_with fail
    go_ret
    exact ⟨rfl, HB6.out⟩
  | true =>
    have HE := Lib.hid (HD.out M W6 rfl)
    go_wp2_with fail
    refine HE.out.mono ?_
    rintro e W7 ⟨rfl, b7⟩
    have HB7 := Lib.hid (HB6.out.trans (b7.mono HB6.out.size))
    clear b7
    go_wp2_with fail
    go_ret
    exact ⟨by simp, HB7.out⟩
set_option maxRecDepth 100000 in
set_option maxHeartbeats 4000000 in
theorem First_right (st : Bool) (o : Option Addr) (xs : List ItemP) (cap : Nat) (hr : rightB xs 32 = true) (w : World) (aP aS : Addr) (hQ : GlobH w aP aS) (hA : AtI w o xs) :
    Calls Tryd.prog 72 #[patV st o xs.length cap] w fun e w' => e = .returned (.tuple #[.int .i64 ((firstS xs : Nat) : Int), .int .i64 0]) ∧ Below w.heap.size w w' := by
  obtain ⟨w1, hw1⟩ : ∃ w1, w.alloc (.cells (patC st o xs.length cap) 40 (0, 0)) = w1 := ⟨_, rfl⟩
  have b1 : Below w.heap.size w w1 := by rw [← hw1]; exact (Below.refl _ _).alloc (Nat.le_refl _) _
  have r1 : w1.heap[w.heap.size]? = some (.cells (patC st o xs.length cap) 40 (0, 0)) := by rw [← hw1]; exact heap_alloc_new _ _
  obtain ⟨c0, c1⟩ := pat_cellsH r1
  have HR := Lib.hid (first_right st o xs cap hr w1 (hA.below b1))
  have HNUM := Lib.hid (fun W (hb : Below w.heap.size w W) => number_nilH (hQ.below hb))
  obtain ⟨v, hv⟩ : ∃ v, (.int .i64 ((firstS xs : Nat) : Int) : Value) = v := ⟨_, rfl⟩
  obtain ⟨n, hn⟩ : ∃ n, xs.length = n := ⟨_, rfl⟩
  rw [hv] at HR ⊢
  rw [hn] at HR c1 hw1 ⊢
  have HW1 := Lib.hid hw1
  have HB1 := Lib.hid b1
  have HV := Lib.hid hv
  clear hw1 b1 r1 hn hA hr hQ hv
  go_enter Tryd.func72, Tryd.ntmps72
  go_wp2_with fail
  rw [HW1.out]
  refine HR.out.mono ?_
  rintro e W3 ⟨rfl, b3⟩
  have HB3 := Lib.hid (HB1.out.trans (b3.mono HB1.out.size))
  have HC := Lib.hid (HNUM.out W3 HB3.out)
  clear b3
  go_wp2_with fail
  refine HC.out.mono ?_
  rintro e _ ⟨rfl, rfl⟩
  go_wp2_with fail
  exact bodyPost_ret (results_tmp2 (t := 2) (u := 3) rfl _ _ _) rfl ⟨rfl, HB3.out⟩
set_option maxRecDepth 100000 in
set_option maxHeartbeats 4000000 in
theorem stepped_right (st : Bool) (o : Option Addr) (xs : List ItemP) (cap : Nat) (hr : rightB xs 32 = true) (s c : Int) (hk : knowsB xs.length s = true) (w : World) (aP aS : Addr) (hQ : GlobH w aP aS) (hA : AtI w o xs) :
    Calls Tryd.prog 112 #[patV st o xs.length cap, .int .i64 s, .int .i64 c] w fun e w' => e = .returned (.tuple #[.int .i64 ((stepS xs st c s.toNat : Nat) : Int), .nilIface]) ∧ Below w.heap.size w w' := by
  obtain ⟨w1, hw1⟩ : ∃ w1, w.alloc (.cells (patC st o xs.length cap) 40 (0, 0)) = w1 := ⟨_, rfl⟩
  have b1 : Below w.heap.size w w1 := by rw [← hw1]; exact (Below.refl _ _).alloc (Nat.le_refl _) _
  have r1 : w1.heap[w.heap.size]? = some (.cells (patC st o xs.length cap) 40 (0, 0)) := by rw [← hw1]; exact heap_alloc_new _ _
  obtain ⟨c0, c1⟩ := pat_cellsH r1
  have HR := Lib.hid (runnerOf_right st o xs cap hr w1 (hA.below b1))
  obtain ⟨hlen, hhow, hfit⟩ := rightB_fits hr
  have HF := Lib.hid (fun M W => knowsR_any st o xs.length cap (some M) hlen s W)
  rw [hk] at HF
  have HST : Hid (∀ M W, w.heap.size ≤ M → Below w.heap.size w W → WayMap W M 0 (fun _ => False) → Calls Tryd.prog 122 #[rnrV st o xs.length cap (.map (some M)), .int .i64 s, .int .i64 c] W fun e w' => e = .returned (.int .i64 ((stepS xs st c s.toNat : Nat) : Int)) ∧ Below w.heap.size w w') := Lib.hid fun M W hM hb hw => by
    unfold knowsB at hk
    have hk := of_decide_eq_true hk
    have hp : 0 < 2 ^ (2 * xs.length + 1) := Nat.pow_pos (by decide)
    have := stepR_any st o xs cap M 0 (fun _ => False) s.toNat c hlen hhow hfit (by omega) (by omega) w W aP aS hQ hA hb hM hw (fun _ h => h.elim)
    rw [Int.toNat_of_nonneg hk.1] at this
    refine this.mono ?_
    rintro e w' ⟨rfl, hm, _⟩
    exact ⟨rfl, Moves.below hb hb.size hm (fun k hk => by omega)⟩
  obtain ⟨z, hz⟩ : ∃ z, stepS xs st c s.toNat = z := ⟨_, rfl⟩
  rw [hz] at HST ⊢
  obtain ⟨n, hn⟩ : ∃ n, xs.length = n := ⟨_, rfl⟩
  rw [hn] at HF HST HR c1 hw1 ⊢
  have HW1 := Lib.hid hw1
  have HB1 := Lib.hid b1
  have HGL := Lib.hid hQ
  clear hw1 b1 r1 hn hA hr hQ hlen hhow hfit hk hz
  go_enter Tryd.func112, Tryd.ntmps112
  go_wp2_with fail
  refine wp_scope_straight ?_
  go_wp2_with fail
  rw [HW1.out]
  refine HR.out.mono ?_
  rintro e W3 ⟨M, rfl, hM, hWM, b3⟩
  obtain ⟨W5, hW5, r5, b5, z5⟩ := boxR W3 st o n cap (.map (some M))
  have HW5 := Lib.hid hW5
  have HB3 := Lib.hid (HB1.out.trans (b3.mono HB1.out.size))
  have HB5 := Lib.hid (HB3.out.trans (b5.mono HB3.out.size))
  have HC := Lib.hid (HF.out M W5)
  obtain ⟨f0, f1, f2⟩ := rnr_cells r5
  have HR5 := Lib.hid r5
  have HWM := Lib.hid (hWM.below b5)
  have hM1 : w.heap.size ≤ M := Nat.le_trans HB1.out.size hM
  clear hM hWM b3 hW5 r5 b5 z5
  go_wp2_with fail
  rw [HW5.out]
  refine HC.out.mono ?_
  rintro e W6 ⟨rfl, b6⟩
  have HB6 := Lib.hid (HB5.out.trans (b6.mono HB5.out.size))
  obtain ⟨g0, g1, g2⟩ := rnr_cells (row_below HR5.out b6)
  have HE := Lib.hid (HST.out M W6 hM1 HB6.out (HWM.out.below b6))
  clear b6 f0 f1 f2 hM1
  go_wp2_with fail
  refine HE.out.mono ?_
  rintro e W7 ⟨rfl, b7⟩
  have HB7 := Lib.hid b7
  clear b7
  go_wp2_with fail
  rw [Exit.noGoto_ret]
  exact bodyPost_ret (results_tmp2 (t := 6) (u := 7) rfl _ _ _) rfl ⟨rfl, HB7.out⟩
set_option maxRecDepth 100000 in
set_option maxHeartbeats 4000000 in
theorem Step_right (st : Bool) (o : Option Addr) (xs : List ItemP) (cap : Nat) (hr : rightB xs 32 = true) (s c : Int) (hk : knowsB xs.length s = true) (w : World) (aP aS : Addr) (hQ : GlobH w aP aS) (hA : AtI w o xs) :
    Calls Tryd.prog 97 #[patV st o xs.length cap, .int .i64 s, .int .i64 c] w fun e w' => e = .returned (.tuple #[.int .i64 ((stepS xs st c s.toNat : Nat) : Int), .int .i64 0]) ∧ Below w.heap.size w w' := by
  obtain ⟨w1, hw1⟩ : ∃ w1, w.alloc (.cells (patC st o xs.length cap) 40 (0, 0)) = w1 := ⟨_, rfl⟩
  have b1 : Below w.heap.size w w1 := by rw [← hw1]; exact (Below.refl _ _).alloc (Nat.le_refl _) _
  have r1 : w1.heap[w.heap.size]? = some (.cells (patC st o xs.length cap) 40 (0, 0)) := by rw [← hw1]; exact heap_alloc_new _ _
  obtain ⟨c0, c1⟩ := pat_cellsH r1
  have HR := Lib.hid (stepped_right st o xs cap hr s c hk w1 aP aS (hQ.below b1) (hA.below b1))
  have HNUM := Lib.hid (fun W (hb : Below w.heap.size w W) => number_nilH (hQ.below hb))
  obtain ⟨v, hv⟩ : ∃ v, (.int .i64 ((stepS xs st c s.toNat : Nat) : Int) : Value) = v := ⟨_, rfl⟩
  obtain ⟨n, hn⟩ : ∃ n, xs.length = n := ⟨_, rfl⟩
  rw [hv] at HR ⊢
  rw [hn] at HR c1 hw1 ⊢
  have HW1 := Lib.hid hw1
  have HB1 := Lib.hid b1
  have HV := Lib.hid hv
  clear hw1 b1 r1 hn hA hr hQ hv hk
  go_enter Tryd.func97, Tryd.ntmps97
  go_wp2_with fail
  rw [HW1.out]
  refine HR.out.mono ?_
  rintro e W3 ⟨rfl, b3⟩
  have HB3 := Lib.hid (HB1.out.trans (b3.mono HB1.out.size))
  have HC := Lib.hid (HNUM.out W3 HB3.out)
  clear b3
  go_wp2_with fail
  refine HC.out.mono ?_
  rintro e _ ⟨rfl, rfl⟩
  go_wp2_with fail
  exact bodyPost_ret (results_tmp2 (t := 6) (u := 7) rfl _ _ _) rfl ⟨rfl, HB3.out⟩
end Go.Proofs.YtaoooocalpkhjaaDoor
namespace Go.Proofs.YtaoooocalpkhjaaDoor
open Go.RowKit Go.Shelf Go.Maps
attribute [local go_sem] Oper.semAt_some

def AppLaw (t e : TypeId) (V : Value → Prop) : Prop := ∀ (W : World) (base k : Nat) (v : Value) (xs : List Value) (u : Value), V u → W.ownsRow base e 1 v k xs → k ≤ 2000000 → base ≤ W.heap.size →
  ∃ g cap w6, (appSem #[t, t] t #[v, .slice (some ⟨W.heap.size, 0, none⟩) 1 1]).run Tryd.prog (W.alloc (.cells #[u] e)) = .ok (.slice (some ⟨g, 0, none⟩) (k + 1) cap) w6 ∧
      w6.ownsRow base e 1 (.slice (some ⟨g, 0, none⟩) (k + 1) cap) (k + 1) (xs ++ [u]) ∧ (W.alloc (.cells #[u] e)).grownBy w6 v.ownBlock ∧ (v.ownBlock = some g ∨ W.heap.size < g)
theorem appLaw_of {t e : TypeId} {z : Value} {b : Nat} {V : Value → Prop} (hinf : (Tryd.prog.info? e).map (fun i => (i.zero, i.size, i.bytes)) = some (some z, 1, b)) (ht : Tryd.prog.underlying t = some (.slice e)) (hb : b ≤ 8) (hz : z.cells.size = 1) (hV : ∀ u, V u → u.oneCell' = true) : AppLaw t e V := fun W base k v xs u hu ho hk hbase => by
  obtain ⟨i0, hi, hz0, hz1, hz2⟩ := info_parts hinf
  have hb1 : Below W.heap.size W (W.alloc (.cells #[u] e)) := (Below.refl _ _).alloc (Nat.le_refl _) _
  obtain ⟨v', w6, hr, h2, h3, h4, h5⟩ := run_append_own_at (P := Tryd.prog) _ base t t e i0 z 1 b ht hi hz0 hz1 hz2 hz (by decide) v k xs (own_below ho hb1) ⟨W.heap.size, 0, none⟩ 1 1 [u] rfl
    (cell_one_new _ _ _) (by simpa using hV u hu) (by unfold maxLen; omega) (by
      have : (k + 1) * b ≤ 2000001 * 8 := Nat.mul_le_mul (by omega) hb
      omega) (by simp; omega)
  obtain ⟨g, cap, rfl⟩ := ownsRow_succ h2
  refine ⟨g, cap, w6, hr, h2, h3, ?_⟩
  rcases h5 with h | h
  · exact .inl (h.symm.trans (by simp [Value.ownBlock]))
  · right
    have : g = (W.alloc (.cells #[u] e)).heap.size := by simpa [Value.ownBlock] using h
    rw [World.size_alloc] at this
    omega
theorem infoI64H : (Tryd.prog.info? 2).map (fun i => (i.zero, i.size, i.bytes)) = some (some (.int .i64 0), 1, 8) := by kernel_rfl
theorem app_i64 : AppLaw 23 2 fun u => ∃ s : Int, u = .int .i64 s := appLaw_of infoI64H Tryd.underlying23 (by decide) rfl (by rintro _ ⟨s, rfl⟩; rfl)
structure ToldI (w : World) (a4 a8 a10 Rb Lb : Nat) (st : Bool) (o : Option Addr) (n cap M : Nat) (tf t e : TypeId) (fv : Value) (vals : List Value) (X : Nat → Prop) (W : World) : Prop where
  rb : W.heap[a8]? = some (rnrO st o n cap (.map (some M)))
  fb : Boxed W a4 tf fv
  ab : ∃ v, Boxed W a10 t v ∧ W.ownsRow (w.heap.size + 1) e 1 v vals.length vals ∧ ∀ k, v.ownBlock = some k → ¬ X k ∧ k ≠ Rb ∧ k ≠ Lb ∧ k ≠ a4 ∧ k ≠ a8 ∧ k ≠ a10
  nx : ¬ X a4 ∧ ¬ X a8 ∧ ¬ X a10
  lo : ∀ k, X k → w.heap.size ≤ k
  bw : Below w.heap.size w W
  lt : Rb < W.heap.size ∧ Lb < W.heap.size
theorem ToldI.moves {w A B : World} {a4 a8 a10 Rb Lb : Nat} {st : Bool} {o : Option Addr} {n cap M : Nat} {tf t e : TypeId} {fv : Value} {vals : List Value} {X X' : Nat → Prop} (h : ToldI w a4 a8 a10 Rb Lb st o n cap M tf t e fv vals X A) (hm : Moves X A B) (hX : ∀ k, X' k → (X k ∨ A.heap.size ≤ k) ∧ k < B.heap.size) : ToldI w a4 a8 a10 Rb Lb st o n cap M tf t e fv vals X' B := by
  obtain ⟨v, h1, h2, h3⟩ := h.ab
  have l4 := (Array.getElem?_eq_some_iff.1 (show A.heap[a4]? = _ from h.fb)).1
  have l8 := (Array.getElem?_eq_some_iff.1 h.rb).1
  have l10 := (Array.getElem?_eq_some_iff.1 (show A.heap[a10]? = _ from h1)).1
  have old : ∀ k, k < A.heap.size → ¬ X k → ¬ X' k := fun k hk hx hx' => by
    rcases (hX k hx').1 with h5 | h5
    · exact hx h5
    · omega
  have := hm.size
  exact ⟨row_keep h.rb hm h.nx.2.1, row_keep h.fb hm h.nx.1, ⟨v, row_keep h1 hm h.nx.2.2, own_movesH h2 hm fun k hk => (h3 k hk).1, fun k hk => ⟨old k (h2.lt k hk).2 (h3 k hk).1, (h3 k hk).2⟩⟩, ⟨old _ l4 h.nx.1, old _ l8 h.nx.2.1, old _ l10 h.nx.2.2⟩, fun k hk => by
    rcases (hX k hk).1 with h5 | h5
    · exact h.lo k h5
    · have := h.bw.size; omega, Moves.below h.bw h.bw.size hm h.lo, ⟨by have := h.lt; omega, by have := h.lt; omega⟩⟩
theorem ToldI.app {w W : World} {a4 a8 a10 Rb Lb : Nat} {st : Bool} {o : Option Addr} {n cap M : Nat} {tf t e : TypeId} {fv : Value} {vals : List Value} {X : Nat → Prop} {V : Value → Prop} (hA : AppLaw t e V) (h : ToldI w a4 a8 a10 Rb Lb st o n cap M tf t e fv vals X W) (ha : w.heap.size ≤ a10 ∧ a10 ≠ a4 ∧ a10 ≠ a8 ∧ a10 ≠ Rb ∧ a10 ≠ Lb) (hXl : ∀ k, X k → k < W.heap.size) (hl : vals.length ≤ 2000) (u : Value) (hu : V u) :
    ∃ o' c' g cap' w6, W.cell? ⟨a10, 0, none⟩ = some (.slice o' vals.length c') ∧ (appSem #[t, t] t #[.slice o' vals.length c', .slice (some ⟨W.heap.size, 0, none⟩) 1 1]).run Tryd.prog (W.alloc (.cells #[u] e)) = .ok (.slice (some ⟨g, 0, none⟩) (vals.length + 1) cap') w6 ∧
      w6.cell? ⟨a10, 0, none⟩ = some (.slice o' vals.length c') ∧ w6.frozen? ⟨a10, 0, none⟩ = false ∧
      ToldI w a4 a8 a10 Rb Lb st o n cap M tf t e fv (vals ++ [u]) X (w6.setCell ⟨a10, 0, none⟩ (.slice (some ⟨g, 0, none⟩) (vals.length + 1) cap')) ∧
      Moves (fun k => ¬ X k ∧ ¬ SetsDep w Rb Lb k) W (w6.setCell ⟨a10, 0, none⟩ (.slice (some ⟨g, 0, none⟩) (vals.length + 1) cap')) ∧ w6.heap[a8]? = some (rnrO st o n cap (.map (some M))) ∧ Boxed w6 a4 tf fv := by
  obtain ⟨v, h1, h2, h3⟩ := h.ab
  have l4 := (Array.getElem?_eq_some_iff.1 (show W.heap[a4]? = _ from h.fb)).1
  have l8 := (Array.getElem?_eq_some_iff.1 h.rb).1
  have l10 := (Array.getElem?_eq_some_iff.1 (show W.heap[a10]? = _ from h1)).1
  obtain ⟨o', c', rfl⟩ := own_form h2
  have hws := h.bw.size
  obtain ⟨g, cap', w6, hrun, hown, hgr, hwh⟩ := hA W _ _ _ _ u hu h2 (by omega) (by omega)
  have b1 : Below W.heap.size W (W.alloc (.cells #[u] e)) := (Below.refl _ _).alloc (Nat.le_refl _) _
  have hlt := h2.lt
  have m6 : Moves (fun k => (Value.slice o' vals.length c').ownBlock = some k) W w6 := (Moves.of_below b1).trans (moves_grownH hgr)
  have n6 : Boxed w6 a10 t (.slice o' vals.length c') := row_keep h1 m6 (fun e => (h3 _ e).2.2.2.2.2 rfl)
  have m10 : Moves (fun k => k = a10) w6 (w6.setCell ⟨a10, 0, none⟩ (.slice (some ⟨g, 0, none⟩) (vals.length + 1) cap')) := Moves.setCell rfl
  have MV : Moves (fun k => k = a10 ∨ (Value.slice o' vals.length c').ownBlock = some k) W (w6.setCell ⟨a10, 0, none⟩ (.slice (some ⟨g, 0, none⟩) (vals.length + 1) cap')) := (m6.mono fun k e => .inr e).trans (m10.mono fun k e => .inl e)
  have hg : ¬ X g ∧ g ≠ Rb ∧ g ≠ Lb ∧ g ≠ a4 ∧ g ≠ a8 ∧ g ≠ a10 := by
    rcases hwh with h5 | h5
    · exact h3 g h5
    · have := h.lt
      exact ⟨fun hx => by have := hXl g hx; omega, by omega, by omega, by omega, by omega, by omega⟩
  have s6 := m6.size
  refine ⟨o', c', g, cap', w6, h1.cell, hrun, n6.cell, n6.frozen, ⟨row_keep h.rb MV ?_, row_keep h.fb MV ?_, ⟨_, n6.set _, ?_, ?_⟩, h.nx, h.lo, Moves.below h.bw hws MV ?_, ?_⟩, MV.mono ?_, row_keep h.rb m6 (fun e => (h3 _ e).2.2.2.2.1 rfl), row_keep h.fb m6 (fun e => (h3 _ e).2.2.2.1 rfl)⟩
  · rintro (e1 | e1)
    · exact ha.2.2.1 e1.symm
    · exact (h3 _ e1).2.2.2.2.1 rfl
  · rintro (e1 | e1)
    · exact ha.2.1 e1.symm
    · exact (h3 _ e1).2.2.2.1 rfl
  · have := own_movesH hown m10 (fun k hk => by
      obtain rfl : g = k := by simpa [Value.ownBlock] using hk
      exact hg.2.2.2.2.2)
    rw [List.length_append]
    exact this
  · intro k hk
    obtain rfl : g = k := by simpa [Value.ownBlock] using hk
    exact hg
  · rintro k (rfl | hk)
    · exact ha.1
    · have := (hlt k hk).1; omega
  · have := h.lt
    have := MV.size
    omega
  · rintro k (rfl | hk)
    · exact ⟨h.nx.2.2, by rintro (h5 | h5 | h5) <;> omega⟩
    · have h6 := h3 k hk
      have := (hlt k hk).1
      exact ⟨h6.1, by rintro (h5 | h5 | h5); · omega
                      · exact h6.2.1 h5
                      · exact h6.2.2.1 h5⟩
end Go.Proofs.YtaoooocalpkhjaaDoor
namespace Go.Proofs.YtaoooocalpkhjaaDoor

abbrev PatP := Bool × List ItemP
abbrev RuleP := PatP × PatP × Bool
def rightU (n : Int) (x : RuleP) : Bool := rightB x.1.2 n && rightB x.2.1.2 n && !x.2.1.1
def rightsU (l : List RuleP) (n : Int) : Bool := decide (1 ≤ n) && decide (n ≤ 32) && decide (l.length ≤ 40) && l.all (rightU n)
theorem rights_of {l : List RuleP} {n : Int} (h1 : 1 ≤ n) (h2 : n ≤ 32) (h3 : l.length ≤ 40) (h4 : ∀ x ∈ l, rightU n x = true) : rightsU l n = true := by
  unfold rightsU
  rw [decide_eq_true h1, decide_eq_true h2, decide_eq_true h3, List.all_eq_true.2 h4]; rfl
theorem rights_parts {l : List RuleP} {n : Int} (h : rightsU l n = true) : 1 ≤ n ∧ n ≤ 32 ∧ l.length ≤ 40 ∧ ∀ x ∈ l, rightU n x = true := by
  unfold rightsU at h
  simp only [Bool.and_eq_true, decide_eq_true_eq, List.all_eq_true] at h
  exact ⟨h.1.1.1, h.1.1.2, h.1.2, h.2⟩
theorem rights_bad {l : List RuleP} {n : Int} {j : Nat} {x : RuleP} (hx : l[j]? = some x) (h : rightU n x = false) : rightsU l n = false := by
  cases e : rightsU l n with
  | false => rfl
  | true =>
    have := (rights_parts e).2.2.2 x (List.mem_of_getElem? hx)
    rw [h] at this; cases this
theorem rights_not {l : List RuleP} {n : Int} (h : n < 1 ∨ 32 < n ∨ 40 < l.length) : rightsU l n = false := by
  cases e : rightsU l n with
  | false => rfl
  | true =>
    obtain ⟨h1, h2, h3, _⟩ := rights_parts e
    omega
end Go.Proofs.YtaoooocalpkhjaaDoor
namespace Go.Proofs.YtaoooocalpkhjaaDoor
open Go.RowKit Go.Shelf Go.Maps
attribute [local go_sem] Oper.semAt_some

abbrev PatX := Bool × Option Addr × List ItemP × Nat
abbrev RulX := PatX × PatX × Bool
abbrev plP (p : PatX) : PatP := (p.1, p.2.2.1)
abbrev plX (x : RulX) : RuleP := (plP x.1, plP x.2.1, x.2.2)
abbrev rulC (x : RulX) : Array Value := #[.bool x.1.1, .slice x.1.2.1 x.1.2.2.1.length x.1.2.2.2, .bool x.2.1.1, .slice x.2.1.2.1 x.2.1.2.2.1.length x.2.1.2.2.2, .bool x.2.2]
abbrev rulV (x : RulX) : Value := .agg (rulC x)
abbrev rulO (x : RulX) : Obj := .cells (rulC x) 42 (0, 0)
def AtC (w : World) (o : Option Addr) (l : List RulX) : Prop := 0 < l.length → ∃ g off, o = some ⟨g, off, none⟩ ∧ ∀ (j : Nat) (x : RulX), l[j]? = some x →
  w.cell? ⟨g, off + j * 5, none⟩ = some (.bool x.1.1) ∧ w.cell? ⟨g, off + j * 5 + 1, none⟩ = some (.slice x.1.2.1 x.1.2.2.1.length x.1.2.2.2) ∧ w.cell? ⟨g, off + j * 5 + 2, none⟩ = some (.bool x.2.1.1) ∧
  w.cell? ⟨g, off + j * 5 + 3, none⟩ = some (.slice x.2.1.2.1 x.2.1.2.2.1.length x.2.1.2.2.2) ∧ w.cell? ⟨g, off + j * 5 + 4, none⟩ = some (.bool x.2.2)
def ItsC (w : World) (l : List RulX) : Prop := ∀ x ∈ l, (AtI w x.1.2.1 x.1.2.2.1 ∧ x.1.2.2.1.length ≤ x.1.2.2.2) ∧ (AtI w x.2.1.2.1 x.2.1.2.2.1 ∧ x.2.1.2.2.1.length ≤ x.2.1.2.2.2)
def FewC (l : List RulX) : Prop := ∀ x ∈ l, x.1.2.2.1.length ≤ 1000 ∧ x.2.1.2.2.1.length ≤ 1000
theorem AtC.moves {S : Nat → Prop} {w w' : World} {o : Option Addr} {l : List RulX} (h : AtC w o l) (hm : Moves S w w') (hs : 0 < l.length → ∀ k, inQ o k → ¬ S k) : AtC w' o l := fun hn => by
  obtain ⟨g, off, rfl, hc⟩ := h hn
  have hg : ¬ S g := hs hn g ⟨_, rfl, rfl⟩
  refine ⟨g, off, rfl, fun j x hx => ?_⟩
  obtain ⟨h0, h1, h2, h3, h4⟩ := hc j x hx
  exact ⟨cell_movesQ hm hg h0, cell_movesQ hm hg h1, cell_movesQ hm hg h2, cell_movesQ hm hg h3, cell_movesQ hm hg h4⟩
theorem AtC.lt {w : World} {o : Option Addr} {l : List RulX} (h : AtC w o l) (hn : 0 < l.length) {k : Nat} (hk : inQ o k) : k < w.heap.size := by
  obtain ⟨g, off, rfl, hc⟩ := h hn
  obtain ⟨a, ha, rfl⟩ := hk
  cases ha
  exact World.block_lt_of_cell? w _ (hc 0 _ (List.getElem?_eq_getElem hn)).1
theorem AtC.below {w w' : World} {o : Option Addr} {l : List RulX} (h : AtC w o l) (hb : Below w.heap.size w w') : AtC w' o l := fun hn => by
  obtain ⟨g, off, ho, hc⟩ := h hn
  refine ⟨g, off, ho, fun j x hx => ?_⟩
  obtain ⟨h0, h1, h2, h3, h4⟩ := hc j x hx
  exact ⟨cell_keepQ hb h0, cell_keepQ hb h1, cell_keepQ hb h2, cell_keepQ hb h3, cell_keepQ hb h4⟩
theorem ItsC.below {w w' : World} {l : List RulX} (h : ItsC w l) (hb : Below w.heap.size w w') : ItsC w' l := fun x hx => by
  obtain ⟨⟨h0, h1⟩, h2, h3⟩ := h x hx
  exact ⟨⟨h0.below hb, h1⟩, h2.below hb, h3⟩
theorem rul_cells {w : World} {k : Nat} {x : RulX} (h : w.heap[k]? = some (rulO x)) :
    w.cell? ⟨k, 0, none⟩ = some (.bool x.1.1) ∧ w.cell? ⟨k, 1, none⟩ = some (.slice x.1.2.1 x.1.2.2.1.length x.1.2.2.2) ∧ w.cell? ⟨k, 2, none⟩ = some (.bool x.2.1.1) ∧ w.cell? ⟨k, 3, none⟩ = some (.slice x.2.1.2.1 x.2.1.2.2.1.length x.2.1.2.2.2) ∧ w.cell? ⟨k, 4, none⟩ = some (.bool x.2.2) := by
  refine ⟨?_, ?_, ?_, ?_, ?_⟩
  · rw [cell_of_row _ _ 0 _ _ _ h]; rfl
  · rw [cell_of_row _ _ 1 _ _ _ h]; rfl
  · rw [cell_of_row _ _ 2 _ _ _ h]; rfl
  · rw [cell_of_row _ _ 3 _ _ _ h]; rfl
  · rw [cell_of_row _ _ 4 _ _ _ h]; rfl

theorem five_cells {w : World} {k : Nat} {t : TypeId} {a b c d e : Value} (h : w.heap[k]? = some (.cells #[a, b, c, d, e] t (0, 0))) :
    w.cell? ⟨k, 0, none⟩ = some a ∧ w.cell? ⟨k, 1, none⟩ = some b ∧ w.cell? ⟨k, 2, none⟩ = some c ∧ w.cell? ⟨k, 3, none⟩ = some d ∧ w.cell? ⟨k, 4, none⟩ = some e := by
  refine ⟨?_, ?_, ?_, ?_, ?_⟩
  · rw [cell_of_row _ _ 0 _ _ _ h]; rfl
  · rw [cell_of_row _ _ 1 _ _ _ h]; rfl
  · rw [cell_of_row _ _ 2 _ _ _ h]; rfl
  · rw [cell_of_row _ _ 3 _ _ _ h]; rfl
  · rw [cell_of_row _ _ 4 _ _ _ h]; rfl
abbrev encJ (x : RulX × Nat) : Array Value := #[.int .i64 (x.2 : Nat), rulV x.1]
theorem zip_preJ {α : Type} {l : List α} {pre : List (α × Nat)} {x : α} {n : Nat} (h : pre ++ [(x, n)] <+: l.zipIdx) : n = pre.length ∧ l[n]? = some x ∧ pre = (l.take n).zipIdx := by
  obtain ⟨t, ht⟩ := h
  have h1 : (l.zipIdx)[pre.length]? = some (x, n) := by rw [← ht]; simp
  rw [List.getElem?_zipIdx] at h1
  cases hl : l[pre.length]? with
  | none => rw [hl] at h1; cases h1
  | some y =>
    rw [hl] at h1
    simp at h1
    obtain ⟨rfl, rfl⟩ := h1
    refine ⟨rfl, hl, ?_⟩
    apply List.ext_getElem?
    intro i
    rw [List.getElem?_zipIdx]
    rcases Nat.lt_or_ge i pre.length with hi | hi
    · have h2 : (l.zipIdx)[i]? = pre[i]? := by rw [← ht, List.append_assoc, List.getElem?_append_left hi]
      rw [← h2, List.getElem?_zipIdx, List.getElem?_take_of_lt hi]
    · rw [List.getElem?_eq_none hi, List.getElem?_eq_none (by rw [List.length_take]; omega)]
      rfl
theorem zip_moreJ {α : Type} {l : List α} {j : Nat} {x : α} (h : l[j]? = some x) : (l.take j).zipIdx ++ [(x, j)] = (l.take (j + 1)).zipIdx := by
  have hlt := (List.getElem?_eq_some_iff.1 h).1
  rw [List.take_add_one, h, List.zipIdx_append, List.length_take, Nat.min_eq_left (by omega)]
  simp
theorem zip_prefixJ {α : Type} (l : List α) (j : Nat) : (l.take j).zipIdx <+: l.zipIdx := by
  refine ⟨(l.drop j).zipIdx ((l.take j).length), ?_⟩
  have := List.zipIdx_append (xs := l.take j) (ys := l.drop j) (k := 0)
  rw [List.take_append_drop] at this
  rw [this]
  simp

abbrev DepJ (cb : Nat) (o : Option Addr) (l : List RulX) (k : Nat) : Prop := k = cb ∨ (0 < l.length ∧ inQ o k)
set_option maxRecDepth 100000 in
set_option maxHeartbeats 2000000 in
theorem seqRules {cb cap : Nat} {o : Option Addr} {l : List RulX} {w : World} (hn : l.length ≤ 1000000) (hc : w.heap[cb]? = some (.cells #[.slice o l.length cap] 117 (0, 0))) (hA : AtC w o l) :
    SeqOfX Tryd.prog 5 108 #[.pointer (some ⟨cb, 0, none⟩)] encJ (fun _ => False) (DepJ cb o l) l.zipIdx w := by
  intro W lp J Jx hm hJ hJx hY h0
  have h1 : 1 ≤ 5 := by omega
  have c0 : W.cell? ⟨cb, 0, none⟩ = some (.slice o l.length cap) := by rw [cell_of_row _ _ 0 _ _ _ (row_keep hc hm id)]; rfl
  have A0 : AtC W o l := hA.moves hm fun _ _ _ => id
  obtain ⟨n, hnn⟩ : ∃ n, l.length = n := ⟨_, rfl⟩
  rw [hnn] at c0 hn
  refine callsIn_of_wp Tryd.func108 rfl trivial ?_ rfl
  simp only [Tryd.ntmps108, List.size_toArray, List.length_cons, List.length_nil, Nat.reduceAdd, Nat.reduceSub, Array.replicate_succ, Array.replicate_zero, List.push_toArray, List.append_toArray, List.nil_append, List.cons_append]
  have HJ := Lib.hid hJ
  have HY := Lib.hid hY
  have HN := Lib.hid hnn
  have HA := Lib.hid A0
  clear hJ hJx hY hm hnn hA A0 hc
  gi_wp2
  gi_loopg [7] n (fun k v wr => ∃ (j : Nat), v = .int .i64 (j : Nat) ∧ j ≤ n ∧ k = n - j ∧ Hid (AtC wr o l) ∧ J (fun _ => False) (l.take j).zipIdx wr)
  case atStart => exact ⟨0, rfl, Nat.zero_le _, rfl, HA, by simpa using h0⟩
  case round =>
    obtain ⟨j, rfl, hj, rfl, ha, hJ'⟩ := hrel
    rcases Nat.lt_or_ge j n with hlt | hge
    · obtain ⟨x, hx⟩ : ∃ x, l[j]? = some x := ⟨_, List.getElem?_eq_getElem (by rw [HN.out]; exact hlt)⟩
      obtain ⟨g, off, rfl, hc⟩ := ha.out (by rw [HN.out]; omega)
      obtain ⟨k0, k1, k2, k3, k4⟩ := hc j x hx
      have hg := World.block_lt_of_cell? wr _ k0
      have HX := Lib.hid hx
      obtain ⟨wb, hwb⟩ : ∃ wb, wr.alloc (rulO x) = wb := ⟨_, rfl⟩
      have hbb : Below wr.heap.size wr wb := by rw [← hwb]; exact (Below.refl _ _).alloc (Nat.le_refl _) _
      have hJb := HJ.out _ (fun _ => False) _ _ wb hJ' (Moves.of_below hbb) (fun k h => h.elim)
      have hpx : (l.take j).zipIdx ++ [(x, j)] <+: l.zipIdx := by rw [zip_moreJ hx]; exact zip_prefixJ l (j + 1)
      obtain ⟨fn, tmps, assign, body, hy, hR⟩ := HY.out _ _ _ _ hpx hJb
      replace hy : (Instr.yield lp #[.int .i64 (j : Nat), .agg #[.bool x.1.1, .slice x.1.2.1 x.1.2.2.1.length x.1.2.2.2, .bool x.2.1.1, .slice x.2.1.2.1 x.2.1.2.2.1.length x.2.1.2.2.2, .bool x.2.2]]).run Tryd.prog wb = .ok (.round lp fn tmps assign body) wb := hy
      obtain ⟨q0, q1, q2, q3, q4⟩ := rul_cells (w := wb) (k := wr.heap.size) (x := x) (by rw [← hwb]; exact heap_alloc_new _ _)
      have hab := Lib.hid (ha.out.below hbb)
      obtain ⟨⟨s1, p1, xs1, c1⟩, ⟨s2, p2, xs2, c2⟩, br⟩ := x
      replace hwb : wr.alloc (.cells #[.bool s1, .slice p1 xs1.length c1, .bool s2, .slice p2 xs2.length c2, .bool br] 42) = wb := hwb
      obtain ⟨m1, hm1⟩ : ∃ m, xs1.length = m := ⟨_, rfl⟩
      obtain ⟨m2, hm2⟩ : ∃ m, xs2.length = m := ⟨_, rfl⟩
      simp only [hm1, hm2] at k0 k1 k2 k3 k4 hy q0 q1 q2 q3 q4 hwb
      clear hc hx hpx hJb hm1 hm2
      gi_wp2
      refine hR.mono ?_
      rintro e w3 (⟨rfl, hJ4, hk4⟩ | ⟨rfl, hJx4, _⟩)
      · have HX2 := Lib.hid (zip_moreJ HX.out)
        gi_wp2
        gi_roundg (n - (j + 1))
        case measure => omega
        case rel => exact ⟨j + 1, by simp, by omega, rfl, Lib.hid (hab.out.moves hk4 (fun h0 k h h2 => h2.2 (.inr ⟨h0, h⟩))), by rw [← HX2.out]; exact hJ4⟩
      · gi_wp2
        refine bodyPost_ret (results_none rfl _ _ _) rfl ?_
        exact ⟨⟨_, rfl⟩, _, .inr ⟨_, by rw [zip_moreJ HX.out]; exact zip_prefixJ l (j + 1), hJx4⟩⟩
    · obtain rfl : j = n := by omega
      have hall : l.take j = l := List.take_of_length_le (by rw [HN.out]; exact Nat.le_refl _)
      gi_wp2
      go_end0
      exact ⟨⟨_, rfl⟩, _, .inl (by rw [hall] at hJ'; exact hJ')⟩
end Go.Proofs.YtaoooocalpkhjaaDoor
namespace Go.Proofs.YtaoooocalpkhjaaDoor
open Go.RowKit Go.Shelf Go.Maps
attribute [local go_sem] Oper.semAt_some

theorem eachJ_any (o : Option Addr) (n cap : Nat) (w : World) : Calls Tryd.prog 91 #[.slice o n cap] w fun e w' => e = .returned (.func (.func 108) #[] #[.pointer (some ⟨w.heap.size, 0, none⟩)]) ∧ w.alloc (.cells #[.slice o n cap] 117) = w' := by
  go_enter Tryd.func91, Tryd.ntmps91
  go_wp2
  go_ret
  exact ⟨rfl, rfl⟩
structure RigI (w : World) (m : Int) (X : Nat → Prop) (W : World) (r : Bool) : Prop where
  far : ∀ k, X k → w.heap.size + 2 ≤ k
  below : Below w.heap.size w W
  size : w.heap.size + 2 ≤ W.heap.size
  nb : Boxed W w.heap.size 3 (.int .i64 m)
  rb : Boxed W (w.heap.size + 1) 4 (.bool r)
theorem RigI.moves {w : World} {m : Int} {X X' : Nat → Prop} {A B : World} {r : Bool} (h : RigI w m X A r) (hm : Moves X A B) (hX : ∀ k, X' k → (X k ∨ A.heap.size ≤ k) ∧ k < B.heap.size) : RigI w m X' B r := by
  have hf := h.far
  have hz := h.size
  have nx : ∀ j, j < w.heap.size + 2 → ¬ X j := fun j hj hx => by have := hf j hx; omega
  refine ⟨?_, Moves.below h.below h.below.size hm (fun k hk => by have := hf k hk; omega), by have := hm.size; omega, row_keep h.nb hm (nx _ (by omega)), row_keep h.rb hm (nx _ (by omega))⟩
  intro k hk
  rcases (hX k hk).1 with h1 | h1
  · exact hf k h1
  · omega
theorem RigI.below' {w : World} {m : Int} {X : Nat → Prop} {A B : World} {r : Bool} (h : RigI w m X A r) (hb : Below A.heap.size A B) (hX : ∀ k, X k → k < A.heap.size) : RigI w m X B r :=
  h.moves (Moves.of_below hb) fun k hk => ⟨.inl hk, Nat.lt_of_lt_of_le (hX k hk) hb.size⟩
theorem RigI.set {w : World} {m : Int} {X : Nat → Prop} {A : World} {r : Bool} (h : RigI w m X A r) (v : Bool) : RigI w m X (A.setCell ⟨w.heap.size + 1, 0, none⟩ (.bool v)) v := by
  have ms : Moves (fun k => k = w.heap.size + 1) A (A.setCell ⟨w.heap.size + 1, 0, none⟩ (.bool v)) := Moves.setCell rfl
  exact ⟨h.far, Moves.below h.below h.below.size ms (fun k e => by omega), by have := ms.size; have := h.size; omega, row_keep h.nb ms (by omega), h.rb.set _⟩
set_option maxRecDepth 100000 in
set_option maxHeartbeats 4000000 in
theorem rightJ_any (o : Option Addr) (l : List RulX) (cap : Nat) (m : Int) (hn : l.length ≤ 1000000) (hfw : FewC l) (w : World) (hA : AtC w o l) (hI : ItsC w l) :
    Calls Tryd.prog 71 #[.slice o l.length cap, .int .i64 m] w fun e w' => e = .returned (.bool (rightsU (l.map plX) m)) ∧ Below w.heap.size w w' := by
  refine (callsIn_wide (n := 6)).1 ?_
  have h1 : 1 ≤ 6 := by omega
  refine callsIn_of_wp_marks Tryd.func71 rfl trivial ?_ rfl
  simp only [Tryd.ntmps71, List.size_toArray, List.length_cons, List.length_nil, Nat.reduceAdd, Nat.reduceSub, Array.replicate_succ, Array.replicate_zero, List.push_toArray, List.append_toArray, List.nil_append, List.cons_append]
  obtain ⟨P, hP⟩ : ∃ P, (fun (e : Ending) w' => e = .returned (.bool (rightsU (l.map plX) m)) ∧ Below w.heap.size w w') = P := ⟨_, rfl⟩
  have HP := Lib.hid hP
  rw [hP]
  clear hP
  obtain ⟨n, hnn⟩ : ∃ n, l.length = n := ⟨_, rfl⟩
  have HN := Lib.hid hnn
  rw [hnn] at hn ⊢
  obtain ⟨w1, hw1⟩ : ∃ w1, (w.alloc (.cells #[.int .i64 m] 3)).alloc (.cells #[.bool false] 4) = w1 := ⟨_, rfl⟩
  have b1 : Below w.heap.size w w1 := by rw [← hw1]; exact ((Below.refl _ _).alloc (Nat.le_refl _) _).alloc (by simp) _
  have z1 : w1.heap.size = w.heap.size + 2 := by rw [← hw1]; simp
  have n1 : Boxed w1 w.heap.size 3 (.int .i64 m) := by rw [← hw1]; exact (Boxed.new _ _ _).alloc _
  have r1 : Boxed w1 (w.heap.size + 1) 4 (.bool false) := by
    rw [← hw1]
    have := Boxed.new (w.alloc (.cells #[.int .i64 m] 3)) 4 (.bool false)
    rwa [World.size_alloc] at this
  obtain ⟨w2, hw2⟩ : ∃ w2, w1.alloc (.cells #[.slice o n cap] 117) = w2 := ⟨_, rfl⟩
  have b2 : Below w1.heap.size w1 w2 := by rw [← hw2]; exact (Below.refl _ _).alloc (Nat.le_refl _) _
  have z2 : w2.heap.size = w.heap.size + 3 := by rw [← hw2]; simp; omega
  have p2 : w2.heap[w1.heap.size]? = some (.cells #[.slice o n cap] 117 (0, 0)) := by rw [← hw2]; exact heap_alloc_new _ _
  have b02 : Below w.heap.size w w2 := b1.trans (b2.mono b1.size)
  have hlt : ∀ k, 0 < l.length → inQ o k → k < w.heap.size := fun k h0 hk => hA.lt h0 hk
  have HSEQ := Lib.hid (seqRules (by rw [hnn]; exact hn) (by rw [hnn]; exact p2) (hA.below b02))
  have HI2 : Hid (RigI w m (fun _ => False) w2 false) := Lib.hid ⟨fun k h => h.elim, b02, by omega, row_below n1 b2, row_below r1 b2⟩
  have HITS := Lib.hid hI
  have HFW := Lib.hid hfw
  have HLT := Lib.hid hlt
  have HZ1 := Lib.hid z1
  have HZ2 := Lib.hid z2
  have HW1 := Lib.hid hw1
  have HW2 := Lib.hid hw2
  have HB1 := Lib.hid b1
  have HPL := Lib.hid (eachJ_any o n cap w1)
  have lr1 := r1.lt
  have cn1 := n1.cell
  have cr1 := r1.cell
  have fr1 : w1.frozen? ⟨w.heap.size + 1, 0, none⟩ = false := r1.frozen
  have R1 := Lib.hid r1
  clear hnn hw1 b1 z1 n1 r1 hw2 b2 p2 b02 z2 hA hI hlt hfw
  have NO : (m < 1 ∨ 32 < m ∨ 40 < n) → Hid (P (.returned (.bool false)) w1) := fun h => by
    rw [← HP.out]
    refine Lib.hid ⟨by rw [rights_not (by rw [List.length_map, HN.out]; exact h)], HB1.out⟩
  have m40 : 40 < n ∨ n ≤ 40 := by omega
  by_cases a1 : m < 1
  · have HQ := NO (.inl a1)
    clear NO m40
    gi_wp2_with fail
    rw [HW1.out]
    exact ⟨_, results_cellQ rfl _ _ _ _ _ rfl Tryd.underlying4 rfl cr1, HQ.out⟩
  by_cases a2 : 32 < m
  · have HQ := NO (.inr (.inl a2))
    clear NO m40
    gi_wp2_with fail
    rw [HW1.out]
    exact ⟨_, results_cellQ rfl _ _ _ _ _ rfl Tryd.underlying4 rfl cr1, HQ.out⟩
  rcases m40 with a3 | a3
  · have HQ := NO (.inr (.inr a3))
    have d40 : decide ((40 : Int) < ((n : Nat) : Int)) = true := decide_eq_true (by omega)
    clear NO
    gi_wp2_with fail
    rw [HW1.out]
    exact ⟨_, results_cellQ rfl _ _ _ _ _ rfl Tryd.underlying4 rfl cr1, HQ.out⟩
  clear NO
  have d40 : decide ((40 : Int) < ((n : Nat) : Int)) = false := decide_eq_false (by omega)
  gi_wp2_with fail
  rw [HW1.out]
  refine ⟨trivial, (callsIn_wide.2 HPL.out).mono ?_⟩
  rintro e w2' ⟨rfl, hw2'⟩
  rw [HW2.out] at hw2'
  subst hw2'
  clear cn1 cr1 fr1
  gi_wp2_with fail
  have hz2 := HZ2.out
  have hz1 := HZ1.out
  refine wpIn_seqX (n := 6) (Ow := fun _ => False) (Dep := DepJ w1.heap.size o l) (encs := encJ) (all := l.zipIdx) (by omega) rfl (enters_of Tryd.func108 (by kernel_rfl) rfl) (fun x => rfl) HSEQ.out
    (fun k h => h.elim) (fun k h => by rcases h with h | ⟨h0, h⟩; { omega }; { have := HLT.out k h0 h; omega })
    (fun X pre W => RigI w m X W false ∧ ∀ y ∈ l.take pre.length, rightU m (plX y) = true) (fun c X pre W => c = .ret ∧ RigI w m X W false ∧ ∃ y ∈ l, rightU m (plX y) = false) ?hI ?hIx ?h0
    (fun b x => { tmps := #[.slice o n cap, .int .i64 m, undef, .pointer (some ⟨w.heap.size, 0, none⟩), .pointer (some ⟨w.heap.size + 1, 0, none⟩), undef, .pointer (some ⟨b, 0, none⟩), .int .i64 m, .bool false, .bool false, .int .i64 m, .bool false, .bool false, .bool false, .slice o n cap, .int .i64 (n : Nat), .bool false, .bool false, .slice o n cap, .func (.func 108) #[] #[.pointer (some ⟨w1.heap.size, 0, none⟩)], .int .i64 (x.2 : Nat), rulV x.1, undef, undef, undef, undef, undef, undef, undef, undef, undef, undef, undef, undef, undef, undef, undef, undef, undef], defers := [] })
    (fun A x B => A.alloc (rulO x.1) = B) (fun A x B h => by rw [← h]; exact Moves.of_below ((Below.refl _ _).alloc (Nat.le_refl _) _)) ?assign ?body ?done ?stop
  case hI =>
    rintro X X' xs A B ⟨h, hf⟩ hm hX
    exact ⟨h.moves hm hX, hf⟩
  case hIx =>
    rintro c X X' xs A B ⟨rfl, h, hf⟩ hm hX
    exact ⟨rfl, h.moves hm hX, hf⟩
  case h0 => exact ⟨HI2.out, fun y hy => by simp at hy⟩
  case assign =>
    rintro l x A K hK
    clear hz1 hz2
    gi_wp2
    rfl
  case body =>
    rintro lp X pre ⟨x, j⟩ A A' W1 hA1 hpx hAB hm hXn hXn1 hXlt ⟨hI, hf⟩
    obtain ⟨hj, hx, -⟩ := zip_preJ hpx
    subst hj
    have hxb : W1.heap[A.heap.size]? = some (rulO x) := by
      have := heap_alloc_new A (rulO x)
      rw [hAB] at this
      exact row_keep this hm (by omega)
    have hXW : ∀ k, X k → k < W1.heap.size := fun k hk => Nat.lt_of_lt_of_le (hXlt k hk) (by have h := hm.size; rw [← hAB, World.size_alloc] at h; omega)
    have cn := hI.nb.cell
    have cr := hI.rb.cell
    have fr : W1.frozen? ⟨w.heap.size + 1, 0, none⟩ = false := hI.rb.frozen
    have hmem : x ∈ l := List.mem_of_getElem? hx
    obtain ⟨⟨i1, l1⟩, i2, l2⟩ := HITS.out x hmem
    obtain ⟨g1, g2⟩ := HFW.out x hmem
    have HR1 := Lib.hid (fun W (hb : Below w.heap.size w W) => Right_anyQ x.1.1 x.1.2.1 x.1.2.2.1 x.1.2.2.2 m (by omega) W (i1.below hb))
    have HR2 := Lib.hid (fun W (hb : Below w.heap.size w W) => Right_anyQ x.2.1.1 x.2.1.2.1 x.2.1.2.2.1 x.2.1.2.2.2 m (by omega) W (i2.below hb))
    have nB : ∀ k, k < w.heap.size + 2 → w.heap.size ≤ k → ¬ X k ∧ ¬ DepJ w1.heap.size o l k := fun k hk hk2 => ⟨fun h => by have := hI.far k h; omega, fun h => by rcases h with h | ⟨h0, h⟩; { omega }; { have := HLT.out k h0 h; omega }⟩
    have STOP : Hid (∀ W2, Below W1.heap.size W1 W2 → rightU m (plX x) = false → seqEndX (DepJ w1.heap.size o l) X (fun X pre W => RigI w m X W false ∧ ∀ y ∈ l.take pre.length, rightU m (plX y) = true) (fun c X pre W => c = .ret ∧ RigI w m X W false ∧ ∃ y ∈ l, rightU m (plX y) = false) (pre ++ [(x, pre.length)]) W1 .ret ({ tmps := #[], defers := [] } : Act) (W2.setCell ⟨w.heap.size + 1, 0, none⟩ (.bool false))) := Lib.hid fun W2 hb hno => by
      have h2 := hI.below' hb hXW
      refine ⟨(Moves.of_below hb).trans ((Moves.setCell (S := fun k => k = w.heap.size + 1) (w := W2) (a := ⟨w.heap.size + 1, 0, none⟩) (v := .bool false) rfl).mono fun k hk => nB k (by omega) (by omega)), rfl, h2.set false, x, hmem, hno⟩
    have NEXT : Hid (∀ W2, Below W1.heap.size W1 W2 → rightU m (plX x) = true → seqEndX (DepJ w1.heap.size o l) X (fun X pre W => RigI w m X W false ∧ ∀ y ∈ l.take pre.length, rightU m (plX y) = true) (fun c X pre W => c = .ret ∧ RigI w m X W false ∧ ∃ y ∈ l, rightU m (plX y) = false) (pre ++ [(x, pre.length)]) W1 .normal ({ tmps := #[], defers := [] } : Act) W2) := Lib.hid fun W2 hb hyes => by
      refine ⟨Moves.of_below hb, hI.below' hb hXW, fun y hy => ?_⟩
      rw [List.length_append, List.length_singleton, List.take_add_one, hx] at hy
      rcases List.mem_append.1 hy with hy | hy
      · exact hf y hy
      · have : y = x := by simpa using hy
        rw [this]; exact hyes
    have HB1W := Lib.hid hI.below
    have HBOX : Hid (∀ W2, Below W1.heap.size W1 W2 → W2.cell? ⟨w.heap.size, 0, none⟩ = some (.int .i64 m) ∧ W2.cell? ⟨w.heap.size + 1, 0, none⟩ = some (.bool false) ∧ W2.frozen? ⟨w.heap.size + 1, 0, none⟩ = false) := Lib.hid fun W2 hb => by
      have h2 := hI.below' hb hXW
      exact ⟨h2.nb.cell, h2.rb.cell, h2.rb.frozen⟩
    have hu : rightU m (plX x) = (rightB x.1.2.2.1 m && rightB x.2.1.2.2.1 m && !x.2.1.1) := rfl
    have HU := Lib.hid hu
    obtain ⟨⟨s1, p1, xs1, c1⟩, ⟨s2, p2, xs2, c2⟩, br⟩ := x
    obtain ⟨m1, hm1⟩ : ∃ k, xs1.length = k := ⟨_, rfl⟩
    obtain ⟨m2, hm2⟩ : ∃ k, xs2.length = k := ⟨_, rfl⟩
    obtain ⟨u1, hu1⟩ : ∃ b, rightB xs1 m = b := ⟨_, rfl⟩
    obtain ⟨u2, hu2⟩ : ∃ b, rightB xs2 m = b := ⟨_, rfl⟩
    replace hxb : W1.heap[A.heap.size]? = some (.cells #[.bool s1, .slice p1 xs1.length c1, .bool s2, .slice p2 xs2.length c2, .bool br] 42 (0, 0)) := hxb
    simp only [hm1, hm2, hu1, hu2] at hxb HR1 HR2 HU
    obtain ⟨q0, q1, q2, q3, q4⟩ := five_cells hxb
    have HXB := Lib.hid hxb
    have HC1 := Lib.hid (HR1.out W1 HB1W.out)
    clear hI hx hf nB hpx hm hXlt hXn hXn1 hxb hAB hA1 hm1 hm2 hu1 hu2 i1 i2 l1 l2 g1 g2 hu hmem hz1 hz2 hXW
    gi_wp2_with fail
    refine ⟨trivial, CallsIn.inRound lp ((callsIn_wide.2 HC1.out).mono ?_)⟩
    rintro e W2 ⟨rfl, b2⟩
    obtain ⟨t0, t1, t2, t3, t4⟩ := five_cells (row_below HXB.out b2)
    obtain ⟨e0, e1, e2⟩ := HBOX.out W2 b2
    have HS2 := Lib.hid (STOP.out W2 b2)
    have HB2 := Lib.hid b2
    have HC2 := Lib.hid (HR2.out W2 (HB1W.out.trans (b2.mono HB1W.out.size)))
    have lb2 : w.heap.size + 1 < W2.heap.size := World.block_lt_of_cell? W2 _ e1
    clear b2 q0 q1 q2 q3 q4 cn cr fr
    cases u1 with
    | false =>
      have HE := Lib.hid (HS2.out (by rw [HU.out]; rfl))
      clear t0 t1 t2 t3 t4
      gi_wp2_with fail
      refine ⟨trivial, ?_⟩
      gi_wp2_with fail
      exact HE.out
    | true =>
      gi_wp2_with fail
      refine ⟨trivial, CallsIn.inRound lp ((callsIn_wide.2 HC2.out).mono ?_)⟩
      rintro e W3 ⟨rfl, b3⟩
      have HB3 := Lib.hid (HB2.out.trans (b3.mono HB2.out.size))
      obtain ⟨x0, x1, x2, x3, x4⟩ := five_cells (row_below HXB.out HB3.out)
      obtain ⟨y0, y1, y2⟩ := HBOX.out W3 HB3.out
      have HS3 := Lib.hid (STOP.out W3 HB3.out)
      have HN3 := Lib.hid (NEXT.out W3 HB3.out)
      have lb3 : w.heap.size + 1 < W3.heap.size := World.block_lt_of_cell? W3 _ y1
      clear b3 t0 t1 t2 t3 t4 e0 e1 e2 lb2 x1 x3
      cases u2 with
      | false =>
        have HE := Lib.hid (HS3.out (by rw [HU.out]; rfl))
        gi_wp2_with fail
        exact HE.out
      | true =>
        cases s2 with
        | true =>
          have HE := Lib.hid (HS3.out (by rw [HU.out]; rfl))
          gi_wp2_with fail
          exact HE.out
        | false =>
          have HE := Lib.hid (HN3.out (by rw [HU.out]; rfl))
          gi_wp2_with fail
          exact HE.out
  case done =>
    rintro X D W hD hXD ⟨hI, hf⟩ hX hK
    have hfol : Tryd.prog.follows .mixedOrders = true := by kernel_rfl
    have hyes : rightsU (l.map plX) m = true := by
      rw [List.length_zipIdx, List.take_length] at hf
      refine rights_of (by omega) (by omega) (by rw [List.length_map, HN.out]; exact a3) fun y hy => ?_
      obtain ⟨x, hx, rfl⟩ := List.mem_map.1 hy
      exact hf x hx
    have cr := hI.rb.cell
    have fr : W.frozen? ⟨w.heap.size + 1, 0, none⟩ = false := hI.rb.frozen
    have lr := hI.rb.lt
    have i2 := hI.set true
    have mp : Moves (fun k => k = D) (W.setCell ⟨w.heap.size + 1, 0, none⟩ (.bool true)) ((W.setCell ⟨w.heap.size + 1, 0, none⟩ (.bool true)).putObj D (.deferred none)) := Moves.putObj rfl
    have e2 : ((W.setCell ⟨w.heap.size + 1, 0, none⟩ (.bool true)).putObj D (.deferred none)).cell? ⟨w.heap.size + 1, 0, none⟩ = some (.bool true) := (show Boxed ((W.setCell ⟨w.heap.size + 1, 0, none⟩ (.bool true)).putObj D (.deferred none)) (w.heap.size + 1) 4 (.bool true) from row_keep i2.rb mp (by omega)).cell
    have hK2 := row_keep hK (Moves.setCell (S := fun k => k = w.heap.size + 1) (w := W) (a := ⟨w.heap.size + 1, 0, none⟩) (v := .bool true) rfl) (by omega)
    have HPP : Hid (P (.returned (.bool true)) ((W.setCell ⟨w.heap.size + 1, 0, none⟩ (.bool true)).putObj D (.deferred none))) := by
      rw [← HP.out]
      exact Lib.hid ⟨by rw [hyes], Moves.below i2.below i2.below.size mp (fun k e => by omega)⟩
    clear hyes hI hf hX hK hz1 hz2 i2 mp
    gi_wp2
    try rw [Exit.noGoto_ret]
    refine ⟨by simp, .inl ⟨_, _, rfl, run_takeDeferred hK2, ?_⟩⟩
    exact ⟨_, results_cellQ rfl _ _ _ _ _ rfl Tryd.underlying4 rfl e2, HPP.out⟩
  case stop =>
    rintro X D c pre W hD hXD hpre ⟨rfl, hI, y, hy, hno⟩ hX hK
    have mp : Moves (fun k => k = D) W (W.putObj D (.deferred none)) := Moves.putObj rfl
    have e2 : (W.putObj D (.deferred none)).cell? ⟨w.heap.size + 1, 0, none⟩ = some (.bool false) := (show Boxed (W.putObj D (.deferred none)) (w.heap.size + 1) 4 (.bool false) from row_keep hI.rb mp (by omega)).cell
    have hr : rightsU (l.map plX) m = false := by
      obtain ⟨i, hi⟩ := List.getElem?_of_mem hy
      exact rights_bad (j := i) (x := plX y) (by rw [List.getElem?_map, hi]; rfl) hno
    have HPP : Hid (P (.returned (.bool false)) (W.putObj D (.deferred none))) := by
      rw [← HP.out]
      exact Lib.hid ⟨by rw [hr], Moves.below hI.below hI.below.size mp (fun k e => by omega)⟩
    clear hI hX hz1 hz2 mp hr hno
    gi_wp2
    try rw [Exit.noGoto_ret]
    refine ⟨by simp, .inl ⟨_, _, rfl, run_takeDeferred hK, ?_⟩⟩
    exact ⟨_, results_cellQ rfl _ _ _ _ _ rfl Tryd.underlying4 rfl e2, HPP.out⟩
end Go.Proofs.YtaoooocalpkhjaaDoor
