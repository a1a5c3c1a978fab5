/- Shaken by bunq.py. -/
import Derived.Test.YtaoooocalpkhjaaDoorBuq9
import Derived.Test.YtaoooocalpkhjaaDoorBuq12
import Derived.Test.YtaoooocalpkhjaaDoorBuq11
import Derived.Test.YtaoooocalpkhjaaDoorBuq8
namespace Go.Proofs.YtaoooocalpkhjaaDoor
open Go.RowKit Go.Shelf Go.Maps
attribute [local go_sem] Oper.semAt_some
attribute [local go_sem ↓] app_hide

def TellLQ (m : MachX) (n : Int) (L : List Int) (w : World) (e : Ending) (w' : World) : Prop := ∃ o' cap', e = .returned (.tuple #[.slice o' (L.length + 1) cap', .nilIface]) ∧ w'.ownsRow (w.heap.size + 1) 2 1 (.slice o' (L.length + 1) cap') (L.length + 1) ((allD (m.rows.map (·.2.1)) n L).map (fun s : Nat => Value.int .i64 (m.fits[s]?.getD 0))) ∧ Below w.heap.size w w'
set_option maxRecDepth 100000 in
set_option maxHeartbeats 8000000 in
theorem tellL_right (m : MachX) (n : Int) (lo : Option Addr) (L : List Int) (lcap : Nat) (hB : m.B n = true) (hll : L.length ≤ 1000) (w : World) (aR aM : Addr) (hG : GlobD w aR aM) (hM : MachD w m) (hL : NumsAt w lo L) :
    Calls Tryd.prog 43 #[m.v, .int .i64 n, (.func (.func 44) #[] #[]), .slice lo L.length lcap] w (TellLQ m n L w) := by
  obtain ⟨h1n, h32n, h1r, h300, hrf, _, _⟩ := machB_parts (show machB (m.rows.map (·.2.1)) m.fits n = true from hB)
  rw [List.length_map] at h1r h300 hrf
  obtain ⟨no, rows, nc, fo, fits, fc⟩ := m
  simp only at h1r h300 hrf
  refine (callsIn_wide (n := 6)).1 ?_
  have h1 : 1 ≤ 6 := by omega
  refine callsIn_of_wp_marks Tryd.func43 rfl trivial ?_ rfl
  simp only [Tryd.ntmps43, List.size_toArray, List.length_cons, List.length_nil, Nat.reduceAdd, Nat.reduceSub, Array.replicate_succ, Array.replicate_zero, List.push_toArray, List.append_toArray, List.nil_append, List.cons_append]
  obtain ⟨P, hP⟩ : ∃ P, TellLQ ⟨no, rows, nc, fo, fits, fc⟩ n L w = P := ⟨_, rfl⟩
  have HP := Lib.hid hP
  rw [hP]
  obtain ⟨R, hR⟩ : ∃ R, allD (rows.map (·.2.1)) n L = R := ⟨_, rfl⟩
  have HRE := Lib.hid hR
  have HRL : Hid (R.length = L.length + 1) := Lib.hid (by rw [← hR, allD_len])
  have HRS : Hid (∀ s ∈ R, s < rows.length) := Lib.hid fun s hs => by
    rw [← hR] at hs
    obtain ⟨i, _, rfl⟩ := List.mem_map.1 hs
    have := st_lt (show machB (rows.map (·.2.1)) fits n = true from hB) (L.take i) 0 (by rw [List.length_map]; omega)
    rw [List.length_map] at this
    exact this
  obtain ⟨w0, hw0⟩ : ∃ w0, w.alloc (.cells #[.slice no rows.length nc, .slice fo fits.length fc] 25 (0, 0)) = w0 := ⟨_, rfl⟩
  have b0 : Below w.heap.size w w0 := by rw [← hw0]; exact (Below.refl _ _).alloc (Nat.le_refl _) _
  have z0 : w0.heap.size = w.heap.size + 1 := by rw [← hw0]; simp
  have r0 : w0.heap[w.heap.size]? = some (.cells #[.slice no rows.length nc, .slice fo fits.length fc] 25 (0, 0)) := by rw [← hw0]; exact heap_alloc_new _ _
  obtain ⟨w1, hw1⟩ : ∃ w1, w0.alloc (.cells #[(.func (.func 44) #[] #[])] 80) = w1 := ⟨_, rfl⟩
  have bb1 : Below w0.heap.size w0 w1 := by rw [← hw1]; exact (Below.refl _ _).alloc (Nat.le_refl _) _
  have z1 : w1.heap.size = w.heap.size + 2 := by rw [← hw1]; simp; omega
  have f1 : Boxed w1 (w.heap.size + 1) 80 (.func (.func 44) #[] #[]) := by rw [← hw1, ← z0]; exact Boxed.new _ _ _
  have b1 := b0.trans (bb1.mono b0.size)
  have hr1 := row_below r0 bb1
  have c0 : w1.cell? ⟨w.heap.size, 0, none⟩ = some (.slice no rows.length nc) := by rw [cell_of_row _ _ 0 _ _ _ hr1]; rfl
  have c1 : w1.cell? ⟨w.heap.size, 1, none⟩ = some (.slice fo fits.length fc) := by rw [cell_of_row _ _ 1 _ _ _ hr1]; rfl
  have HR0 := walkerOf_any ⟨no, rows, nc, fo, fits, fc⟩ n w1 aR aM (hG.below b1) (hM.below b1) (by show rows.length ≤ _; omega) (by show fits.length ≤ _; omega)
  unfold WlkR at HR0
  rw [if_pos hB] at HR0
  have HW : Hid ((w.alloc (.cells #[.slice no rows.length nc, .slice fo fits.length fc] 25 (0, 0))).alloc (.cells #[(.func (.func 44) #[] #[])] 80) = w1) := Lib.hid (by rw [hw0, hw1])
  obtain ⟨i0, hi, hz0, hz1, hz2⟩ := info_parts infoI64H
  have HMK := Lib.hid (fun W => run_makeSlice_owned (P := Tryd.prog) (w := W) (w.heap.size + 1) 23 2 i0 (.int .i64 0) 1 Tryd.underlying23 hi hz0 hz1 .i64 .i64 (L.length + 1) (by omega) (by rw [hz2]; omega) (by unfold maxLen; omega))
  have HMD := Lib.hid hM
  have HQ0 := Lib.hid (show rows.length ≤ 300 ∧ rows.length = fits.length from ⟨h300, hrf⟩)
  have HSQ := Lib.hid (fun (wb lb : Nat) (W : World) (hG : GoD W wb lb ⟨no, rows, nc, fo, fits, fc⟩ n lo L lcap) => seqGoD (m := ⟨no, rows, nc, fo, fits, fc⟩) hB (by omega) hG)
  rw [show allD ((MachX.mk no rows nc fo fits fc).rows.map (·.2.1)) n L = R from hR] at HSQ
  have HDP : Hid (∀ (wb lb k : Nat), DepG wb lb ⟨no, rows, nc, fo, fits, fc⟩ lo L k → DepD w wb lb k) := Lib.hid (by
    rintro wb lb k (h | h | ⟨h0, h⟩ | ⟨h0, h⟩ | ⟨x, hx, h0, h⟩)
    · exact .inr (.inl h)
    · exact .inr (.inr h)
    · exact .inl (hL.ltQ h0 h)
    · obtain ⟨g, off, ho, hc⟩ := hM.rows h0
      obtain ⟨a, ha, rfl⟩ := h
      have e := ho.symm.trans ha
      cases e
      exact .inl (World.block_lt_of_cell? w _ (hc 0 _ (List.getElem?_eq_getElem h0)))
    · exact .inl ((hM.row x hx).ltQ h0 h))
  obtain ⟨q, hq⟩ : ∃ q, rows.length = q := ⟨_, rfl⟩
  obtain ⟨f, hf⟩ : ∃ f, fits.length = f := ⟨_, rfl⟩
  obtain ⟨ll, hln⟩ : ∃ ll, L.length = ll := ⟨_, rfl⟩
  have hsl : wrap64 (((ll : Nat) : Int) + 1) = ((ll + 1 : Nat) : Int) := by unfold wrap64; omega
  have HLN := Lib.hid hln
  have HQ := Lib.hid hq
  have HF := Lib.hid hf
  have HL := Lib.hid hL
  have HB1 := Lib.hid b1
  have HF1 := Lib.hid f1
  have HZ1 := Lib.hid z1
  have HLL := Lib.hid hll
  rw [hq] at c0 HW
  rw [hf] at c1 HW
  have HR : Hid (Calls Tryd.prog 46 #[.agg #[.slice no q nc, .slice fo f fc], .int .i64 n] w1 fun e w' => e = .returned (.tuple #[.agg #[.slice no q nc, .slice fo f fc, .int .i64 n], .nilIface]) ∧ Below w1.heap.size w1 w') := Lib.hid (by rw [← hq, ← hf]; exact HR0)
  show Code.wpIn _ _ _ _ _ { tmps := #[.agg #[.slice no rows.length nc, .slice fo fits.length fc], _, _, _, _, _, _, _, _, _, _, _, _, _, _, _, _, _, _, _, _, _, _, _, _, _, _, _, _, _, _, _, _, _, _, _, _, _, _], defers := _ } _
  rw [hq, hf]
  rw [hln] at HMK HLL
  rw [hln]
  have hll6 := HLL.out
  clear hP hw0 b0 z0 r0 hw1 bb1 z1 f1 b1 hB hG hM hL hR hq hf hln hi hz0 hz1 hz2 hll HR0 hr1 h1n h32n h1r h300 hrf
  gi_wp2_with fail
  rw [HW.out]
  refine ⟨trivial, (callsIn_wide.2 HR.out).mono ?_⟩
  rintro e W3 ⟨rfl, b3⟩
  obtain ⟨W5, hW5⟩ : ∃ W5, W3.alloc (.cells #[.slice no q nc, .slice fo f fc, .int .i64 n] 63 (0, 0)) = W5 := ⟨_, rfl⟩
  have r5 : W5.heap[W3.heap.size]? = some (.cells #[.slice no q nc, .slice fo f fc, .int .i64 n] 63 (0, 0)) := by rw [← hW5]; exact heap_alloc_new _ _
  have b5 : Below W3.heap.size W3 W5 := by rw [← hW5]; exact (Below.refl _ _).alloc (Nat.le_refl _) _
  have z5 : W5.heap.size = W3.heap.size + 1 := by rw [← hW5]; simp
  have B3 := HB1.out.trans (b3.mono HB1.out.size)
  have hz1' := HZ1.out
  have hs3 := b3.size
  obtain ⟨W6, hmk, hown, hgr⟩ := HMK.out W5 (by omega)
  have m6 := moves_grownH hgr
  have b6 : Below W5.heap.size W5 W6 := ⟨m6.os, m6.tape, m6.output, m6.size, fun k hk => m6.block k hk (by simp)⟩
  have z6 := b6.size
  have l56 := (hown.lt W5.heap.size rfl).2
  obtain ⟨W7, hW7⟩ : ∃ W7, W6.alloc (.cells #[.slice (some ⟨W5.heap.size, 0, none⟩) 0 (ll + 1)] 23) = W7 := ⟨_, rfl⟩
  have b7 : Below W6.heap.size W6 W7 := by rw [← hW7]; exact (Below.refl _ _).alloc (Nat.le_refl _) _
  have z7 : W7.heap.size = W6.heap.size + 1 := by rw [← hW7]; simp
  have k7 : Boxed W7 W6.heap.size 23 (.slice (some ⟨W5.heap.size, 0, none⟩) 0 (ll + 1)) := by rw [← hW7]; exact Boxed.new _ _ _
  obtain ⟨W8, hW8⟩ : ∃ W8, W7.alloc (.cells #[.slice no q nc, .slice fo f fc, .int .i64 n] 63 (0, 0)) = W8 := ⟨_, rfl⟩
  have b8 : Below W7.heap.size W7 W8 := by rw [← hW8]; exact (Below.refl _ _).alloc (Nat.le_refl _) _
  have z8 : W8.heap.size = W7.heap.size + 1 := by rw [← hW8]; simp
  have k8 : W8.heap[W7.heap.size]? = some (.cells #[.slice no q nc, .slice fo f fc, .int .i64 n] 63 (0, 0)) := by rw [← hW8]; exact heap_alloc_new _ _
  obtain ⟨W9, hW9⟩ : ∃ W9, W8.alloc (.cells #[.slice lo ll lcap] 26) = W9 := ⟨_, rfl⟩
  have b9 : Below W8.heap.size W8 W9 := by rw [← hW9]; exact (Below.refl _ _).alloc (Nat.le_refl _) _
  have z9 : W9.heap.size = W8.heap.size + 1 := by rw [← hW9]; simp
  have k9 : W9.heap[W7.heap.size + 1]? = some (.cells #[.slice lo ll lcap] 26 (0, 0)) := by rw [← hW9, ← z8]; exact heap_alloc_new _ _
  have b79 : Below W7.heap.size W7 W9 := b8.trans (b9.mono (by omega))
  have b69 : Below W6.heap.size W6 W9 := b7.trans (b79.mono (by omega))
  have b59 : Below W5.heap.size W5 W9 := b6.trans (b69.mono (by omega))
  have b39 : Below W3.heap.size W3 W9 := b5.trans (b59.mono (by omega))
  have B9 := B3.trans (b39.mono (by omega))
  have hk8 := row_below k8 b9
  have hM9 := HMD.out.below B9
  have HSQ9 := Lib.hid (seqX_dep (HSQ.out W7.heap.size (W7.heap.size + 1) W9 ⟨hM9.rows, hM9.row, HL.out.below B9, by show _ = some (Obj.cells #[.slice no rows.length nc, .slice fo fits.length fc, .int .i64 n] _ _); rw [HQ.out, HF.out]; exact hk8, by rw [HLN.out]; exact k9⟩) (HDP.out _ _))
  have HT0 : Hid (ToldD w (w.heap.size + 1) W3.heap.size W6.heap.size W7.heap.size (W7.heap.size + 1) (.cells #[.slice no q nc, .slice fo f fc, .int .i64 n] 63 (0, 0)) 80 23 2 (.func (.func 44) #[] #[]) ([].map (fun s : Nat => Value.int .i64 (fits[s]?.getD 0))) (fun _ => False) W9) := Lib.hid ⟨row_below r5 b59, row_below (row_below HF1.out b3) b39, ⟨_, row_below k7 b79, own_below hown b69, fun k hk => by
      obtain rfl : W5.heap.size = k := by simpa [Value.ownBlock] using hk
      exact ⟨id, by omega, by omega, by omega, by omega, by omega⟩⟩, ⟨id, id, id⟩, fun k hk => hk.elim, B9, ⟨by omega, by omega⟩⟩
  have HZ : Hid (w.heap.size + 2 ≤ W3.heap.size ∧ W5.heap.size = W3.heap.size + 1 ∧ W5.heap.size ≤ W6.heap.size ∧ W7.heap.size = W6.heap.size + 1 ∧ W9.heap.size = W7.heap.size + 2) := Lib.hid (by omega)
  obtain ⟨d0, d1, d2⟩ := wkr_cells (row_below r5 b6)
  have hl36 : W3.heap.size < W6.heap.size := by omega
  have HW7 := Lib.hid hW7
  have HW9 : Hid ((W7.alloc (.cells #[.slice no q nc, .slice fo f fc, .int .i64 n] 63 (0, 0))).alloc (.cells #[.slice lo ll lcap] 26) = W9) := Lib.hid (by rw [hW8, hW9])
  rw [show ((ll + 1 : Nat) : Int) = ((ll : Nat) : Int) + 1 from by omega] at hmk
  rw [show W5.heap.size = W3.heap.size + 1 from z5] at HW7
  rw [← hW5] at hmk
  have HST : Hid (Calls Tryd.prog 47 #[.agg #[.slice no q nc, .slice fo f fc, .int .i64 n], .slice lo ll lcap] W7 fun e w' => e = .returned (.func (.func 66) #[] #[.pointer (some ⟨W7.heap.size + 1, 0, none⟩), .pointer (some ⟨W7.heap.size, 0, none⟩)]) ∧ W9 = w') := Lib.hid (by
    have h := statesD_any ⟨no, rows, nc, fo, fits, fc⟩ n lo L lcap W7
    rw [HLN.out] at h
    replace h : Calls Tryd.prog 47 #[.agg #[.slice no rows.length nc, .slice fo fits.length fc, .int .i64 n], .slice lo ll lcap] W7 fun e w' => e = .returned (.func (.func 66) #[] #[.pointer (some ⟨W7.heap.size + 1, 0, none⟩), .pointer (some ⟨W7.heap.size, 0, none⟩)]) ∧ (W7.alloc (.cells #[.slice no rows.length nc, .slice fo fits.length fc, .int .i64 n] 63 (0, 0))).alloc (.cells #[.slice lo ll lcap] 26) = w' := h
    rw [HQ.out, HF.out, HW9.out] at h
    exact h)
  clear b3 B3 hs3 hown hgr m6 b6 z6 l56 hW7 b7 z7 k7 hW8 b8 z8 k8 hW9 b9 z9 k9 b79 b69 b59 b39 B9 c0 c1 r5 b5 hz1' hk8 hM9 hW5 HSQ HDP
  gi_wp2_with fail
  rw [HW7.out]
  refine ⟨trivial, (callsIn_wide.2 HST.out).mono ?_⟩
  rintro e _ ⟨rfl, rfl⟩
  gi_wp2_with fail
  have hMM := HZ.out
  refine wpIn_seqX (n := 6) (Ow := fun _ => False) (Dep := DepD w W7.heap.size (W7.heap.size + 1)) (encs := fun s : Nat => #[.int .i64 (s : Nat)]) (all := R) (by omega) rfl (enters_of Tryd.func66 (by kernel_rfl) rfl) (fun x => rfl) HSQ9.out
    (fun k hk => hk.elim) (fun k hk => by rcases hk with h | h | h <;> omega)
    (fun X pre W => ToldD w (w.heap.size + 1) W3.heap.size W6.heap.size W7.heap.size (W7.heap.size + 1) (.cells #[.slice no q nc, .slice fo f fc, .int .i64 n] 63 (0, 0)) 80 23 2 (.func (.func 44) #[] #[]) (pre.map (fun s : Nat => Value.int .i64 (fits[s]?.getD 0))) X W)
    (fun _ _ _ _ => False) ?hI ?hIx ?h0
    (fun _ s => { tmps := #[.agg #[.slice no q nc, .slice fo f fc], .int .i64 n, (.func (.func 44) #[] #[]), .slice lo ll lcap, .pointer (some ⟨w.heap.size, 0, none⟩), undef, .pointer (some ⟨w.heap.size + 1, 0, none⟩), undef, .slice none 0 0, .nilIface, .pointer (some ⟨W3.heap.size, 0, none⟩), .nilIface, .pointer (some ⟨W6.heap.size, 0, none⟩), .int .i64 (s : Nat), .tuple #[.agg #[.slice no q nc, .slice fo f fc, .int .i64 n], .nilIface], .agg #[.slice no q nc, .slice fo f fc], .int .i64 n, .tuple #[.agg #[.slice no q nc, .slice fo f fc, .int .i64 n], .nilIface], .agg #[.slice no q nc, .slice fo f fc, .int .i64 n], .nilIface, .nilIface, .bool false, undef, .slice lo ll lcap, .int .i64 (ll : Nat), .int .i64 (((ll : Nat) : Int) + 1), .slice (some ⟨W3.heap.size + 1, 0, none⟩) 0 (ll + 1), .agg #[.slice no q nc, .slice fo f fc, .int .i64 n], .slice lo ll lcap, .func (.func 66) #[] #[.pointer (some ⟨W7.heap.size + 1, 0, none⟩), .pointer (some ⟨W7.heap.size, 0, none⟩)], .int .i64 (s : Nat), undef, undef, undef, undef, undef, undef, undef, undef], defers := [] })
    (fun A _ B => A = B) (fun A x B h => by rw [h]; exact Moves.refl _ _) ?assign ?body ?done ?stop
  case hI => exact fun X X' ys A C h hm hX => h.moves hm hX
  case hIx => exact fun _ _ _ _ _ _ h _ _ => h
  case h0 => exact HT0.out
  case assign =>
    rintro l2 x A K hK
    clear hMM
    gi_wp2
    first | exact hK _ rfl | rfl
  case body =>
    rintro lp X pre s Aw A' W1 hA1 hpx rfl hm hXn hXn1 hXlt hI
    have hfol : Tryd.prog.follows .mixedOrders = true := by kernel_rfl
    have hpl : pre.length ≤ 1000 := by
      have h2 := hpx.length_le
      have h3 := HRL.out
      rw [List.length_append, List.length_singleton] at h2
      have := HLL.out
      have := HLN.out
      omega
    have hs : s < rows.length := HRS.out s (hpx.subset (List.mem_append_right _ (List.mem_singleton.2 rfl)))
    have hq0 := HQ0.out
    have hsf : s < fits.length := by omega
    obtain ⟨v, a1, a2, a3⟩ := hI.ab
    obtain ⟨o1, c1, rfl⟩ := own_form a2
    rw [List.length_map] at a1 a2 a3
    obtain ⟨e0, e1, e2⟩ := wkr_cells hI.rb
    have e4 := hI.fb.cell
    have e10 := a1.cell
    obtain ⟨pl, hpl'⟩ : ∃ pl, pre.length = pl := ⟨_, rfl⟩
    rw [hpl'] at a1 e10
    have hXW1 : ∀ k, X k → k < W1.heap.size := fun k hk => by have := hXlt k hk; have := hm.size; omega
    have hMW : MachD W1.drew ⟨no, rows, nc, fo, fits, fc⟩ := HMD.out.below (hI.bw.drew)
    have CON0 : Hid (Calls Tryd.prog 44 #[.agg #[.slice no q nc, .slice fo f fc, .int .i64 n], .int .i64 (s : Nat)] W1.drew fun e w' => e = .returned (.int .i64 (fits[s]?.getD 0)) ∧ Below W1.drew.heap.size W1.drew w') := Lib.hid (by
      have h := (fitsD_any ⟨no, rows, nc, fo, fits, fc⟩ n s (fits[s]?.getD 0) (by show fits[s]? = _; obtain ⟨z, hz⟩ : ∃ z, fits[s]? = some z := ⟨_, List.getElem?_eq_getElem hsf⟩; rw [hz]; rfl) (by omega) W1.drew hMW)
      replace h : Calls Tryd.prog 44 #[.agg #[.slice no rows.length nc, .slice fo fits.length fc, .int .i64 n], .int .i64 (s : Nat)] W1.drew fun e w' => e = .returned (.int .i64 (fits[s]?.getD 0)) ∧ Below W1.drew.heap.size W1.drew w' := h
      rw [HQ.out, HF.out] at h
      exact h)
    have CON : Hid (Calls Tryd.prog 44 #[.agg #[.slice no q nc, .slice fo f fc, .int .i64 n], .int .i64 (s : Nat)] W1.drew fun e W2 => e = .returned (.int .i64 (fits[s]?.getD 0)) ∧ ∃ g cap' w6, Hid (W2.cell? ⟨w.heap.size + 1, 0, none⟩ = some ((.func (.func 44) #[] #[])) ∧ W2.cell? ⟨W3.heap.size, 0, none⟩ = some (.slice no q nc) ∧ W2.cell? ⟨W3.heap.size, 1, none⟩ = some (.slice fo f fc) ∧ W2.cell? ⟨W3.heap.size, 2, none⟩ = some (.int .i64 n)) ∧ W2.cell? ⟨W6.heap.size, 0, none⟩ = some (.slice o1 pl c1) ∧ W6.heap.size < W2.heap.size ∧ (appSem #[23, 23] 23 #[.slice o1 pl c1, .slice (some ⟨W2.heap.size, 0, none⟩) 1 1]).run Tryd.prog (W2.alloc (.cells #[.int .i64 (fits[s]?.getD 0)] 2)) = .ok (.slice (some ⟨g, 0, none⟩) (pl + 1) cap') w6 ∧
        w6.cell? ⟨W6.heap.size, 0, none⟩ = some (.slice o1 pl c1) ∧ w6.frozen? ⟨W6.heap.size, 0, none⟩ = false ∧ Hid ((W2.alloc (.cells #[.int .i64 (fits[s]?.getD 0)] 2)).cell? ⟨w.heap.size + 1, 0, none⟩ = some ((.func (.func 44) #[] #[])) ∧ (W2.alloc (.cells #[.int .i64 (fits[s]?.getD 0)] 2)).cell? ⟨W3.heap.size, 0, none⟩ = some (.slice no q nc) ∧ (W2.alloc (.cells #[.int .i64 (fits[s]?.getD 0)] 2)).cell? ⟨W3.heap.size, 1, none⟩ = some (.slice fo f fc) ∧ (W2.alloc (.cells #[.int .i64 (fits[s]?.getD 0)] 2)).cell? ⟨W3.heap.size, 2, none⟩ = some (.int .i64 n)) ∧ Hid (w6.cell? ⟨w.heap.size + 1, 0, none⟩ = some ((.func (.func 44) #[] #[])) ∧ w6.cell? ⟨W3.heap.size, 0, none⟩ = some (.slice no q nc) ∧ w6.cell? ⟨W3.heap.size, 1, none⟩ = some (.slice fo f fc) ∧ w6.cell? ⟨W3.heap.size, 2, none⟩ = some (.int .i64 n)) ∧ ∃ w7, w6.setCell ⟨W6.heap.size, 0, none⟩ (.slice (some ⟨g, 0, none⟩) (pl + 1) cap') = w7 ∧ Hid (w7.cell? ⟨w.heap.size + 1, 0, none⟩ = some ((.func (.func 44) #[] #[])) ∧ w7.cell? ⟨W3.heap.size, 0, none⟩ = some (.slice no q nc) ∧ w7.cell? ⟨W3.heap.size, 1, none⟩ = some (.slice fo f fc) ∧ w7.cell? ⟨W3.heap.size, 2, none⟩ = some (.int .i64 n)) ∧
        Hid (Moves (fun k => ¬ X k ∧ ¬ DepD w W7.heap.size (W7.heap.size + 1) k) W1 w7 ∧ ToldD w (w.heap.size + 1) W3.heap.size W6.heap.size W7.heap.size (W7.heap.size + 1) (.cells #[.slice no q nc, .slice fo f fc, .int .i64 n] 63 (0, 0)) 80 23 2 (.func (.func 44) #[] #[]) ((pre ++ [s]).map (fun s : Nat => Value.int .i64 (fits[s]?.getD 0))) X w7)) := Lib.hid (by
      refine CON0.out.mono ?_
      rintro e W2 ⟨rfl, b2⟩
      have m2 : Moves (fun _ => False) W1 W2 := ((Moves.refl _ _).drew).trans (Moves.of_below b2)
      have I2 := hI.moves (m2.mono fun _ h => h.elim) (X' := X) (fun k hk => ⟨.inl hk, by have := hXW1 k hk; have := m2.size; omega⟩)
      obtain ⟨o', c', g, cap', w6, k1, k2, k3, k4, k5, k6, k7, k8⟩ := I2.app app_i64 (by omega) (fun k hk => by have := hXW1 k hk; have := m2.size; omega) (by rw [List.length_map]; omega) (.int .i64 (fits[s]?.getD 0)) ⟨_, rfl⟩
      rw [List.length_map, hpl'] at k1 k2 k3 k5 k6
      have k0 : W2.cell? ⟨W6.heap.size, 0, none⟩ = some (.slice o1 pl c1) := (show Boxed W2 W6.heap.size _ _ from row_keep a1 m2 id).cell
      have ke := Option.some.inj (k1.symm.trans k0)
      obtain ⟨rfl, rfl⟩ : o' = o1 ∧ c' = c1 := by injection ke with q1 q2 q3; exact ⟨q1, q3⟩
      have hbA : Below W2.heap.size W2 (W2.alloc (.cells #[.int .i64 (fits[s]?.getD 0)] 2)) := (Below.refl _ _).alloc (Nat.le_refl _) _
      have SF : ∀ W, W.heap[W3.heap.size]? = some (.cells #[.slice no q nc, .slice fo f fc, .int .i64 n] 63 (0, 0)) → Boxed W (w.heap.size + 1) 80 (.func (.func 44) #[] #[]) → W.cell? ⟨w.heap.size + 1, 0, none⟩ = some ((.func (.func 44) #[] #[])) ∧ W.cell? ⟨W3.heap.size, 0, none⟩ = some (.slice no q nc) ∧ W.cell? ⟨W3.heap.size, 1, none⟩ = some (.slice fo f fc) ∧ W.cell? ⟨W3.heap.size, 2, none⟩ = some (.int .i64 n) := fun W q1 q2 => ⟨q2.cell, (wkr_cells q1).1, (wkr_cells q1).2.1, (wkr_cells q1).2.2⟩
      refine ⟨rfl, g, cap', w6, Lib.hid (SF _ I2.rb I2.fb), k0, World.block_lt_of_cell? W2 _ k0, k2, k3, k4, Lib.hid (SF _ (row_below I2.rb hbA) (row_below I2.fb hbA)), Lib.hid (SF _ k7 k8), _, rfl, Lib.hid (SF _ k5.rb k5.fb), Lib.hid ⟨(m2.mono fun _ h => h.elim).trans k6, ?_⟩⟩
      rw [List.map_append, List.map_singleton]
      exact k5)
    clear hI a1 a2 a3 hpl' hpx hm hXn hXn1 hXlt hA1 hXW1 hMM hs hpl hMW hq0 hsf
    gi_wp2_with fail
    refine wpIn_region_heldQ lp (fun W => W.cell? ⟨w.heap.size + 1, 0, none⟩ = some ((.func (.func 44) #[] #[])) ∧ W.cell? ⟨W3.heap.size, 0, none⟩ = some (.slice no q nc) ∧ W.cell? ⟨W3.heap.size, 1, none⟩ = some (.slice fo f fc) ∧ W.cell? ⟨W3.heap.size, 2, none⟩ = some (.int .i64 n)) (fun ⟨_, _, h⟩ => h) rfl hfol ⟨e4, e0, e1, e2⟩ (fun hHeld => ?_)
    refine wpAnyH_take (i := 1) (v := ?_) rfl (by kernel_rfl) (by kernel_rfl) (by kernel_rfl) (fun _ _ _ h => h) (Or.inl ⟨by rfl, ?_⟩) hHeld ?_
    rotate_left 1
    · (intro w' hSw; (try dsimp only at hSw); first | (go_simp; done) | (go_simp; with_reducible rfl))
    change wpAnyH _ _ _ _ _ _ _ (Act.put _ (some 32) _) _
    simp only [Act.put, List.setIfInBounds_toArray, List.set_cons_zero, List.set_cons_succ]
    refine wpAnyH_take (i := 2) (v := ?_) rfl (by kernel_rfl) (by kernel_rfl) (by kernel_rfl) (fun _ _ _ h => h) (Or.inl ⟨by rfl, ?_⟩) hHeld ?_
    rotate_left 1
    · (intro w' hSw; (try dsimp only at hSw); first | (go_simp; done) | (go_simp; with_reducible rfl))
    change wpAnyH _ _ _ _ _ _ _ (Act.put _ (some 33) _) _
    simp only [Act.put, List.setIfInBounds_toArray, List.set_cons_zero, List.set_cons_succ]
    refine wpAnyH_take (i := 3) (v := ?_) rfl (by kernel_rfl) (by kernel_rfl) (by kernel_rfl) (fun _ _ _ h => h) (Or.inl ⟨by rfl, ?_⟩) hHeld ?_
    rotate_left 1
    · (intro w' hSw; (try dsimp only at hSw); first | (go_simp; done) | (go_simp; with_reducible rfl))
    change wpAnyH _ _ _ _ _ _ _ (Act.put _ (some 34) _) _
    simp only [Act.put, List.setIfInBounds_toArray, List.set_cons_zero, List.set_cons_succ]
    refine wpAnyH_ready (rs := [0, 4]) (by kernel_rfl) (by simp) ?_
    refine AllReadyH.cons rfl (fun K hK => ?_) ?_
    focus
      go_simp
      refine hK.out _ _ (hHeld) (fun hHeld => ?_)
      clear hK K
      try simp only [Act.put, List.setIfInBounds_toArray, List.set_cons_zero, List.set_cons_succ]
      refine wpAnyH_ready (rs := [4]) (by kernel_rfl) (by simp) ?_
      refine AllReadyH.cons rfl (fun K hK => ?_) AllReadyH.nil
      go_simp
      refine CON.out.mono ?_
      rintro e W2 ⟨rfl, g, cap', w6, HS2, k0, hlt, hrun, k3, k4, HSA, HS6, w7, HW7E, HS7, HFIN⟩
      replace HW7E := Lib.hid HW7E
      go_wp2_with fail
      refine hK.out _ _ (HS2.out) (fun hHeld => ?_)
      clear hK K
      try simp only [Act.put, List.setIfInBounds_toArray, List.set_cons_zero, List.set_cons_succ]
      refine wpAnyH_ready (rs := [5]) (by kernel_rfl) (by simp) ?_
      refine AllReadyH.cons rfl (fun K hK => ?_) AllReadyH.nil
      go_simp
      refine hK.out _ _ (HSA.out) (fun hHeld => ?_)
      clear hK K
      try simp only [Act.put, List.setIfInBounds_toArray, List.set_cons_zero, List.set_cons_succ]
      refine wpAnyH_ready (rs := [6]) (by kernel_rfl) (by simp) ?_
      refine AllReadyH.cons rfl (fun K hK => ?_) AllReadyH.nil
      go_simp
      refine hK.out _ _ (HS6.out) (fun hHeld => ?_)
      clear hK K
      try simp only [Act.put, List.setIfInBounds_toArray, List.set_cons_zero, List.set_cons_succ]
      refine wpAnyH_ready (rs := [7]) (by kernel_rfl) (by simp) ?_
      refine AllReadyH.cons rfl (fun K hK => ?_) AllReadyH.nil
      go_simp
      rw [HW7E.out]
      refine hK.out _ _ (HS7.out) (fun hHeld => ?_)
      clear hK K
      try simp only [Act.put, List.setIfInBounds_toArray, List.set_cons_zero, List.set_cons_succ]
      refine wpAnyH_done (by kernel_rfl) ?_ _
      gi_wp2
      exact HFIN.out
    refine AllReadyH.cons rfl (fun K hK => ?_) AllReadyH.nil
    go_simp
    refine CON.out.mono ?_
    rintro e W2 ⟨rfl, g, cap', w6, HS2, k0, hlt, hrun, k3, k4, HSA, HS6, w7, HW7E, HS7, HFIN⟩
    replace HW7E := Lib.hid HW7E
    go_wp2_with fail
    refine hK.out _ _ (HS2.out) (fun hHeld => ?_)
    clear hK K
    try simp only [Act.put, List.setIfInBounds_toArray, List.set_cons_zero, List.set_cons_succ]
    refine wpAnyH_ready (rs := [0, 5]) (by kernel_rfl) (by simp) ?_
    refine AllReadyH.cons rfl (fun K hK => ?_) ?_
    focus
      go_simp
      refine hK.out _ _ (HS2.out) (fun hHeld => ?_)
      clear hK K
      try simp only [Act.put, List.setIfInBounds_toArray, List.set_cons_zero, List.set_cons_succ]
      refine wpAnyH_ready (rs := [5]) (by kernel_rfl) (by simp) ?_
      refine AllReadyH.cons rfl (fun K hK => ?_) AllReadyH.nil
      go_simp
      refine hK.out _ _ (HSA.out) (fun hHeld => ?_)
      clear hK K
      try simp only [Act.put, List.setIfInBounds_toArray, List.set_cons_zero, List.set_cons_succ]
      refine wpAnyH_ready (rs := [6]) (by kernel_rfl) (by simp) ?_
      refine AllReadyH.cons rfl (fun K hK => ?_) AllReadyH.nil
      go_simp
      refine hK.out _ _ (HS6.out) (fun hHeld => ?_)
      clear hK K
      try simp only [Act.put, List.setIfInBounds_toArray, List.set_cons_zero, List.set_cons_succ]
      refine wpAnyH_ready (rs := [7]) (by kernel_rfl) (by simp) ?_
      refine AllReadyH.cons rfl (fun K hK => ?_) AllReadyH.nil
      go_simp
      rw [HW7E.out]
      refine hK.out _ _ (HS7.out) (fun hHeld => ?_)
      clear hK K
      try simp only [Act.put, List.setIfInBounds_toArray, List.set_cons_zero, List.set_cons_succ]
      refine wpAnyH_done (by kernel_rfl) ?_ _
      gi_wp2
      exact HFIN.out
    refine AllReadyH.cons rfl (fun K hK => ?_) AllReadyH.nil
    go_simp
    refine hK.out _ _ (HSA.out) (fun hHeld => ?_)
    clear hK K
    try simp only [Act.put, List.setIfInBounds_toArray, List.set_cons_zero, List.set_cons_succ]
    refine wpAnyH_ready (rs := [0]) (by kernel_rfl) (by simp) ?_
    refine AllReadyH.cons rfl (fun K hK => ?_) AllReadyH.nil
    go_simp
    refine hK.out _ _ (HSA.out) (fun hHeld => ?_)
    clear hK K
    try simp only [Act.put, List.setIfInBounds_toArray, List.set_cons_zero, List.set_cons_succ]
    refine wpAnyH_ready (rs := [6]) (by kernel_rfl) (by simp) ?_
    refine AllReadyH.cons rfl (fun K hK => ?_) AllReadyH.nil
    go_simp
    refine hK.out _ _ (HS6.out) (fun hHeld => ?_)
    clear hK K
    try simp only [Act.put, List.setIfInBounds_toArray, List.set_cons_zero, List.set_cons_succ]
    refine wpAnyH_ready (rs := [7]) (by kernel_rfl) (by simp) ?_
    refine AllReadyH.cons rfl (fun K hK => ?_) AllReadyH.nil
    go_simp
    rw [HW7E.out]
    refine hK.out _ _ (HS7.out) (fun hHeld => ?_)
    clear hK K
    try simp only [Act.put, List.setIfInBounds_toArray, List.set_cons_zero, List.set_cons_succ]
    refine wpAnyH_done (by kernel_rfl) ?_ _
    gi_wp2
    exact HFIN.out
  case done =>
    rintro X D W hD hXD hI hX hK
    obtain ⟨v, a1, a2, a3⟩ := hI.ab
    obtain ⟨o1, c1, rfl⟩ := own_form a2
    have hlen : R.length = ll + 1 := by rw [HRL.out, HLN.out]
    rw [List.length_map, hlen] at a1 a2 a3
    have e10 := a1.cell
    have FIN : Hid (P (.returned (.tuple #[.slice o1 (ll + 1) c1, .nilIface])) (W.putObj D (.deferred none))) := Lib.hid (by
      have mp : Moves (fun k => k = D) W (W.putObj D (.deferred none)) := Moves.putObj rfl
      rw [← HP.out]
      unfold TellLQ
      rw [HLN.out, HRE.out]
      exact ⟨o1, c1, rfl, own_movesH a2 mp (fun k hk e => (a3 k hk).1 (by rw [e]; exact hXD)), Moves.below hI.bw hI.bw.size mp (fun k hk => by have := hI.lo D hXD; omega)⟩)
    have HK := Lib.hid hK
    clear hI a1 a2 a3 hX hK hXD hD hlen hMM
    gi_wp2
    refine ⟨by simp, .inl ⟨_, _, rfl, run_takeDeferred HK.out, ?_⟩⟩
    exact ⟨_, results_tmp2 (t := 8) (u := 9) rfl _ _ _, FIN.out⟩
  case stop =>
    rintro X D c pre W _ _ _ h
    exact h.elim
end Go.Proofs.YtaoooocalpkhjaaDoor
namespace Go.Proofs.YtaoooocalpkhjaaDoor
open Go.RowKit Go.Shelf Go.Maps
attribute [local go_sem] Oper.semAt_some

set_option maxRecDepth 100000 in
set_option maxHeartbeats 4000000 in
theorem tellI_wrong (m : MachX) (n : Int) (lo : Option Addr) (ll lcap : Nat) (hB : m.B n = false) (hz : m.rows.length ≤ 1000000000) (hz2 : m.fits.length ≤ 1000000000) (w : World) (aR aM : Addr) (hG : GlobD w aR aM) (hM : MachD w m) :
    Calls Tryd.prog 29 #[m.v, .int .i64 n, (.func (.func 30) #[] #[]), .slice lo ll lcap] w fun e w' => e = .returned (.tuple #[.slice none 0 0, errVQ aM]) ∧ Below w.heap.size w w' := by
  obtain ⟨w0, hw0⟩ : ∃ w0, w.alloc (.cells #[.slice m.no m.rows.length m.nc, .slice m.fo m.fits.length m.fc] 25 (0, 0)) = w0 := ⟨_, rfl⟩
  have b0 : Below w.heap.size w w0 := by rw [← hw0]; exact (Below.refl _ _).alloc (Nat.le_refl _) _
  have r0 : w0.heap[w.heap.size]? = some (.cells #[.slice m.no m.rows.length m.nc, .slice m.fo m.fits.length m.fc] 25 (0, 0)) := by rw [← hw0]; exact heap_alloc_new _ _
  obtain ⟨w1, hw1⟩ : ∃ w1, w0.alloc (.cells #[(.func (.func 30) #[] #[])] 60) = w1 := ⟨_, rfl⟩
  have bb1 : Below w0.heap.size w0 w1 := by rw [← hw1]; exact (Below.refl _ _).alloc (Nat.le_refl _) _
  have b1 := b0.trans (bb1.mono b0.size)
  have hr1 := row_below r0 bb1
  have c0 : w1.cell? ⟨w.heap.size, 0, none⟩ = some (.slice m.no m.rows.length m.nc) := by rw [cell_of_row _ _ 0 _ _ _ hr1]; rfl
  have c1 : w1.cell? ⟨w.heap.size, 1, none⟩ = some (.slice m.fo m.fits.length m.fc) := by rw [cell_of_row _ _ 1 _ _ _ hr1]; rfl
  have HR0 := walkerOf_any m n w1 aR aM (hG.below b1) (hM.below b1) hz hz2
  unfold WlkR at HR0
  rw [if_neg (by rw [hB]; simp)] at HR0
  have HW : Hid ((w.alloc (.cells #[.slice m.no m.rows.length m.nc, .slice m.fo m.fits.length m.fc] 25 (0, 0))).alloc (.cells #[(.func (.func 30) #[] #[])] 60) = w1) := Lib.hid (by rw [hw0, hw1])
  have HB1 := Lib.hid b1
  obtain ⟨no, rows, nc, fo, fits, fc⟩ := m
  simp only at c0 c1 HW
  have HR : Hid (Calls Tryd.prog 46 #[.agg #[.slice no rows.length nc, .slice fo fits.length fc], .int .i64 n] w1 fun e w' => e = .returned (.tuple #[.agg #[.slice none 0 0, .slice none 0 0, .int .i64 0], errVQ aM]) ∧ Below w1.heap.size w1 w') := Lib.hid HR0
  show Calls _ _ #[.agg #[.slice no rows.length nc, .slice fo fits.length fc], .int .i64 n, (.func (.func 30) #[] #[]), .slice lo ll lcap] _ _
  obtain ⟨q, hq⟩ : ∃ q, rows.length = q := ⟨_, rfl⟩
  obtain ⟨f, hf⟩ : ∃ f, fits.length = f := ⟨_, rfl⟩
  rw [hq] at HR c0 HW ⊢
  rw [hf] at HR c1 HW ⊢
  clear hw0 b0 r0 hw1 bb1 b1 hB hG hM hz hz2 HR0 hr1 hq hf
  go_enter Tryd.func29, Tryd.ntmps29
  go_wp2_with fail
  rw [HW.out]
  refine HR.out.mono ?_
  rintro e W3 ⟨rfl, b3⟩
  have HB3 := Lib.hid (HB1.out.trans (b3.mono HB1.out.size))
  obtain ⟨W5, hW5⟩ : ∃ W5, W3.alloc (.cells #[.slice none 0 0, .slice none 0 0, .int .i64 0] 63) = W5 := ⟨_, rfl⟩
  have b5 : Below W3.heap.size W3 W5 := by rw [← hW5]; exact (Below.refl _ _).alloc (Nat.le_refl _) _
  have HW5 := Lib.hid hW5
  have HB5 := Lib.hid (HB3.out.trans (b5.mono HB3.out.size))
  clear hW5 b5 b3
  go_wp2_with fail
  try rw [HW5.out]
  exact bodyPost_ret (results_tmp2 (t := 8) (u := 9) rfl _ _ _) rfl ⟨rfl, HB5.out⟩
set_option maxRecDepth 100000 in
set_option maxHeartbeats 4000000 in
theorem GoD_right (m : MachX) (n : Int) (lo : Option Addr) (L : List Int) (lcap : Nat) (hB : m.B n = true) (hll : L.length ≤ 1000) (w : World) (aR aM : Addr) (hG : GlobD w aR aM) (hM : MachD w m) (hL : NumsAt w lo L) :
    Calls Tryd.prog 12 #[m.v, .int .i64 n, .slice lo L.length lcap] w fun e w' => ∃ o' cap', e = .returned (.tuple #[.slice o' (L.length + 1) cap', .int .i64 0]) ∧ w'.ownsRow (w.heap.size + 1) 3 1 (.slice o' (L.length + 1) cap') (L.length + 1) ((allD (m.rows.map (·.2.1)) n L).map (fun s : Nat => Value.int .i64 ((s : Nat) : Int))) ∧ Below w.heap.size w w' := by
  obtain ⟨w1, hw1⟩ : ∃ w1, w.alloc (.cells #[.slice m.no m.rows.length m.nc, .slice m.fo m.fits.length m.fc] 25) = w1 := ⟨_, rfl⟩
  have b1 : Below w.heap.size w w1 := by rw [← hw1]; exact (Below.refl _ _).alloc (Nat.le_refl _) _
  have r1 : w1.heap[w.heap.size]? = some (.cells #[.slice m.no m.rows.length m.nc, .slice m.fo m.fits.length m.fc] 25 (0, 0)) := by rw [← hw1]; exact heap_alloc_new _ _
  have z1 : w1.heap.size = w.heap.size + 1 := by rw [← hw1]; simp
  have c0 : w1.cell? ⟨w.heap.size, 0, none⟩ = some (.slice m.no m.rows.length m.nc) := by rw [cell_of_row _ _ 0 _ _ _ r1]; rfl
  have c1 : w1.cell? ⟨w.heap.size, 1, none⟩ = some (.slice m.fo m.fits.length m.fc) := by rw [cell_of_row _ _ 1 _ _ _ r1]; rfl
  have HR0 := tellI_right m n lo L lcap hB hll w1 aR aM (hG.below b1) (hM.below b1) (hL.below b1)
  unfold TellIQ at HR0
  have HNUM := Lib.hid (fun W (hb : Below w.heap.size w W) => number_nilD (hG.below hb))
  obtain ⟨vs, hvs⟩ : ∃ vs, (allD (m.rows.map (·.2.1)) n L).map (fun s : Nat => Value.int .i64 ((s : Nat) : Int)) = vs := ⟨_, rfl⟩
  rw [hvs] at HR0 ⊢
  obtain ⟨no, rows, nc, fo, fits, fc⟩ := m
  simp only at c0 c1 hw1
  replace HR0 : Calls Tryd.prog 29 #[.agg #[.slice no rows.length nc, .slice fo fits.length fc], .int .i64 n, (.func (.func 30) #[] #[]), .slice lo L.length lcap] w1 fun e w' => ∃ o' cap', e = .returned (.tuple #[.slice o' (L.length + 1) cap', .nilIface]) ∧ w'.ownsRow (w1.heap.size + 1) 3 1 (.slice o' (L.length + 1) cap') (L.length + 1) vs ∧ Below w1.heap.size w1 w' := HR0
  show Calls _ _ #[.agg #[.slice no rows.length nc, .slice fo fits.length fc], .int .i64 n, .slice lo L.length lcap] _ _
  obtain ⟨q, hq⟩ : ∃ q, rows.length = q := ⟨_, rfl⟩
  obtain ⟨f, hf⟩ : ∃ f, fits.length = f := ⟨_, rfl⟩
  obtain ⟨ll, hln⟩ : ∃ ll, L.length = ll := ⟨_, rfl⟩
  rw [hq] at HR0 c0 hw1 ⊢
  rw [hf] at HR0 c1 hw1 ⊢
  rw [hln] at HR0 ⊢
  have HR := Lib.hid HR0
  have HW1 := Lib.hid hw1
  have HB1 := Lib.hid b1
  have HZ1 := Lib.hid z1
  clear hw1 b1 r1 hB hG hM hL hll HR0 hq hf hln hvs z1
  go_enter Tryd.func12, Tryd.ntmps12
  go_wp2_with fail
  rw [HW1.out]
  refine HR.out.mono ?_
  rintro e W3 ⟨o2, cap2, rfl, hown, b3⟩
  have HB3 := Lib.hid (HB1.out.trans (b3.mono HB1.out.size))
  have HC := Lib.hid (HNUM.out W3 HB3.out)
  have HOW := Lib.hid hown
  clear b3 hown
  go_wp2_with fail
  refine HC.out.mono ?_
  rintro e _ ⟨rfl, rfl⟩
  go_wp2_with fail
  exact bodyPost_ret (results_tmp2 (t := 6) (u := 7) rfl _ _ _) rfl ⟨o2, cap2, rfl, own_base HOW.out (by have := HZ1.out; omega), HB3.out⟩
set_option maxRecDepth 100000 in
set_option maxHeartbeats 4000000 in
theorem GoD_wrong (m : MachX) (n : Int) (lo : Option Addr) (ll lcap : Nat) (hB : m.B n = false) (hz : m.rows.length ≤ 1000000000) (hz2 : m.fits.length ≤ 1000000000) (w : World) (aR aM : Addr) (hG : GlobD w aR aM) (hM : MachD w m) :
    Calls Tryd.prog 12 #[m.v, .int .i64 n, .slice lo ll lcap] w fun e w' => e = .returned (.tuple #[.slice none 0 0, .int .i64 100]) ∧ Below w.heap.size w w' := by
  obtain ⟨w1, hw1⟩ : ∃ w1, w.alloc (.cells #[.slice m.no m.rows.length m.nc, .slice m.fo m.fits.length m.fc] 25) = w1 := ⟨_, rfl⟩
  have b1 : Below w.heap.size w w1 := by rw [← hw1]; exact (Below.refl _ _).alloc (Nat.le_refl _) _
  have r1 : w1.heap[w.heap.size]? = some (.cells #[.slice m.no m.rows.length m.nc, .slice m.fo m.fits.length m.fc] 25 (0, 0)) := by rw [← hw1]; exact heap_alloc_new _ _
  have c0 : w1.cell? ⟨w.heap.size, 0, none⟩ = some (.slice m.no m.rows.length m.nc) := by rw [cell_of_row _ _ 0 _ _ _ r1]; rfl
  have c1 : w1.cell? ⟨w.heap.size, 1, none⟩ = some (.slice m.fo m.fits.length m.fc) := by rw [cell_of_row _ _ 1 _ _ _ r1]; rfl
  have HR0 := tellI_wrong m n lo ll lcap hB hz hz2 w1 aR aM (hG.below b1) (hM.below b1)
  have HNUM := Lib.hid (fun W (hb : Below w.heap.size w W) => number_macD (hG.below hb))
  obtain ⟨no, rows, nc, fo, fits, fc⟩ := m
  simp only at c0 c1 hw1
  replace HR0 : Calls Tryd.prog 29 #[.agg #[.slice no rows.length nc, .slice fo fits.length fc], .int .i64 n, (.func (.func 30) #[] #[]), .slice lo ll lcap] w1 fun e w' => e = .returned (.tuple #[.slice none 0 0, errVQ aM]) ∧ Below w1.heap.size w1 w' := HR0
  show Calls _ _ #[.agg #[.slice no rows.length nc, .slice fo fits.length fc], .int .i64 n, .slice lo ll lcap] _ _
  obtain ⟨q, hq⟩ : ∃ q, rows.length = q := ⟨_, rfl⟩
  obtain ⟨f, hf⟩ : ∃ f, fits.length = f := ⟨_, rfl⟩
  rw [hq] at HR0 c0 hw1 ⊢
  rw [hf] at HR0 c1 hw1 ⊢
  have HR := Lib.hid HR0
  have HW1 := Lib.hid hw1
  have HB1 := Lib.hid b1
  clear hw1 b1 r1 hB hG hM hz hz2 HR0 hq hf
  go_enter Tryd.func12, Tryd.ntmps12
  go_wp2_with fail
  rw [HW1.out]
  refine HR.out.mono ?_
  rintro e W3 ⟨rfl, b3⟩
  have HB3 := Lib.hid (HB1.out.trans (b3.mono HB1.out.size))
  have HC := Lib.hid (HNUM.out W3 HB3.out)
  clear b3
  go_wp2_with fail
  refine HC.out.mono ?_
  rintro e _ ⟨rfl, rfl⟩
  go_wp2_with fail
  exact bodyPost_ret (results_tmp2 (t := 6) (u := 7) rfl _ _ _) rfl ⟨rfl, HB3.out⟩
set_option maxRecDepth 100000 in
set_option maxHeartbeats 4000000 in
theorem FitsD_right (m : MachX) (n : Int) (lo : Option Addr) (L : List Int) (lcap : Nat) (hB : m.B n = true) (hll : L.length ≤ 1000) (w : World) (aR aM : Addr) (hG : GlobD w aR aM) (hM : MachD w m) (hL : NumsAt w lo L) :
    Calls Tryd.prog 26 #[m.v, .int .i64 n, .slice lo L.length lcap] w fun e w' => ∃ o' cap', e = .returned (.tuple #[.slice o' (L.length + 1) cap', .int .i64 0]) ∧ w'.ownsRow (w.heap.size + 1) 2 1 (.slice o' (L.length + 1) cap') (L.length + 1) ((allD (m.rows.map (·.2.1)) n L).map (fun s : Nat => Value.int .i64 (m.fits[s]?.getD 0))) ∧ Below w.heap.size w w' := by
  obtain ⟨w1, hw1⟩ : ∃ w1, w.alloc (.cells #[.slice m.no m.rows.length m.nc, .slice m.fo m.fits.length m.fc] 25) = w1 := ⟨_, rfl⟩
  have b1 : Below w.heap.size w w1 := by rw [← hw1]; exact (Below.refl _ _).alloc (Nat.le_refl _) _
  have r1 : w1.heap[w.heap.size]? = some (.cells #[.slice m.no m.rows.length m.nc, .slice m.fo m.fits.length m.fc] 25 (0, 0)) := by rw [← hw1]; exact heap_alloc_new _ _
  have z1 : w1.heap.size = w.heap.size + 1 := by rw [← hw1]; simp
  have c0 : w1.cell? ⟨w.heap.size, 0, none⟩ = some (.slice m.no m.rows.length m.nc) := by rw [cell_of_row _ _ 0 _ _ _ r1]; rfl
  have c1 : w1.cell? ⟨w.heap.size, 1, none⟩ = some (.slice m.fo m.fits.length m.fc) := by rw [cell_of_row _ _ 1 _ _ _ r1]; rfl
  have HR0 := tellL_right m n lo L lcap hB hll w1 aR aM (hG.below b1) (hM.below b1) (hL.below b1)
  unfold TellLQ at HR0
  have HNUM := Lib.hid (fun W (hb : Below w.heap.size w W) => number_nilD (hG.below hb))
  obtain ⟨vs, hvs⟩ : ∃ vs, (allD (m.rows.map (·.2.1)) n L).map (fun s : Nat => Value.int .i64 (m.fits[s]?.getD 0)) = vs := ⟨_, rfl⟩
  rw [hvs] at HR0 ⊢
  obtain ⟨no, rows, nc, fo, fits, fc⟩ := m
  simp only at c0 c1 hw1
  replace HR0 : Calls Tryd.prog 43 #[.agg #[.slice no rows.length nc, .slice fo fits.length fc], .int .i64 n, (.func (.func 44) #[] #[]), .slice lo L.length lcap] w1 fun e w' => ∃ o' cap', e = .returned (.tuple #[.slice o' (L.length + 1) cap', .nilIface]) ∧ w'.ownsRow (w1.heap.size + 1) 2 1 (.slice o' (L.length + 1) cap') (L.length + 1) vs ∧ Below w1.heap.size w1 w' := HR0
  show Calls _ _ #[.agg #[.slice no rows.length nc, .slice fo fits.length fc], .int .i64 n, .slice lo L.length lcap] _ _
  obtain ⟨q, hq⟩ : ∃ q, rows.length = q := ⟨_, rfl⟩
  obtain ⟨f, hf⟩ : ∃ f, fits.length = f := ⟨_, rfl⟩
  obtain ⟨ll, hln⟩ : ∃ ll, L.length = ll := ⟨_, rfl⟩
  rw [hq] at HR0 c0 hw1 ⊢
  rw [hf] at HR0 c1 hw1 ⊢
  rw [hln] at HR0 ⊢
  have HR := Lib.hid HR0
  have HW1 := Lib.hid hw1
  have HB1 := Lib.hid b1
  have HZ1 := Lib.hid z1
  clear hw1 b1 r1 hB hG hM hL hll HR0 hq hf hln hvs z1
  go_enter Tryd.func26, Tryd.ntmps26
  go_wp2_with fail
  rw [HW1.out]
  refine HR.out.mono ?_
  rintro e W3 ⟨o2, cap2, rfl, hown, b3⟩
  have HB3 := Lib.hid (HB1.out.trans (b3.mono HB1.out.size))
  have HC := Lib.hid (HNUM.out W3 HB3.out)
  have HOW := Lib.hid hown
  clear b3 hown
  go_wp2_with fail
  refine HC.out.mono ?_
  rintro e _ ⟨rfl, rfl⟩
  go_wp2_with fail
  exact bodyPost_ret (results_tmp2 (t := 6) (u := 7) rfl _ _ _) rfl ⟨o2, cap2, rfl, own_base HOW.out (by have := HZ1.out; omega), HB3.out⟩
end Go.Proofs.YtaoooocalpkhjaaDoor
namespace Go.Proofs.YtaoooocalpkhjaaDoor
open Go.RowKit Go.Shelf Go.Maps
attribute [local go_sem] Oper.semAt_some

abbrev exD : List PatP := [(false, [((1 : Int), (0 : Int))])]
theorem ex_runD : runD exD 2 6 = ([[1], [5]], [1, 0, 0, 1, 0, 0]) := by decide +kernel
theorem ex_finD : finD exD 2 = ([[1], [5]], [1, 0, 0, 1, 0, 0]) := by
  have h : ¬ liveD exD 2 6 := by
    unfold liveD
    rw [ex_runD]
    decide
  have := run_stop h (q := 300 * (2 + 1)) (by omega)
  rw [ex_runD] at this
  exact this
theorem ex_RD : finR exD 2 = [[1, 0, 0], [1, 0, 0]] := by
  unfold finR
  rw [ex_finD]
  decide
theorem ex_FD : finF exD 2 = [0, 1] := by
  unfold finF
  rw [ex_finD]
  decide
theorem ex_goD : allD [[1, 0, 0], [1, 0, 0]] 2 [0, 1, 0, 7] = [0, 1, 0, 1, 0] := by decide
theorem ex_go2D : allD [[1, 0, 0], [1, 0, 0]] 2 [0, 1] = [0, 1, 0] := by decide
theorem ex_BD : machB [[1, 0, 0], [1, 0, 0]] [0, 1] 2 = true := by decide
theorem ex_r2D (p q : Nat) : rightsU ([oneX p q 1 2].map plX) 2 = true := by
  show rightsU [((false, [((1 : Int), (0 : Int))]), (false, [((2 : Int), (0 : Int))]), false)] 2 = true
  decide
theorem ex_r1D (p q : Nat) : rightsU ([oneX p q 1 2].map plX) 1 = false := by
  show rightsU [((false, [((1 : Int), (0 : Int))]), (false, [((2 : Int), (0 : Int))]), false)] 1 = false
  decide
theorem row_intsD {W : World} {g : Nat} {t : TypeId} {l : List Int} (h : W.heap[g]? = some (.cells (l.map (Value.int .i64)).toArray t (0, 0))) : NumsAt W (some ⟨g, 0, none⟩) l := fun _ => ⟨g, 0, rfl, fun j x hx => by
  rw [Nat.zero_add, cell_of_row _ _ _ _ _ _ h, List.getElem?_toArray, List.getElem?_map, hx]
  rfl⟩
theorem row_rulD {W : World} {g : Nat} {x : RulX} (h : W.heap[g]? = some (rulO x)) : AtC W (some ⟨g, 0, none⟩) [x] := fun _ => ⟨g, 0, rfl, fun j y hy => by
  match j, hy with
  | 0, hy =>
    cases hy
    obtain ⟨c0, c1, c2, c3, c4⟩ := rul_cells h
    exact ⟨c0, c1, c2, c3, c4⟩
  | j + 1, hy => simp at hy⟩
theorem fewC_one {p q : Nat} {a b : Int} : FewC [oneX p q a b] := fun x hx => by
  rw [List.mem_singleton.1 hx]
  exact ⟨by show 1 ≤ 1000; omega, by show 1 ≤ 1000; omega⟩
set_option maxRecDepth 100000 in
set_option maxHeartbeats 8000000 in
theorem shown12_any (w : World) (aR aM aP aS : Addr) (hG : GlobD w aR aM) (hQ : GlobH w aP aS) : Calls Tryd.prog 9 #[] w fun e w' => e = .returned (.bool true) ∧ Below w.heap.size w w' := by
  have HS1 := Lib.hid (single_any 1 2 w)
  obtain ⟨x, hx⟩ : ∃ x, oneX (w.heap.size + 1) (w.heap.size + 1 + 1) 1 2 = x := ⟨_, rfl⟩
  have hp1 : [x].map leftX = exD := by rw [← hx]; rfl
  have hr2 : rightsU ([x].map plX) (((2 : Nat)) : Int) = true := by rw [← hx]; exact ex_r2D _ _
  have hr1 : rightsU ([x].map plX) 1 = false := by rw [← hx]; exact ex_r1D _ _
  have hfc : FewC [x] := by rw [← hx]; exact fewC_one
  have h300 : (finD ([x].map leftX) 2).1.length ≤ 300 := by rw [hp1, ex_finD]; decide
  have HCO := Lib.hid (fun (o : Option Addr) (W : World) (hb : Below w.heap.size w W) (hA : AtC W o [x]) (hI : ItsC W [x]) => Compile_ok o [x] 1 2 hfc W aR aM aP aS (hG.below hb) (hQ.below hb) hA hI hr2 h300)
  have HCB := Lib.hid (fun (o : Option Addr) (W : World) (hb : Below w.heap.size w W) (hA : AtC W o [x]) (hI : ItsC W [x]) => Compile_bad o [x] 1 1 (by simp) hfc W aR aM (hG.below hb) hA hI hr1)
  rw [hp1] at HCO
  rw [hx] at HS1
  have hxr : rulV x = .agg #[.bool false, .slice (some ⟨w.heap.size + 1, 0, none⟩) 1 1, .bool false, .slice (some ⟨w.heap.size + 1 + 1, 0, none⟩) 1 1, .bool false] := by rw [← hx]; rfl
  have hxo : (rulO x : Obj) = .cells #[.bool false, .slice (some ⟨w.heap.size + 1, 0, none⟩) 1 1, .bool false, .slice (some ⟨w.heap.size + 1 + 1, 0, none⟩) 1 1, .bool false] 42 (0, 0) := by rw [← hx]; rfl
  rw [hxr] at HS1
  have HXO := Lib.hid hxo
  have HGD := Lib.hid hG
  clear hx hp1 hr2 hr1 hfc h300 hxr hxo hG hQ
  go_enter Tryd.func9, Tryd.ntmps9
  go_wp2_with fail
  refine HS1.out.mono ?_
  rintro e W1 ⟨rfl, its1, b1⟩
  obtain ⟨W2, hW2⟩ : ∃ W2, W1.alloc (.cells #[.bool false, .slice (some ⟨w.heap.size + 1, 0, none⟩) 1 1, .bool false, .slice (some ⟨w.heap.size + 1 + 1, 0, none⟩) 1 1, .bool false] 42 (0, 0)) = W2 := ⟨_, rfl⟩
  have b2 : Below W1.heap.size W1 W2 := by rw [← hW2]; exact (Below.refl _ _).alloc (Nat.le_refl _) _
  have r2 : W2.heap[W1.heap.size]? = some (rulO x) := by rw [← hW2, ← HXO.out]; exact heap_alloc_new _ _
  obtain ⟨W3, hW3⟩ : ∃ W3, W2.alloc (.cells #[.bool false, .slice (some ⟨w.heap.size + 1, 0, none⟩) 1 1, .bool false, .slice (some ⟨w.heap.size + 1 + 1, 0, none⟩) 1 1, .bool false] 42 (0, 0)) = W3 := ⟨_, rfl⟩
  have b3 : Below W2.heap.size W2 W3 := by rw [← hW3]; exact (Below.refl _ _).alloc (Nat.le_refl _) _
  have r3 : W3.heap[W2.heap.size]? = some (rulO x) := by rw [← hW3, ← HXO.out]; exact heap_alloc_new _ _
  have B3 := b1.trans ((b2.trans (b3.mono b2.size)).mono b1.size)
  have z2 : W2.heap.size = W1.heap.size + 1 := by rw [← hW2]; simp
  have HC3 := Lib.hid (HCO.out (some ⟨W2.heap.size, 0, none⟩) W3 B3 (row_rulD r3) ((its1.below b2).below b3))
  unfold CompQ at HC3
  rw [z2] at HC3
  have r23 := row_below r2 b3
  have HW3 : Hid ((W1.alloc (.cells #[.bool false, .slice (some ⟨w.heap.size + 1, 0, none⟩) 1 1, .bool false, .slice (some ⟨w.heap.size + 1 + 1, 0, none⟩) 1 1, .bool false] 42)).alloc (.cells #[.bool false, .slice (some ⟨w.heap.size + 1, 0, none⟩) 1 1, .bool false, .slice (some ⟨w.heap.size + 1 + 1, 0, none⟩) 1 1, .bool false] 42) = W3) := Lib.hid (by rw [hW2, hW3])
  have HK : Hid (∀ W, Below W3.heap.size W3 W → Below w.heap.size w W ∧ ItsC W [x] ∧ W.heap[W1.heap.size]? = some (rulO x)) := Lib.hid fun W b => ⟨B3.trans (b.mono B3.size), ((its1.below b2).below b3).below b, row_below r23 b⟩
  clear hW2 hW3 b2 b3 r2 r3 B3 z2 r23 its1 b1 HS1 HCO
  go_wp2_with fail
  rw [HW3.out]
  refine HC3.out.mono ?_
  rintro e W4 ⟨⟨m, rfl, hm1, hm2, hm3, _⟩, b4⟩
  rw [ex_RD] at hm1
  rw [ex_FD] at hm2
  have hB : m.B 2 = true := by show machB (m.rows.map (·.2.1)) m.fits 2 = true; rw [hm1, hm2]; exact ex_BD
  obtain ⟨W5, hW5⟩ : ∃ W5, W4.alloc (.cells #[.slice m.no m.rows.length m.nc, .slice m.fo m.fits.length m.fc] 25) = W5 := ⟨_, rfl⟩
  have b5 : Below W4.heap.size W4 W5 := by rw [← hW5]; exact (Below.refl _ _).alloc (Nat.le_refl _) _
  have r5 : W5.heap[W4.heap.size]? = some (.cells #[.slice m.no m.rows.length m.nc, .slice m.fo m.fits.length m.fc] 25 (0, 0)) := by rw [← hW5]; exact heap_alloc_new _ _
  have z5 : W5.heap.size = W4.heap.size + 1 := by rw [← hW5]; simp
  obtain ⟨W6, hW6⟩ : ∃ W6, W5.alloc (.cells #[.int .i64 0, .int .i64 1, .int .i64 0, .int .i64 7] 3) = W6 := ⟨_, rfl⟩
  have b6 : Below W5.heap.size W5 W6 := by rw [← hW6]; exact (Below.refl _ _).alloc (Nat.le_refl _) _
  have n6 : NumsAt W6 (some ⟨W5.heap.size, 0, none⟩) [0, 1, 0, 7] := by rw [← hW6]; exact row_intsD (heap_alloc_new _ _)
  have B45 := b4.trans (b5.mono b4.size)
  have HK5 : Hid (∀ W, Below W5.heap.size W5 W → (Below w.heap.size w W ∧ ItsC W [x] ∧ W.heap[W1.heap.size]? = some (rulO x)) ∧ MachD W m ∧ W.heap[W4.heap.size]? = some (.cells #[.slice m.no m.rows.length m.nc, .slice m.fo m.fits.length m.fc] 25 (0, 0))) := Lib.hid fun W b => ⟨HK.out W (B45.trans (b.mono B45.size)), (hm3.below b5).below b, row_below r5 b⟩
  have HGO := Lib.hid (GoD_right m 2 (some ⟨W5.heap.size, 0, none⟩) [0, 1, 0, 7] 4 hB (by simp) W6 aR aM (HGD.out.below (HK5.out W6 b6).1.1) (HK5.out W6 b6).2.1 n6)
  rw [hm1, ex_goD, z5] at HGO
  have HFI := Lib.hid (fun (o : Option Addr) (W : World) (hb : Below w.heap.size w W) (hM : MachD W m) (hn : NumsAt W o [0, 1]) => FitsD_right m 2 o [0, 1] 2 hB (by simp) W aR aM (HGD.out.below hb) hM hn)
  rw [hm1, ex_go2D, hm2] at HFI
  have HSM := Lib.hid (fun (m2 : MachX) (W : World) (hM : MachD W m) (hM2 : MachD W m2) => refSameD_any m m2 ⟨by have := congrArg List.length hm1; rw [List.length_map] at this; rw [this]; decide, by rw [hm2]; decide, fun y hy => by
    have : y.2.1 ∈ m.rows.map (·.2.1) := List.mem_map.2 ⟨y, hy, rfl⟩
    rw [hm1] at this
    have h3 : y.2.1 = [1, 0, 0] := by simpa using this
    rw [h3]
    decide⟩ W hM hM2)
  rw [show m.R = [[1, 0, 0], [1, 0, 0]] from hm1, hm2] at HSM
  have HW56 : Hid ((W4.alloc (.cells #[.slice m.no m.rows.length m.nc, .slice m.fo m.fits.length m.fc] 25)).alloc (.cells #[.int .i64 0, .int .i64 1, .int .i64 0, .int .i64 7] 3) = W6) := Lib.hid (by rw [hW5, hW6])
  have HB6 := Lib.hid b6
  clear hm1 hm2 hm3 b4 hB hW5 b5 r5 z5 hW6 b6 n6 B45
  obtain ⟨no, rows, nc, fo, fits, fc⟩ := m
  obtain ⟨q, hq⟩ : ∃ q, rows.length = q := ⟨_, rfl⟩
  obtain ⟨f, hf⟩ : ∃ f, fits.length = f := ⟨_, rfl⟩
  simp only [MachX.v, hq, hf] at HK5 HGO HFI HSM HW56 ⊢
  go_wp2_with fail
  rw [HW56.out]
  refine HGO.out.mono ?_
  rintro e W7 ⟨o7, c7, rfl, own7, b7⟩
  have B7 := HB6.out.trans (b7.mono HB6.out.size)
  obtain ⟨W8, hW8⟩ : ∃ W8, W7.alloc (.cells #[.int .i64 0, .int .i64 1] 3) = W8 := ⟨_, rfl⟩
  have b8 : Below W7.heap.size W7 W8 := by rw [← hW8]; exact (Below.refl _ _).alloc (Nat.le_refl _) _
  have B8 := B7.trans (b8.mono B7.size)
  have n8 : NumsAt W8 (some ⟨W7.heap.size, 0, none⟩) [0, 1] := by rw [← hW8]; exact row_intsD (heap_alloc_new _ _)
  obtain ⟨⟨k1, k2, k3⟩, k4, k5⟩ := HK5.out W8 B8
  obtain ⟨p0, p1⟩ := mac_cells (HK5.out W7 B7).2.2
  have lp := World.block_lt_of_cell? W7 _ p0
  have HC8 := Lib.hid (HFI.out _ W8 k1 k4 n8)
  have HN7 : Hid (NumsAt W7 o7 [0, 1, 0, 1, 0]) := Lib.hid (nums_ownN (l := [0, 1, 0, 1, 0]) own7)
  have HN8 := Lib.hid (HN7.out.below b8)
  have HW8 := Lib.hid hW8
  have HB8 := Lib.hid B8
  clear hW8 b8 n8 k1 k2 k3 k4 k5 own7 b7 B7 B8 HGO HFI HW56 hq hf HN7
  go_wp2_with fail
  rw [HW8.out]
  refine HC8.out.mono ?_
  rintro e W9 ⟨o9, c9, rfl, own9, b9⟩
  have B9 := HB8.out.trans (b9.mono HB8.out.size)
  obtain ⟨⟨k1, k2, k3⟩, k4, k5⟩ := HK5.out W9 B9
  obtain ⟨WA, hWA⟩ : ∃ WA, W9.alloc (.cells #[.bool false, .slice (some ⟨w.heap.size + 1, 0, none⟩) 1 1, .bool false, .slice (some ⟨w.heap.size + 1 + 1, 0, none⟩) 1 1, .bool false] 42 (0, 0)) = WA := ⟨_, rfl⟩
  have bA : Below W9.heap.size W9 WA := by rw [← hWA]; exact (Below.refl _ _).alloc (Nat.le_refl _) _
  have rA : WA.heap[W9.heap.size]? = some (rulO x) := by rw [← hWA, ← HXO.out]; exact heap_alloc_new _ _
  have hru := k3
  rw [HXO.out] at hru
  obtain ⟨u0, u1, u2, u3, u4⟩ := five_cells hru
  have lu := World.block_lt_of_cell? W9 _ u0
  have BA := B9.trans (bA.mono B9.size)
  obtain ⟨⟨l1, l2, l3⟩, l4, l5⟩ := HK5.out WA BA
  have HCA := Lib.hid (HCB.out (some ⟨W9.heap.size, 0, none⟩) WA l1 (row_rulD rA) l2)
  have HN9 : Hid (NumsAt WA o9 [0, 1, 0]) := Lib.hid ((nums_ownZ (l := [0, 1, 0]) own9).below bA)
  have HNA := Lib.hid ((HN8.out.below b9).below bA)
  have HWA := Lib.hid hWA
  have HBA := Lib.hid BA
  clear hWA bA rA hru k1 k2 k3 k4 k5 l1 l2 l3 l4 l5 own9 b9 B9 BA p0 p1 lp HN8 HCB
  go_wp2_with fail
  rw [HWA.out]
  refine HCA.out.mono ?_
  rintro e WB ⟨rfl, bB⟩
  have BB := HBA.out.trans (bB.mono HBA.out.size)
  obtain ⟨WC, hWC⟩ : ∃ WC, WB.alloc (.cells #[.slice none 0 0, .slice none 0 0] 25) = WC := ⟨_, rfl⟩
  have bC : Below WB.heap.size WB WC := by rw [← hWC]; exact (Below.refl _ _).alloc (Nat.le_refl _) _
  have BC := BB.trans (bC.mono BB.size)
  have zC : WC.heap.size = WB.heap.size + 1 := by rw [← hWC]; simp
  obtain ⟨WD, hWD⟩ : ∃ WD, WC.alloc (.cells #[.int .i64 1, .int .i64 0, .int .i64 0] 3) = WD := ⟨_, rfl⟩
  have bD : Below WC.heap.size WC WD := by rw [← hWD]; exact (Below.refl _ _).alloc (Nat.le_refl _) _
  have zD : WD.heap.size = WB.heap.size + 2 := by rw [← hWD]; simp; omega
  have nD : NumsAt WD (some ⟨WB.heap.size + 1, 0, none⟩) [1, 0, 0] := by rw [← hWD, ← zC]; exact row_intsD (heap_alloc_new _ _)
  obtain ⟨WE, hWE⟩ : ∃ WE, WD.alloc (.cells #[.int .i64 1, .int .i64 0, .int .i64 0] 3) = WE := ⟨_, rfl⟩
  have bE : Below WD.heap.size WD WE := by rw [← hWE]; exact (Below.refl _ _).alloc (Nat.le_refl _) _
  have zE : WE.heap.size = WB.heap.size + 3 := by rw [← hWE]; simp; omega
  have nE : NumsAt WE (some ⟨WB.heap.size + 1 + 1, 0, none⟩) [1, 0, 0] := by rw [← hWE, show WB.heap.size + 1 + 1 = WD.heap.size by omega]; exact row_intsD (heap_alloc_new _ _)
  obtain ⟨WF, hWF⟩ : ∃ WF, WE.alloc (.cells #[.slice (some ⟨WB.heap.size + 1, 0, none⟩) 3 3, .slice (some ⟨WB.heap.size + 1 + 1, 0, none⟩) 3 3] 26) = WF := ⟨_, rfl⟩
  have bF : Below WE.heap.size WE WF := by rw [← hWF]; exact (Below.refl _ _).alloc (Nat.le_refl _) _
  have zF : WF.heap.size = WB.heap.size + 4 := by rw [← hWF]; simp; omega
  have rF : WF.heap[WB.heap.size + 1 + 1 + 1]? = some (.cells #[.slice (some ⟨WB.heap.size + 1, 0, none⟩) 3 3, .slice (some ⟨WB.heap.size + 1 + 1, 0, none⟩) 3 3] 26 (0, 0)) := by rw [← hWF, show WB.heap.size + 1 + 1 + 1 = WE.heap.size by omega]; exact heap_alloc_new _ _
  obtain ⟨WG, hWG⟩ : ∃ WG, WF.alloc (.cells #[.int .i64 0, .int .i64 1] 2) = WG := ⟨_, rfl⟩
  have bG : Below WF.heap.size WF WG := by rw [← hWG]; exact (Below.refl _ _).alloc (Nat.le_refl _) _
  have nG : NumsAt WG (some ⟨WB.heap.size + 1 + 1 + 1 + 1, 0, none⟩) [0, 1] := by rw [← hWG, show WB.heap.size + 1 + 1 + 1 + 1 = WF.heap.size by omega]; exact row_intsD (heap_alloc_new _ _)
  have bCG : Below WC.heap.size WC WG := bD.trans ((bE.trans ((bF.trans (bG.mono bF.size)).mono bE.size)).mono bD.size)
  have BG := BC.trans (bCG.mono BC.size)
  obtain ⟨⟨l1, l2, l3⟩, l4, l5⟩ := HK5.out WG BG
  have hM2 : MachD WG ⟨some ⟨WB.heap.size + 1 + 1 + 1, 0, none⟩, [(some ⟨WB.heap.size + 1, 0, none⟩, [1, 0, 0], 3), (some ⟨WB.heap.size + 1 + 1, 0, none⟩, [1, 0, 0], 3)], 2, some ⟨WB.heap.size + 1 + 1 + 1 + 1, 0, none⟩, [0, 1], 2⟩ := by
    have rG := row_below rF bG
    refine ⟨fun _ => ⟨WB.heap.size + 1 + 1 + 1, 0, rfl, fun j y hy => ?_⟩, fun y hy => ?_, nG⟩
    · match j, hy with
      | 0, hy => cases hy; rw [cell_of_row _ _ _ _ _ _ rG]; rfl
      | 1, hy => cases hy; rw [cell_of_row _ _ _ _ _ _ rG]; rfl
      | j + 2, hy => simp at hy
    · rcases List.mem_cons.1 hy with rfl | hy
      · exact ((nD.below bE).below bF).below bG
      · rw [List.mem_singleton.1 hy]
        exact (nE.below bF).below bG
  have HCG := Lib.hid (HSM.out _ WG l4 hM2)
  replace HCG : Hid (Calls Tryd.prog 27 #[.agg #[.slice no q nc, .slice fo f fc], .agg #[.slice (some ⟨WB.heap.size + 1 + 1 + 1, 0, none⟩) 2 2, .slice (some ⟨WB.heap.size + 1 + 1 + 1 + 1, 0, none⟩) 2 2]] WG fun e w' => e = .returned (.bool true) ∧ Below WG.heap.size WG w') := Lib.hid (by
    have := HCG.out
    rwa [decide_eq_true (by exact ⟨rfl, rfl⟩)] at this)
  obtain ⟨p0, p1⟩ := mac_cells (HK5.out WC BC).2.2
  obtain ⟨v0, v1⟩ := mac_cells (HK5.out WB BB).2.2
  have lp := World.block_lt_of_cell? WC _ p0
  have lv := World.block_lt_of_cell? WB _ v0
  have HWG : Hid ((((((WB.alloc (.cells #[.slice none 0 0, .slice none 0 0] 25)).alloc (.cells #[.int .i64 1, .int .i64 0, .int .i64 0] 3)).alloc (.cells #[.int .i64 1, .int .i64 0, .int .i64 0] 3)).alloc (.cells #[.slice (some ⟨WB.heap.size + 1, 0, none⟩) 3 3, .slice (some ⟨WB.heap.size + 1 + 1, 0, none⟩) 3 3] 26)).alloc (.cells #[.int .i64 0, .int .i64 1] 2)) = WG) := Lib.hid (by rw [hWC, hWD, hWE, hWF, hWG])
  have HBG := Lib.hid BG
  have HN9 := Lib.hid ((HN9.out.below bB).below (bC.trans (bCG.mono bC.size)))
  have HNA := Lib.hid ((HNA.out.below bB).below (bC.trans (bCG.mono bC.size)))
  clear hWC bC BC zC hWD bD zD nD hWE bE zE nE hWF bF zF rF hWG bG nG bCG BG l1 l2 l3 l4 l5 hM2 bB BB HSM HBA u0 u1 u2 u3 u4 lu
  go_wp2_with fail
  rw [HWG.out]
  refine HCG.out.mono ?_
  rintro e WH ⟨rfl, bH⟩
  have BH := HBG.out.trans (bH.mono HBG.out.size)
  obtain ⟨WI, hWI⟩ : ∃ WI, WH.alloc (.cells #[.int .i64 0, .int .i64 1, .int .i64 0, .int .i64 1, .int .i64 0] 3) = WI := ⟨_, rfl⟩
  have bI : Below WH.heap.size WH WI := by rw [← hWI]; exact (Below.refl _ _).alloc (Nat.le_refl _) _
  have nI : NumsAt WI (some ⟨WH.heap.size, 0, none⟩) [0, 1, 0, 1, 0] := by rw [← hWI]; exact row_intsD (heap_alloc_new _ _)
  have HCI := Lib.hid (intsR_any o7 (some ⟨WH.heap.size, 0, none⟩) [0, 1, 0, 1, 0] [0, 1, 0, 1, 0] c7 5 (by simp) WI ((HNA.out.below bH).below bI) nI)
  rw [decide_eq_true rfl] at HCI
  have HWI := Lib.hid hWI
  have HBI := Lib.hid (BH.trans (bI.mono BH.size))
  have HN9 := Lib.hid ((HN9.out.below bH).below bI)
  clear hWI bI nI bH BH HBG HNA p0 p1 v0 v1 lp lv
  go_wp2_with fail
  rw [HWI.out]
  refine HCI.out.mono ?_
  rintro e WJ ⟨rfl, bJ⟩
  have BJ := HBI.out.trans (bJ.mono HBI.out.size)
  obtain ⟨WL, hWL⟩ : ∃ WL, WJ.alloc (.cells #[.int .i64 0, .int .i64 1, .int .i64 0] 2) = WL := ⟨_, rfl⟩
  have bL : Below WJ.heap.size WJ WL := by rw [← hWL]; exact (Below.refl _ _).alloc (Nat.le_refl _) _
  have nL : NumsAt WL (some ⟨WJ.heap.size, 0, none⟩) [0, 1, 0] := by rw [← hWL]; exact row_intsD (heap_alloc_new _ _)
  have HCL := Lib.hid (setsL12_any o9 (some ⟨WJ.heap.size, 0, none⟩) [0, 1, 0] [0, 1, 0] c9 3 (by simp) WL ((HN9.out.below bJ).below bL) nL)
  rw [decide_eq_true rfl] at HCL
  have HWL := Lib.hid hWL
  have HBL := Lib.hid (BJ.trans (bL.mono BJ.size))
  clear hWL bL nL bJ BJ HBI HN9
  go_wp2_with fail
  rw [HWL.out]
  refine HCL.out.mono ?_
  rintro e WM ⟨rfl, bM⟩
  have HF := Lib.hid (HK5.out WM (HBL.out.trans (bM.mono HBL.out.size))).1.1
  clear bM HBL
  go_wp2_with fail
  go_ret
  exact ⟨rfl, HF.out⟩
end Go.Proofs.YtaoooocalpkhjaaDoor
namespace Go.Proofs.YtaoooocalpkhjaaDoor
open Go.RowKit Go.Shelf Go.Maps
attribute [local go_sem] Oper.semAt_some

theorem Moves.of_grownD {w w' : World} {row : Option Nat} (h : w.grownBy w' row) : Moves (fun k => some k = row) w w' := ⟨h.os, h.tape, h.output, h.size, fun k hk hn => h.block k hk hn⟩
abbrev mchO (o : Option Addr) (n c : Nat) (fo : Option Addr) (k fc : Nat) : Obj := .cells #[.slice o n c, .slice fo k fc] 25 (0, 0)
theorem mac5 {w : World} {g : Nat} {u v : Value} (h : w.heap[g]? = some (.cells #[u, v] 25 (0, 0))) : w.cell? ⟨g, 0, none⟩ = some u ∧ w.cell? ⟨g, 1, none⟩ = some v ∧ w.frozen? ⟨g, 0, none⟩ = false ∧ w.frozen? ⟨g, 1, none⟩ = false ∧ g < w.heap.size :=
  ⟨by rw [cell_of_row _ _ 0 _ _ _ h]; rfl, by rw [cell_of_row _ _ 1 _ _ _ h]; rfl, frozen_of_row _ _ _ _ _ h, frozen_of_row _ _ _ _ _ h, (Array.getElem?_eq_some_iff.1 h).1⟩
theorem mac_set0 {w : World} {g : Nat} {u v : Value} (a : Value) (h : w.heap[g]? = some (.cells #[u, v] 25 (0, 0))) : (w.setCell ⟨g, 0, none⟩ a).heap[g]? = some (.cells #[a, v] 25 (0, 0)) := by
  rw [heap_setCell_same _ _ _ _ _ _ h]; rfl
theorem mac_set1 {w : World} {g : Nat} {u v : Value} (a : Value) (h : w.heap[g]? = some (.cells #[u, v] 25 (0, 0))) : (w.setCell ⟨g, 1, none⟩ a).heap[g]? = some (.cells #[u, a] 25 (0, 0)) := by
  rw [heap_setCell_same _ _ _ _ _ _ h]; rfl
def slX (x : RowD) : Value := .slice x.1 x.2.1.length x.2.2
theorem infoRowsD : (Tryd.prog.info? 26).map (fun i => (i.zero, i.size, i.bytes)) = some (some (.slice none 0 0), 1, 24) := by kernel_rfl
theorem inQ_own {o : Option Addr} {n c k : Nat} : inQ o k ↔ (Value.slice o n c).ownBlock = some k := by
  unfold inQ
  cases o with
  | none => simp [Value.ownBlock]
  | some a => simp [Value.ownBlock]
def RoomM (m : MachX) : Prop := m.fits.length ≤ m.fc ∧ ∀ x ∈ m.rows, x.2.1.length ≤ x.2.2
end Go.Proofs.YtaoooocalpkhjaaDoor
