/- told, of numbers: the walk. Printed by gentold.py. told, of bools: the walk. Printed by gentold.py. -/
import Derived.Test.YtjacebnlikhjnaaDoorBunA14
namespace Go.Proofs.YtjacebnlikhjnaaDoor
open Go.RowKit Go.Shelf Go.Maps
attribute [local go_sem] Oper.semAt_some
attribute [local go_sem ↓] app_hide

theorem not_ow {M k : Nat} (h : k ≠ M) : ¬ SetsOw (fun _ => False) M k := fun e => e.elim id h
theorem setsR_any (st : Bool) (o lo : Option Addr) (n cap ll lcap : Nat) (m : Option Nat) (w : World) : Calls Tryd.prog 55 #[rnrV st o n cap (.map m), .slice lo ll lcap] w fun e w' => e = .returned (.func (.func 68) #[] #[.pointer (some ⟨w.heap.size, 0, none⟩), .pointer (some ⟨w.heap.size + 1, 0, none⟩)]) ∧ (w.alloc (rnrO st o n cap (.map m))).alloc (.cells #[.slice lo ll lcap] 34) = w' := by
  go_enter Tryd.func55, Tryd.ntmps55
  go_wp2_with fail
  go_ret
  exact ⟨rfl, rfl⟩
def ToldIQ (st : Bool) (xs : List ItemP) (l : List Int) (w : World) (e : Ending) (w' : World) : Prop := ∃ o' cap', e = .returned (.tuple #[.slice o' (l.length + 1) cap', .nilIface]) ∧ w'.ownsRow (w.heap.size + 1) 2 1 (.slice o' (l.length + 1) cap') (l.length + 1) ((runsS xs st l).map (fun s : Nat => Value.int .i64 ((s : Nat) : Int))) ∧ Below w.heap.size w w'
set_option maxRecDepth 100000 in
set_option maxHeartbeats 8000000 in
theorem toldI_right (st : Bool) (o lo : Option Addr) (xs : List ItemP) (l : List Int) (cap lcap : Nat) (hr : rightB xs 32 = true) (hll : l.length ≤ 1000) (w : World) (aP aS : Addr) (hQ : GlobH w aP aS) (hA : AtI w o xs) (hL : NumsAt w lo l) :
    Calls Tryd.prog 39 #[patV st o xs.length cap, (.func (.func 40) #[] #[]), .slice lo l.length lcap] w (ToldIQ st xs l w) := by
  refine (callsIn_wide (n := 5)).1 ?_
  have h1 : 1 ≤ 5 := by omega
  refine callsIn_of_wp_marks Tryd.func39 rfl trivial ?_ rfl
  simp only [Tryd.ntmps39, List.size_toArray, List.length_cons, List.length_nil, Nat.reduceAdd, Nat.reduceSub, Array.replicate_succ, Array.replicate_zero, List.push_toArray, List.append_toArray, List.nil_append, List.cons_append]
  obtain ⟨P, hP⟩ : ∃ P, ToldIQ st xs l w = P := ⟨_, rfl⟩
  have HP := Lib.hid hP
  rw [hP]
  obtain ⟨w0, hw0⟩ : ∃ w0, w.alloc (.cells (patC st o xs.length cap) 24 (0, 0)) = w0 := ⟨_, rfl⟩
  have b0 : Below w.heap.size w w0 := by rw [← hw0]; exact (Below.refl _ _).alloc (Nat.le_refl _) _
  have z0 : w0.heap.size = w.heap.size + 1 := by rw [← hw0]; simp
  have r0 : w0.heap[w.heap.size]? = some (.cells (patC st o xs.length cap) 24 (0, 0)) := by rw [← hw0]; exact heap_alloc_new _ _
  obtain ⟨w1, hw1⟩ : ∃ w1, w0.alloc (.cells #[(.func (.func 40) #[] #[])] 68) = w1 := ⟨_, rfl⟩
  have bb1 : Below w0.heap.size w0 w1 := by rw [← hw1]; exact (Below.refl _ _).alloc (Nat.le_refl _) _
  have z1 : w1.heap.size = w.heap.size + 2 := by rw [← hw1]; simp; omega
  have f1 : Boxed w1 (w.heap.size + 1) 68 (.func (.func 40) #[] #[]) := by rw [← hw1, ← z0]; exact Boxed.new _ _ _
  have b1 := b0.trans (bb1.mono b0.size)
  obtain ⟨c0, c1⟩ := pat_cellsH (row_below r0 bb1)
  have HR := Lib.hid (runnerOf_right st o xs cap hr w1 (hA.below b1))
  obtain ⟨hn10, hhow, hfit⟩ := rightB_fits hr
  have HW : Hid (((w.alloc (.cells (patC st o xs.length cap) 24 (0, 0))).alloc (.cells #[(.func (.func 40) #[] #[])] 68)) = w1) := Lib.hid (by rw [hw0, hw1])
  obtain ⟨i0, hi, hz0, hz1, hz2⟩ := info_parts infoI64H
  have HMK := Lib.hid (fun W => run_makeSlice_owned (P := Tryd.prog) (w := W) (w.heap.size + 1) 36 2 i0 (.int .i64 0) 1 Tryd.underlying36 hi hz0 hz1 .i64 .i64 (l.length + 1) (by omega) (by rw [hz2]; omega) (by unfold maxLen; omega))
  obtain ⟨n, hn⟩ : ∃ n, xs.length = n := ⟨_, rfl⟩
  obtain ⟨ll, hln⟩ : ∃ ll, l.length = ll := ⟨_, rfl⟩
  have hsl : wrap64 (((ll : Nat) : Int) + 1) = ((ll + 1 : Nat) : Int) := by unfold wrap64; omega
  have HLN := Lib.hid hln
  have HN := Lib.hid hn
  have HA := Lib.hid hA
  have HL := Lib.hid hL
  have HGL := Lib.hid hQ
  have HB1 := Lib.hid b1
  have HF1 := Lib.hid f1
  have HZ1 := Lib.hid z1
  have HHW := Lib.hid hhow
  have HFT := Lib.hid hfit
  have HLL := Lib.hid hll
  have HTEN := Lib.hid hn10
  rw [hn] at HR c1 HW HTEN
  rw [hn]
  rw [hln] at HMK HLL
  rw [hln]
  have hll6 := HLL.out
  clear hP hw0 b0 z0 r0 hw1 bb1 z1 f1 b1 hn10 hhow hfit hr hA hL hQ hn hln hi hz0 hz1 hz2 hll
  gi_wp2_with fail
  rw [HW.out]
  refine ⟨trivial, (callsIn_wide.2 HR.out).mono ?_⟩
  rintro e W3 ⟨M, rfl, hM, hWM, b3⟩
  obtain ⟨W5, hW5, r5, b5, z5⟩ := boxR W3 st o n cap (.map (some M))
  have B3 := HB1.out.trans (b3.mono HB1.out.size)
  have hz1' := HZ1.out
  have hs3 := b3.size
  obtain ⟨W6, hmk, hown, hgr⟩ := HMK.out W5 (by omega)
  have m6 := moves_grownH hgr
  have b6 : Below W5.heap.size W5 W6 := ⟨m6.os, m6.tape, m6.output, m6.size, fun k hk => m6.block k hk (by simp)⟩
  have z6 := b6.size
  have l56 := (hown.lt W5.heap.size rfl).2
  obtain ⟨W7, hW7⟩ : ∃ W7, W6.alloc (.cells #[.slice (some ⟨W5.heap.size, 0, none⟩) 0 (ll + 1)] 36) = W7 := ⟨_, rfl⟩
  have b7 : Below W6.heap.size W6 W7 := by rw [← hW7]; exact (Below.refl _ _).alloc (Nat.le_refl _) _
  have z7 : W7.heap.size = W6.heap.size + 1 := by rw [← hW7]; simp
  have k7 : Boxed W7 W6.heap.size 36 (.slice (some ⟨W5.heap.size, 0, none⟩) 0 (ll + 1)) := by rw [← hW7]; exact Boxed.new _ _ _
  obtain ⟨W8, hW8⟩ : ∃ W8, W7.alloc (rnrO st o n cap (.map (some M))) = W8 := ⟨_, rfl⟩
  have b8 : Below W7.heap.size W7 W8 := by rw [← hW8]; exact (Below.refl _ _).alloc (Nat.le_refl _) _
  have z8 : W8.heap.size = W7.heap.size + 1 := by rw [← hW8]; simp
  have k8 : W8.heap[W7.heap.size]? = some (rnrO st o n cap (.map (some M))) := by rw [← hW8]; exact heap_alloc_new _ _
  obtain ⟨W9, hW9⟩ : ∃ W9, W8.alloc (.cells #[.slice lo ll lcap] 34) = W9 := ⟨_, rfl⟩
  have b9 : Below W8.heap.size W8 W9 := by rw [← hW9]; exact (Below.refl _ _).alloc (Nat.le_refl _) _
  have z9 : W9.heap.size = W8.heap.size + 1 := by rw [← hW9]; simp
  have k9 : Boxed W9 (W7.heap.size + 1) 34 (.slice lo ll lcap) := by rw [← hW9, ← z8]; exact Boxed.new _ _ _
  have b79 : Below W7.heap.size W7 W9 := b8.trans (b9.mono (by omega))
  have b69 : Below W6.heap.size W6 W9 := b7.trans (b79.mono (by omega))
  have b59 : Below W5.heap.size W5 W9 := b6.trans (b69.mono (by omega))
  have b39 : Below W3.heap.size W3 W9 := b5.trans (b59.mono (by omega))
  have B9 := B3.trans (b39.mono (by omega))
  have hMl := hWM.lt
  have HSQ := Lib.hid (seqSets (xs := xs) (l := l) (cap := cap) (lcap := lcap) (N := 0) (Rb := W7.heap.size) (Lb := W7.heap.size + 1) (X0 := fun _ => False) (w0 := w) (w := W9) (by rw [HN.out]; exact HTEN.out) HHW.out HFT.out (by rw [HLN.out]; omega) (by omega) HGL.out HA.out HL.out (by omega : w.heap.size ≤ M) (by omega) (by omega)
    (by rw [HN.out, HLN.out]; exact ⟨B9, row_below k8 b9, k9, hWM.below b39, fun _ h => h.elim⟩))
  have HT0 : Hid (ToldI w (w.heap.size + 1) W3.heap.size W6.heap.size W7.heap.size (W7.heap.size + 1) st o n cap M 68 36 2 (.func (.func 40) #[] #[]) ([].map (fun s : Nat => Value.int .i64 ((s : Nat) : Int))) (SetsOw (fun _ => False) M) W9) := Lib.hid ⟨row_below r5 b59, row_below (row_below HF1.out b3) b39, ⟨_, row_below k7 b79, own_below hown b69, fun k hk => by
      obtain rfl : W5.heap.size = k := by simpa [Value.ownBlock] using hk
      exact ⟨not_ow (by omega), by omega, by omega, by omega, by omega, by omega⟩⟩, ⟨not_ow (by omega), not_ow (by omega), not_ow (by omega)⟩, fun k hk => by
      rcases hk with h | h
      · exact h.elim
      · omega, B9, ⟨by omega, by omega⟩⟩
  have HZ : Hid (w.heap.size + 2 ≤ M ∧ M < W3.heap.size ∧ W5.heap.size = W3.heap.size + 1 ∧ W5.heap.size ≤ W6.heap.size ∧ W7.heap.size = W6.heap.size + 1 ∧ W9.heap.size = W7.heap.size + 2) := Lib.hid (by omega)
  obtain ⟨d0, d1, d2⟩ := rnr_cells (row_below r5 b6)
  have hl36 : W3.heap.size < W6.heap.size := by omega
  have HW7 := Lib.hid hW7
  have HW9 : Hid ((W7.alloc (rnrO st o n cap (.map (some M)))).alloc (.cells #[.slice lo ll lcap] 34) = W9) := Lib.hid (by rw [hW8, hW9])
  rw [show ((ll + 1 : Nat) : Int) = ((ll : Nat) : Int) + 1 from by omega] at hmk
  rw [show W5.heap.size = W3.heap.size + 1 from z5] at HW7
  clear hM hWM b3 B3 hs3 hown hgr m6 b6 z6 l56 hW7 b7 z7 k7 hW8 b8 z8 k8 hW9 b9 z9 k9 b79 b69 b59 b39 B9 hMl c0 c1 r5 b5 hz1'
  gi_wp2_with fail
  rw [HW7.out]
  refine ⟨trivial, (callsIn_wide.2 (setsR_any _ _ _ _ _ _ _ _ _)).mono ?_⟩
  rintro e w5' ⟨rfl, hw5'⟩
  rw [HW9.out] at hw5'
  subst hw5'
  gi_wp2_with fail
  have hMM := HZ.out
  refine wpIn_seqX (n := 5) (Ow := SetsOw (fun _ => False) M) (Dep := SetsDep w W7.heap.size (W7.heap.size + 1)) (encs := encC) (all := runsS xs st l) (by omega) rfl (enters_of Tryd.func68 (by kernel_rfl) rfl) (fun x => rfl) HSQ.out
    (fun k hk => by rcases hk with h | h <;> first | exact h.elim | omega) (fun k hk => by rcases hk with h | h | h <;> omega)
    (fun X pre W => ToldI w (w.heap.size + 1) W3.heap.size W6.heap.size W7.heap.size (W7.heap.size + 1) st o n cap M 68 36 2 (.func (.func 40) #[] #[]) (pre.map (fun s : Nat => Value.int .i64 ((s : Nat) : Int))) X W)
    (fun _ _ _ _ => False) ?hI ?hIx ?h0
    (fun _ s => { tmps := #[patV st o n cap, (.func (.func 40) #[] #[]), .slice lo ll lcap, .pointer (some ⟨w.heap.size, 0, none⟩), .pointer (some ⟨w.heap.size + 1, 0, none⟩), undef, .slice none 0 0, .nilIface, .pointer (some ⟨W3.heap.size, 0, none⟩), .nilIface, .pointer (some ⟨W6.heap.size, 0, none⟩), .int .i64 (s : Nat), .tuple #[rnrV st o n cap (.map (some M)), .nilIface], .agg #[.bool st, .slice o n cap], .tuple #[rnrV st o n cap (.map (some M)), .nilIface], rnrV st o n cap (.map (some M)), .nilIface, .nilIface, .bool false, undef, .slice lo ll lcap, .int .i64 (ll : Nat), .int .i64 (((ll : Nat) : Int) + 1), .slice (some ⟨W3.heap.size + 1, 0, none⟩) 0 (ll + 1), .agg #[.bool st, .slice o n cap, .map (some M)], .slice lo ll lcap, .func (.func 68) #[] #[.pointer (some ⟨W7.heap.size, 0, none⟩), .pointer (some ⟨W7.heap.size + 1, 0, none⟩)], .int .i64 (s : Nat), undef, undef, undef, undef, undef, undef, undef, undef], defers := [] })
    (fun A _ B => A = B) (fun A x B h => by rw [h]; exact Moves.refl _ _) ?assign ?body ?done ?stop
  case hI => exact fun X X' ys A C h hm hX => h.moves hm hX
  case hIx => exact fun _ _ _ _ _ _ h _ _ => h
  case h0 => exact HT0.out
  case assign =>
    rintro l2 x A K hK
    clear hMM
    gi_wp2
    first | exact hK _ rfl | rfl
  case body =>
    rintro lp X pre s Aw A' W1 hA1 hpx rfl hm hXn hXn1 hXlt hI
    have hfol : Tryd.prog.follows .mixedOrders = true := by kernel_rfl
    have hpl : pre.length ≤ 1000 := by
      have h2 := hpx.length_le
      have h3 : (runsS xs st l).length = ll + 1 := by unfold runsS; simp [HLN.out]
      rw [List.length_append, List.length_singleton] at h2
      have := HLL.out
      omega
    have hn10 := HTEN.out
    have hs : s < 2 ^ 32 := by
      have hmem := hpx.subset (List.mem_append_right _ (List.mem_singleton.2 rfl))
      obtain ⟨i, _, rfl⟩ := List.mem_map.1 hmem
      refine Nat.lt_of_lt_of_le (run_lt HHW.out _) (Nat.pow_le_pow_right (by decide) ?_)
      rw [HN.out]
      omega
    obtain ⟨v, a1, a2, a3⟩ := hI.ab
    obtain ⟨o1, c1, rfl⟩ := own_form a2
    rw [List.length_map] at a1 a2 a3
    obtain ⟨e0, e1, e2⟩ := rnr_cells hI.rb
    have e4 := hI.fb.cell
    have e10 := a1.cell
    obtain ⟨pl, hpl'⟩ : ∃ pl, pre.length = pl := ⟨_, rfl⟩
    rw [hpl'] at a1 e10
    have hXW1 : ∀ k, X k → k < W1.heap.size := fun k hk => by have := hXlt k hk; have := hm.size; omega
    have CON : Hid (Calls Tryd.prog 40 #[rnrV st o n cap (.map (some M)), .int .i64 (s : Nat)] W1.drew fun e W2 => e = .returned (.int .i64 ((s : Nat) : Int)) ∧ ∃ g cap' w6, Hid (W2.cell? ⟨w.heap.size + 1, 0, none⟩ = some ((.func (.func 40) #[] #[])) ∧ W2.cell? ⟨W3.heap.size, 0, none⟩ = some (.bool st) ∧ W2.cell? ⟨W3.heap.size, 1, none⟩ = some (.slice o n cap) ∧ W2.cell? ⟨W3.heap.size, 2, none⟩ = some (.map (some M))) ∧ W2.cell? ⟨W6.heap.size, 0, none⟩ = some (.slice o1 pl c1) ∧ W6.heap.size < W2.heap.size ∧ (appSem #[36, 36] 36 #[.slice o1 pl c1, .slice (some ⟨W2.heap.size, 0, none⟩) 1 1]).run Tryd.prog (W2.alloc (.cells #[.int .i64 ((s : Nat) : Int)] 2)) = .ok (.slice (some ⟨g, 0, none⟩) (pl + 1) cap') w6 ∧
        w6.cell? ⟨W6.heap.size, 0, none⟩ = some (.slice o1 pl c1) ∧ w6.frozen? ⟨W6.heap.size, 0, none⟩ = false ∧ Hid ((W2.alloc (.cells #[.int .i64 ((s : Nat) : Int)] 2)).cell? ⟨w.heap.size + 1, 0, none⟩ = some ((.func (.func 40) #[] #[])) ∧ (W2.alloc (.cells #[.int .i64 ((s : Nat) : Int)] 2)).cell? ⟨W3.heap.size, 0, none⟩ = some (.bool st) ∧ (W2.alloc (.cells #[.int .i64 ((s : Nat) : Int)] 2)).cell? ⟨W3.heap.size, 1, none⟩ = some (.slice o n cap) ∧ (W2.alloc (.cells #[.int .i64 ((s : Nat) : Int)] 2)).cell? ⟨W3.heap.size, 2, none⟩ = some (.map (some M))) ∧ Hid (w6.cell? ⟨w.heap.size + 1, 0, none⟩ = some ((.func (.func 40) #[] #[])) ∧ w6.cell? ⟨W3.heap.size, 0, none⟩ = some (.bool st) ∧ w6.cell? ⟨W3.heap.size, 1, none⟩ = some (.slice o n cap) ∧ w6.cell? ⟨W3.heap.size, 2, none⟩ = some (.map (some M))) ∧ ∃ w7, w6.setCell ⟨W6.heap.size, 0, none⟩ (.slice (some ⟨g, 0, none⟩) (pl + 1) cap') = w7 ∧ Hid (w7.cell? ⟨w.heap.size + 1, 0, none⟩ = some ((.func (.func 40) #[] #[])) ∧ w7.cell? ⟨W3.heap.size, 0, none⟩ = some (.bool st) ∧ w7.cell? ⟨W3.heap.size, 1, none⟩ = some (.slice o n cap) ∧ w7.cell? ⟨W3.heap.size, 2, none⟩ = some (.map (some M))) ∧
        Hid (Moves (fun k => ¬ X k ∧ ¬ SetsDep w W7.heap.size (W7.heap.size + 1) k) W1 w7 ∧ ToldI w (w.heap.size + 1) W3.heap.size W6.heap.size W7.heap.size (W7.heap.size + 1) st o n cap M 68 36 2 (.func (.func 40) #[] #[]) ((pre ++ [s]).map (fun s : Nat => Value.int .i64 ((s : Nat) : Int))) X w7)) := Lib.hid (by
      refine ((numberR_any st o n cap (some M) ((s : Nat) : Int) W1.drew)).mono ?_
      rintro e W2 ⟨rfl, b2⟩
      have m2 : Moves (fun _ => False) W1 W2 := ((Moves.refl _ _).drew).trans (Moves.of_below b2)
      have I2 := hI.moves (m2.mono fun _ h => h.elim) (X' := X) (fun k hk => ⟨.inl hk, by have := hXW1 k hk; have := m2.size; omega⟩)
      obtain ⟨o', c', g, cap', w6, k1, k2, k3, k4, k5, k6, k7, k8⟩ := I2.app app_i64 (by omega) (fun k hk => by have := hXW1 k hk; have := m2.size; omega) (by rw [List.length_map]; omega) (.int .i64 ((s : Nat) : Int)) ⟨_, rfl⟩
      rw [List.length_map, hpl'] at k1 k2 k3 k5 k6
      have k0 : W2.cell? ⟨W6.heap.size, 0, none⟩ = some (.slice o1 pl c1) := (show Boxed W2 W6.heap.size _ _ from row_keep a1 m2 id).cell
      have ke := Option.some.inj (k1.symm.trans k0)
      obtain ⟨rfl, rfl⟩ : o' = o1 ∧ c' = c1 := by injection ke with q1 q2 q3; exact ⟨q1, q3⟩
      have hbA : Below W2.heap.size W2 (W2.alloc (.cells #[.int .i64 ((s : Nat) : Int)] 2)) := (Below.refl _ _).alloc (Nat.le_refl _) _
      have SF : ∀ W, W.heap[W3.heap.size]? = some (rnrO st o n cap (.map (some M))) → Boxed W (w.heap.size + 1) 68 (.func (.func 40) #[] #[]) → W.cell? ⟨w.heap.size + 1, 0, none⟩ = some ((.func (.func 40) #[] #[])) ∧ W.cell? ⟨W3.heap.size, 0, none⟩ = some (.bool st) ∧ W.cell? ⟨W3.heap.size, 1, none⟩ = some (.slice o n cap) ∧ W.cell? ⟨W3.heap.size, 2, none⟩ = some (.map (some M)) := fun W q1 q2 => ⟨q2.cell, (rnr_cells q1).1, (rnr_cells q1).2.1, (rnr_cells q1).2.2⟩
      refine ⟨rfl, g, cap', w6, Lib.hid (SF _ I2.rb I2.fb), k0, World.block_lt_of_cell? W2 _ k0, k2, k3, k4, Lib.hid (SF _ (row_below I2.rb hbA) (row_below I2.fb hbA)), Lib.hid (SF _ k7 k8), _, rfl, Lib.hid (SF _ k5.rb k5.fb), Lib.hid ⟨(m2.mono fun _ h => h.elim).trans k6, ?_⟩⟩
      rw [List.map_append, List.map_singleton]
      exact k5)
    clear hI a1 a2 a3 hpl' hpx hm hXn hXn1 hXlt hA1 hXW1 hMM hs hpl
    gi_wp2_with fail
    refine wpIn_region_heldQ lp (fun W => W.cell? ⟨w.heap.size + 1, 0, none⟩ = some ((.func (.func 40) #[] #[])) ∧ W.cell? ⟨W3.heap.size, 0, none⟩ = some (.bool st) ∧ W.cell? ⟨W3.heap.size, 1, none⟩ = some (.slice o n cap) ∧ W.cell? ⟨W3.heap.size, 2, none⟩ = some (.map (some M))) (fun ⟨_, _, h⟩ => h) rfl hfol ⟨e4, e0, e1, e2⟩ (fun hHeld => ?_)
    refine wpAnyH_take (i := 1) (v := ?_) rfl (by kernel_rfl) (by kernel_rfl) (by kernel_rfl) (fun _ _ _ h => h) (Or.inl ⟨by rfl, ?_⟩) hHeld ?_
    rotate_left 1
    · (intro w' hSw; (try dsimp only at hSw); first | (go_simp; done) | (go_simp; with_reducible rfl))
    change wpAnyH _ _ _ _ _ _ _ (Act.put _ (some 29) _) _
    simp only [Act.put, List.setIfInBounds_toArray, List.set_cons_zero, List.set_cons_succ]
    refine wpAnyH_take (i := 2) (v := ?_) rfl (by kernel_rfl) (by kernel_rfl) (by kernel_rfl) (fun _ _ _ h => h) (Or.inl ⟨by rfl, ?_⟩) hHeld ?_
    rotate_left 1
    · (intro w' hSw; (try dsimp only at hSw); first | (go_simp; done) | (go_simp; with_reducible rfl))
    change wpAnyH _ _ _ _ _ _ _ (Act.put _ (some 30) _) _
    simp only [Act.put, List.setIfInBounds_toArray, List.set_cons_zero, List.set_cons_succ]
    refine wpAnyH_take (i := 3) (v := ?_) rfl (by kernel_rfl) (by kernel_rfl) (by kernel_rfl) (fun _ _ _ h => h) (Or.inl ⟨by rfl, ?_⟩) hHeld ?_
    rotate_left 1
    · (intro w' hSw; (try dsimp only at hSw); first | (go_simp; done) | (go_simp; with_reducible rfl))
    change wpAnyH _ _ _ _ _ _ _ (Act.put _ (some 31) _) _
    simp only [Act.put, List.setIfInBounds_toArray, List.set_cons_zero, List.set_cons_succ]
    refine wpAnyH_ready (rs := [0, 4]) (by kernel_rfl) (by simp) ?_
    refine AllReadyH.cons rfl (fun K hK => ?_) ?_
    focus
      go_simp
      refine hK.out _ _ (hHeld) (fun hHeld => ?_)
      clear hK K
      try simp only [Act.put, List.setIfInBounds_toArray, List.set_cons_zero, List.set_cons_succ]
      refine wpAnyH_ready (rs := [4]) (by kernel_rfl) (by simp) ?_
      refine AllReadyH.cons rfl (fun K hK => ?_) AllReadyH.nil
      go_simp
      refine CON.out.mono ?_
      rintro e W2 ⟨rfl, g, cap', w6, HS2, k0, hlt, hrun, k3, k4, HSA, HS6, w7, HW7E, HS7, HFIN⟩
      replace HW7E := Lib.hid HW7E
      go_wp2_with fail
      refine hK.out _ _ (HS2.out) (fun hHeld => ?_)
      clear hK K
      try simp only [Act.put, List.setIfInBounds_toArray, List.set_cons_zero, List.set_cons_succ]
      refine wpAnyH_ready (rs := [5]) (by kernel_rfl) (by simp) ?_
      refine AllReadyH.cons rfl (fun K hK => ?_) AllReadyH.nil
      go_simp
      refine hK.out _ _ (HSA.out) (fun hHeld => ?_)
      clear hK K
      try simp only [Act.put, List.setIfInBounds_toArray, List.set_cons_zero, List.set_cons_succ]
      refine wpAnyH_ready (rs := [6]) (by kernel_rfl) (by simp) ?_
      refine AllReadyH.cons rfl (fun K hK => ?_) AllReadyH.nil
      go_simp
      refine hK.out _ _ (HS6.out) (fun hHeld => ?_)
      clear hK K
      try simp only [Act.put, List.setIfInBounds_toArray, List.set_cons_zero, List.set_cons_succ]
      refine wpAnyH_ready (rs := [7]) (by kernel_rfl) (by simp) ?_
      refine AllReadyH.cons rfl (fun K hK => ?_) AllReadyH.nil
      go_simp
      rw [HW7E.out]
      refine hK.out _ _ (HS7.out) (fun hHeld => ?_)
      clear hK K
      try simp only [Act.put, List.setIfInBounds_toArray, List.set_cons_zero, List.set_cons_succ]
      refine wpAnyH_done (by kernel_rfl) ?_ _
      gi_wp2
      exact HFIN.out
    refine AllReadyH.cons rfl (fun K hK => ?_) AllReadyH.nil
    go_simp
    refine CON.out.mono ?_
    rintro e W2 ⟨rfl, g, cap', w6, HS2, k0, hlt, hrun, k3, k4, HSA, HS6, w7, HW7E, HS7, HFIN⟩
    replace HW7E := Lib.hid HW7E
    go_wp2_with fail
    refine hK.out _ _ (HS2.out) (fun hHeld => ?_)
    clear hK K
    try simp only [Act.put, List.setIfInBounds_toArray, List.set_cons_zero, List.set_cons_succ]
    refine wpAnyH_ready (rs := [0, 5]) (by kernel_rfl) (by simp) ?_
    refine AllReadyH.cons rfl (fun K hK => ?_) ?_
    focus
      go_simp
      refine hK.out _ _ (HS2.out) (fun hHeld => ?_)
      clear hK K
      try simp only [Act.put, List.setIfInBounds_toArray, List.set_cons_zero, List.set_cons_succ]
      refine wpAnyH_ready (rs := [5]) (by kernel_rfl) (by simp) ?_
      refine AllReadyH.cons rfl (fun K hK => ?_) AllReadyH.nil
      go_simp
      refine hK.out _ _ (HSA.out) (fun hHeld => ?_)
      clear hK K
      try simp only [Act.put, List.setIfInBounds_toArray, List.set_cons_zero, List.set_cons_succ]
      refine wpAnyH_ready (rs := [6]) (by kernel_rfl) (by simp) ?_
      refine AllReadyH.cons rfl (fun K hK => ?_) AllReadyH.nil
      go_simp
      refine hK.out _ _ (HS6.out) (fun hHeld => ?_)
      clear hK K
      try simp only [Act.put, List.setIfInBounds_toArray, List.set_cons_zero, List.set_cons_succ]
      refine wpAnyH_ready (rs := [7]) (by kernel_rfl) (by simp) ?_
      refine AllReadyH.cons rfl (fun K hK => ?_) AllReadyH.nil
      go_simp
      rw [HW7E.out]
      refine hK.out _ _ (HS7.out) (fun hHeld => ?_)
      clear hK K
      try simp only [Act.put, List.setIfInBounds_toArray, List.set_cons_zero, List.set_cons_succ]
      refine wpAnyH_done (by kernel_rfl) ?_ _
      gi_wp2
      exact HFIN.out
    refine AllReadyH.cons rfl (fun K hK => ?_) AllReadyH.nil
    go_simp
    refine hK.out _ _ (HSA.out) (fun hHeld => ?_)
    clear hK K
    try simp only [Act.put, List.setIfInBounds_toArray, List.set_cons_zero, List.set_cons_succ]
    refine wpAnyH_ready (rs := [0]) (by kernel_rfl) (by simp) ?_
    refine AllReadyH.cons rfl (fun K hK => ?_) AllReadyH.nil
    go_simp
    refine hK.out _ _ (HSA.out) (fun hHeld => ?_)
    clear hK K
    try simp only [Act.put, List.setIfInBounds_toArray, List.set_cons_zero, List.set_cons_succ]
    refine wpAnyH_ready (rs := [6]) (by kernel_rfl) (by simp) ?_
    refine AllReadyH.cons rfl (fun K hK => ?_) AllReadyH.nil
    go_simp
    refine hK.out _ _ (HS6.out) (fun hHeld => ?_)
    clear hK K
    try simp only [Act.put, List.setIfInBounds_toArray, List.set_cons_zero, List.set_cons_succ]
    refine wpAnyH_ready (rs := [7]) (by kernel_rfl) (by simp) ?_
    refine AllReadyH.cons rfl (fun K hK => ?_) AllReadyH.nil
    go_simp
    rw [HW7E.out]
    refine hK.out _ _ (HS7.out) (fun hHeld => ?_)
    clear hK K
    try simp only [Act.put, List.setIfInBounds_toArray, List.set_cons_zero, List.set_cons_succ]
    refine wpAnyH_done (by kernel_rfl) ?_ _
    gi_wp2
    exact HFIN.out
  case done =>
    rintro X D W hD hXD hI hX hK
    obtain ⟨v, a1, a2, a3⟩ := hI.ab
    obtain ⟨o1, c1, rfl⟩ := own_form a2
    have hlen : (runsS xs st l).length = ll + 1 := by unfold runsS; simp [HLN.out]
    rw [List.length_map, hlen] at a1 a2 a3
    have e10 := a1.cell
    have FIN : Hid (P (.returned (.tuple #[.slice o1 (ll + 1) c1, .nilIface])) (W.putObj D (.deferred none))) := Lib.hid (by
      have mp : Moves (fun k => k = D) W (W.putObj D (.deferred none)) := Moves.putObj rfl
      rw [← HP.out]
      unfold ToldIQ
      rw [HLN.out]
      exact ⟨o1, c1, rfl, own_movesH a2 mp (fun k hk e => (a3 k hk).1 (by rw [e]; exact hXD)), Moves.below hI.bw hI.bw.size mp (fun k hk => by have := hI.lo D hXD; omega)⟩)
    have HK := Lib.hid hK
    clear hI a1 a2 a3 hX hK hXD hD hlen hMM
    gi_wp2
    refine ⟨by simp, .inl ⟨_, _, rfl, run_takeDeferred HK.out, ?_⟩⟩
    exact ⟨_, results_tmp2 (t := 6) (u := 7) rfl _ _ _, FIN.out⟩
  case stop =>
    rintro X D c pre W _ _ _ h
    exact h.elim
set_option maxRecDepth 100000 in
set_option maxHeartbeats 4000000 in
theorem toldI_wrong (st : Bool) (o lo : Option Addr) (xs : List ItemP) (l : List Int) (cap lcap : Nat) (hxl : xs.length ≤ 1000000) (hr : rightB xs 32 = false) (w : World) (aP aS : Addr) (hQ : GlobH w aP aS) (hA : AtI w o xs) :
    Calls Tryd.prog 39 #[patV st o xs.length cap, (.func (.func 40) #[] #[]), .slice lo l.length lcap] w fun e w' => e = .returned (.tuple #[.slice none 0 0, errVQ aP]) ∧ Below w.heap.size w w' := by
  obtain ⟨w0, hw0⟩ : ∃ w0, w.alloc (.cells (patC st o xs.length cap) 24 (0, 0)) = w0 := ⟨_, rfl⟩
  have b0 : Below w.heap.size w w0 := by rw [← hw0]; exact (Below.refl _ _).alloc (Nat.le_refl _) _
  have r0 : w0.heap[w.heap.size]? = some (.cells (patC st o xs.length cap) 24 (0, 0)) := by rw [← hw0]; exact heap_alloc_new _ _
  obtain ⟨w1, hw1⟩ : ∃ w1, w0.alloc (.cells #[(.func (.func 40) #[] #[])] 68) = w1 := ⟨_, rfl⟩
  have bb1 : Below w0.heap.size w0 w1 := by rw [← hw1]; exact (Below.refl _ _).alloc (Nat.le_refl _) _
  have b1 := b0.trans (bb1.mono b0.size)
  obtain ⟨c0, c1⟩ := pat_cellsH (row_below r0 bb1)
  have HR := Lib.hid (runnerOf_wrong st o xs cap hxl hr w1 aP aS (hQ.below b1) (hA.below b1))
  have HW : Hid (((w.alloc (.cells (patC st o xs.length cap) 24 (0, 0))).alloc (.cells #[(.func (.func 40) #[] #[])] 68)) = w1) := Lib.hid (by rw [hw0, hw1])
  have HB1 := Lib.hid b1
  obtain ⟨n, hn⟩ : ∃ n, xs.length = n := ⟨_, rfl⟩
  obtain ⟨ll, hln⟩ : ∃ ll, l.length = ll := ⟨_, rfl⟩
  rw [hn] at HR c1 HW ⊢
  rw [hln]
  clear hw0 b0 r0 hw1 bb1 b1 hxl hr hQ hA hn hln
  go_enter Tryd.func39, Tryd.ntmps39
  go_wp2_with fail
  rw [HW.out]
  refine HR.out.mono ?_
  rintro e W3 ⟨rfl, b3⟩
  have HB3 := Lib.hid (HB1.out.trans (b3.mono HB1.out.size))
  obtain ⟨W5, hW5, r5, b5, z5⟩ := boxR W3 false none 0 0 (.map none)
  have HW5 := Lib.hid hW5
  have HB5 := Lib.hid (HB3.out.trans (b5.mono HB3.out.size))
  clear hW5 r5 b5 z5 b3
  go_wp2_with fail
  try rw [HW5.out]
  exact bodyPost_ret (results_tmp2 (t := 6) (u := 7) rfl _ _ _) rfl ⟨rfl, HB5.out⟩
set_option maxRecDepth 100000 in
set_option maxHeartbeats 4000000 in
theorem Run_right (st : Bool) (o lo : Option Addr) (xs : List ItemP) (l : List Int) (cap lcap : Nat) (hr : rightB xs 32 = true) (hll : l.length ≤ 1000) (w : World) (aP aS : Addr) (hQ : GlobH w aP aS) (hA : AtI w o xs) (hL : NumsAt w lo l) :
    Calls Tryd.prog 19 #[patV st o xs.length cap, .slice lo l.length lcap] w fun e w' => ∃ o' cap', e = .returned (.tuple #[.slice o' (l.length + 1) cap', .int .i64 0]) ∧ w'.ownsRow (w.heap.size + 1) 2 1 (.slice o' (l.length + 1) cap') (l.length + 1) ((runsS xs st l).map (fun s : Nat => Value.int .i64 ((s : Nat) : Int))) ∧ Below w.heap.size w w' := by
  obtain ⟨w1, hw1⟩ : ∃ w1, w.alloc (.cells (patC st o xs.length cap) 24 (0, 0)) = w1 := ⟨_, rfl⟩
  have b1 : Below w.heap.size w w1 := by rw [← hw1]; exact (Below.refl _ _).alloc (Nat.le_refl _) _
  have r1 : w1.heap[w.heap.size]? = some (.cells (patC st o xs.length cap) 24 (0, 0)) := by rw [← hw1]; exact heap_alloc_new _ _
  have z1 : w1.heap.size = w.heap.size + 1 := by rw [← hw1]; simp
  obtain ⟨c0, c1⟩ := pat_cellsH r1
  have HR := Lib.hid (toldI_right st o lo xs l cap lcap hr hll w1 aP aS (hQ.below b1) (hA.below b1) (hL.below b1))
  unfold ToldIQ at HR
  obtain ⟨vs, hvs⟩ : ∃ vs, (runsS xs st l).map (fun s : Nat => Value.int .i64 ((s : Nat) : Int)) = vs := ⟨_, rfl⟩
  have HNUM := Lib.hid (fun W (hb : Below w.heap.size w W) => number_nilH (hQ.below hb))
  obtain ⟨n, hn⟩ : ∃ n, xs.length = n := ⟨_, rfl⟩
  obtain ⟨ll, hln⟩ : ∃ ll, l.length = ll := ⟨_, rfl⟩
  rw [hn] at HR c1 hw1 ⊢
  rw [hln] at HR ⊢
  rw [hvs] at HR ⊢
  have HW1 := Lib.hid hw1
  have HB1 := Lib.hid b1
  have HZ1 := Lib.hid z1
  clear hw1 b1 r1 hn hA hr hQ hln hvs z1 hll hL
  go_enter Tryd.func19, Tryd.ntmps19
  go_wp2_with fail
  rw [HW1.out]
  refine HR.out.mono ?_
  rintro e W3 ⟨o2, cap2, rfl, hown, b3⟩
  have HB3 := Lib.hid (HB1.out.trans (b3.mono HB1.out.size))
  have HC := Lib.hid (HNUM.out W3 HB3.out)
  have HOW := Lib.hid hown
  clear b3 hown
  go_wp2_with fail
  refine HC.out.mono ?_
  rintro e _ ⟨rfl, rfl⟩
  go_wp2_with fail
  exact bodyPost_ret (results_tmp2 (t := 4) (u := 5) rfl _ _ _) rfl ⟨o2, cap2, rfl, own_base HOW.out (by have := HZ1.out; omega), HB3.out⟩
set_option maxRecDepth 100000 in
set_option maxHeartbeats 4000000 in
theorem Run_wrong (st : Bool) (o lo : Option Addr) (xs : List ItemP) (l : List Int) (cap lcap : Nat) (hxl : xs.length ≤ 1000000) (hr : rightB xs 32 = false) (w : World) (aP aS : Addr) (hQ : GlobH w aP aS) (hA : AtI w o xs) :
    Calls Tryd.prog 19 #[patV st o xs.length cap, .slice lo l.length lcap] w fun e w' => e = .returned (.tuple #[.slice none 0 0, .int .i64 80]) ∧ Below w.heap.size w w' := by
  obtain ⟨w1, hw1⟩ : ∃ w1, w.alloc (.cells (patC st o xs.length cap) 24 (0, 0)) = w1 := ⟨_, rfl⟩
  have b1 : Below w.heap.size w w1 := by rw [← hw1]; exact (Below.refl _ _).alloc (Nat.le_refl _) _
  have r1 : w1.heap[w.heap.size]? = some (.cells (patC st o xs.length cap) 24 (0, 0)) := by rw [← hw1]; exact heap_alloc_new _ _
  have z1 : w1.heap.size = w.heap.size + 1 := by rw [← hw1]; simp
  obtain ⟨c0, c1⟩ := pat_cellsH r1
  have HR := Lib.hid (toldI_wrong st o lo xs l cap lcap hxl hr w1 aP aS (hQ.below b1) (hA.below b1))
  skip
  obtain ⟨vs, hvs⟩ : ∃ vs, (runsS xs st l).map (fun s : Nat => Value.int .i64 ((s : Nat) : Int)) = vs := ⟨_, rfl⟩
  have HNUM := Lib.hid (fun W (hb : Below w.heap.size w W) => number_patH (hQ.below hb))
  obtain ⟨n, hn⟩ : ∃ n, xs.length = n := ⟨_, rfl⟩
  obtain ⟨ll, hln⟩ : ∃ ll, l.length = ll := ⟨_, rfl⟩
  rw [hn] at HR c1 hw1 ⊢
  rw [hln] at HR ⊢
  skip
  have HW1 := Lib.hid hw1
  have HB1 := Lib.hid b1
  have HZ1 := Lib.hid z1
  clear hw1 b1 r1 hn hA hr hQ hln hvs z1 hxl
  go_enter Tryd.func19, Tryd.ntmps19
  go_wp2_with fail
  rw [HW1.out]
  refine HR.out.mono ?_
  rintro e W3 ⟨rfl, b3⟩
  have HB3 := Lib.hid (HB1.out.trans (b3.mono HB1.out.size))
  have HC := Lib.hid (HNUM.out W3 HB3.out)
  skip
  clear b3 
  go_wp2_with fail
  refine HC.out.mono ?_
  rintro e _ ⟨rfl, rfl⟩
  go_wp2_with fail
  exact bodyPost_ret (results_tmp2 (t := 4) (u := 5) rfl _ _ _) rfl ⟨rfl, HB3.out⟩
end Go.Proofs.YtjacebnlikhjnaaDoor

namespace Go.Proofs.YtjacebnlikhjnaaDoor
open Go.RowKit Go.Shelf Go.Maps
attribute [local go_sem] Oper.semAt_some
attribute [local go_sem ↓] app_hide

theorem doneQ_any (st : Bool) (o : Option Addr) {xs : List ItemP} {n : Nat} (cap : Nat) (m : Option Nat) (hn : xs.length = n) (hn10 : n ≤ 10) {s : Nat} (hs : s < 2 ^ 32) (w : World) : Calls Tryd.prog 35 #[rnrV st o n cap (.map m), .int .i64 (s : Nat)] w fun e w' => e = .returned (.bool (doneS xs s)) ∧ Below w.heap.size w w' := by
  unfold doneS
  rw [hn]
  exact doneR_any st o n cap m hn10 s hs w
def ToldBQ (st : Bool) (xs : List ItemP) (l : List Int) (w : World) (e : Ending) (w' : World) : Prop := ∃ o' cap', e = .returned (.tuple #[.slice o' (l.length + 1) cap', .nilIface]) ∧ w'.ownsRow (w.heap.size + 1) 4 1 (.slice o' (l.length + 1) cap') (l.length + 1) ((runsS xs st l).map (fun s : Nat => Value.bool (doneS xs s))) ∧ Below w.heap.size w w'
set_option maxRecDepth 100000 in
set_option maxHeartbeats 8000000 in
theorem toldB_right (st : Bool) (o lo : Option Addr) (xs : List ItemP) (l : List Int) (cap lcap : Nat) (hr : rightB xs 32 = true) (hll : l.length ≤ 1000) (w : World) (aP aS : Addr) (hQ : GlobH w aP aS) (hA : AtI w o xs) (hL : NumsAt w lo l) :
    Calls Tryd.prog 41 #[patV st o xs.length cap, (.func (.func 35) #[] #[]), .slice lo l.length lcap] w (ToldBQ st xs l w) := by
  refine (callsIn_wide (n := 5)).1 ?_
  have h1 : 1 ≤ 5 := by omega
  refine callsIn_of_wp_marks Tryd.func41 rfl trivial ?_ rfl
  simp only [Tryd.ntmps41, List.size_toArray, List.length_cons, List.length_nil, Nat.reduceAdd, Nat.reduceSub, Array.replicate_succ, Array.replicate_zero, List.push_toArray, List.append_toArray, List.nil_append, List.cons_append]
  obtain ⟨P, hP⟩ : ∃ P, ToldBQ st xs l w = P := ⟨_, rfl⟩
  have HP := Lib.hid hP
  rw [hP]
  obtain ⟨w0, hw0⟩ : ∃ w0, w.alloc (.cells (patC st o xs.length cap) 24 (0, 0)) = w0 := ⟨_, rfl⟩
  have b0 : Below w.heap.size w w0 := by rw [← hw0]; exact (Below.refl _ _).alloc (Nat.le_refl _) _
  have z0 : w0.heap.size = w.heap.size + 1 := by rw [← hw0]; simp
  have r0 : w0.heap[w.heap.size]? = some (.cells (patC st o xs.length cap) 24 (0, 0)) := by rw [← hw0]; exact heap_alloc_new _ _
  obtain ⟨w1, hw1⟩ : ∃ w1, w0.alloc (.cells #[(.func (.func 35) #[] #[])] 72) = w1 := ⟨_, rfl⟩
  have bb1 : Below w0.heap.size w0 w1 := by rw [← hw1]; exact (Below.refl _ _).alloc (Nat.le_refl _) _
  have z1 : w1.heap.size = w.heap.size + 2 := by rw [← hw1]; simp; omega
  have f1 : Boxed w1 (w.heap.size + 1) 72 (.func (.func 35) #[] #[]) := by rw [← hw1, ← z0]; exact Boxed.new _ _ _
  have b1 := b0.trans (bb1.mono b0.size)
  obtain ⟨c0, c1⟩ := pat_cellsH (row_below r0 bb1)
  have HR := Lib.hid (runnerOf_right st o xs cap hr w1 (hA.below b1))
  obtain ⟨hn10, hhow, hfit⟩ := rightB_fits hr
  have HW : Hid (((w.alloc (.cells (patC st o xs.length cap) 24 (0, 0))).alloc (.cells #[(.func (.func 35) #[] #[])] 72)) = w1) := Lib.hid (by rw [hw0, hw1])
  obtain ⟨i0, hi, hz0, hz1, hz2⟩ := info_parts infoBolH
  have HMK := Lib.hid (fun W => run_makeSlice_owned (P := Tryd.prog) (w := W) (w.heap.size + 1) 39 4 i0 (.bool false) 1 Tryd.underlying39 hi hz0 hz1 .i64 .i64 (l.length + 1) (by omega) (by rw [hz2]; omega) (by unfold maxLen; omega))
  obtain ⟨n, hn⟩ : ∃ n, xs.length = n := ⟨_, rfl⟩
  obtain ⟨ll, hln⟩ : ∃ ll, l.length = ll := ⟨_, rfl⟩
  have hsl : wrap64 (((ll : Nat) : Int) + 1) = ((ll + 1 : Nat) : Int) := by unfold wrap64; omega
  have HLN := Lib.hid hln
  have HN := Lib.hid hn
  have HA := Lib.hid hA
  have HL := Lib.hid hL
  have HGL := Lib.hid hQ
  have HB1 := Lib.hid b1
  have HF1 := Lib.hid f1
  have HZ1 := Lib.hid z1
  have HHW := Lib.hid hhow
  have HFT := Lib.hid hfit
  have HLL := Lib.hid hll
  have HTEN := Lib.hid hn10
  rw [hn] at HR c1 HW HTEN
  rw [hn]
  rw [hln] at HMK HLL
  rw [hln]
  have hll6 := HLL.out
  clear hP hw0 b0 z0 r0 hw1 bb1 z1 f1 b1 hn10 hhow hfit hr hA hL hQ hn hln hi hz0 hz1 hz2 hll
  gi_wp2_with fail
  rw [HW.out]
  refine ⟨trivial, (callsIn_wide.2 HR.out).mono ?_⟩
  rintro e W3 ⟨M, rfl, hM, hWM, b3⟩
  obtain ⟨W5, hW5, r5, b5, z5⟩ := boxR W3 st o n cap (.map (some M))
  have B3 := HB1.out.trans (b3.mono HB1.out.size)
  have hz1' := HZ1.out
  have hs3 := b3.size
  obtain ⟨W6, hmk, hown, hgr⟩ := HMK.out W5 (by omega)
  have m6 := moves_grownH hgr
  have b6 : Below W5.heap.size W5 W6 := ⟨m6.os, m6.tape, m6.output, m6.size, fun k hk => m6.block k hk (by simp)⟩
  have z6 := b6.size
  have l56 := (hown.lt W5.heap.size rfl).2
  obtain ⟨W7, hW7⟩ : ∃ W7, W6.alloc (.cells #[.slice (some ⟨W5.heap.size, 0, none⟩) 0 (ll + 1)] 39) = W7 := ⟨_, rfl⟩
  have b7 : Below W6.heap.size W6 W7 := by rw [← hW7]; exact (Below.refl _ _).alloc (Nat.le_refl _) _
  have z7 : W7.heap.size = W6.heap.size + 1 := by rw [← hW7]; simp
  have k7 : Boxed W7 W6.heap.size 39 (.slice (some ⟨W5.heap.size, 0, none⟩) 0 (ll + 1)) := by rw [← hW7]; exact Boxed.new _ _ _
  obtain ⟨W8, hW8⟩ : ∃ W8, W7.alloc (rnrO st o n cap (.map (some M))) = W8 := ⟨_, rfl⟩
  have b8 : Below W7.heap.size W7 W8 := by rw [← hW8]; exact (Below.refl _ _).alloc (Nat.le_refl _) _
  have z8 : W8.heap.size = W7.heap.size + 1 := by rw [← hW8]; simp
  have k8 : W8.heap[W7.heap.size]? = some (rnrO st o n cap (.map (some M))) := by rw [← hW8]; exact heap_alloc_new _ _
  obtain ⟨W9, hW9⟩ : ∃ W9, W8.alloc (.cells #[.slice lo ll lcap] 34) = W9 := ⟨_, rfl⟩
  have b9 : Below W8.heap.size W8 W9 := by rw [← hW9]; exact (Below.refl _ _).alloc (Nat.le_refl _) _
  have z9 : W9.heap.size = W8.heap.size + 1 := by rw [← hW9]; simp
  have k9 : Boxed W9 (W7.heap.size + 1) 34 (.slice lo ll lcap) := by rw [← hW9, ← z8]; exact Boxed.new _ _ _
  have b79 : Below W7.heap.size W7 W9 := b8.trans (b9.mono (by omega))
  have b69 : Below W6.heap.size W6 W9 := b7.trans (b79.mono (by omega))
  have b59 : Below W5.heap.size W5 W9 := b6.trans (b69.mono (by omega))
  have b39 : Below W3.heap.size W3 W9 := b5.trans (b59.mono (by omega))
  have B9 := B3.trans (b39.mono (by omega))
  have hMl := hWM.lt
  have HSQ := Lib.hid (seqSets (xs := xs) (l := l) (cap := cap) (lcap := lcap) (N := 0) (Rb := W7.heap.size) (Lb := W7.heap.size + 1) (X0 := fun _ => False) (w0 := w) (w := W9) (by rw [HN.out]; exact HTEN.out) HHW.out HFT.out (by rw [HLN.out]; omega) (by omega) HGL.out HA.out HL.out (by omega : w.heap.size ≤ M) (by omega) (by omega)
    (by rw [HN.out, HLN.out]; exact ⟨B9, row_below k8 b9, k9, hWM.below b39, fun _ h => h.elim⟩))
  have HT0 : Hid (ToldI w (w.heap.size + 1) W3.heap.size W6.heap.size W7.heap.size (W7.heap.size + 1) st o n cap M 72 39 4 (.func (.func 35) #[] #[]) ([].map (fun s : Nat => Value.bool (doneS xs s))) (SetsOw (fun _ => False) M) W9) := Lib.hid ⟨row_below r5 b59, row_below (row_below HF1.out b3) b39, ⟨_, row_below k7 b79, own_below hown b69, fun k hk => by
      obtain rfl : W5.heap.size = k := by simpa [Value.ownBlock] using hk
      exact ⟨not_ow (by omega), by omega, by omega, by omega, by omega, by omega⟩⟩, ⟨not_ow (by omega), not_ow (by omega), not_ow (by omega)⟩, fun k hk => by
      rcases hk with h | h
      · exact h.elim
      · omega, B9, ⟨by omega, by omega⟩⟩
  have HZ : Hid (w.heap.size + 2 ≤ M ∧ M < W3.heap.size ∧ W5.heap.size = W3.heap.size + 1 ∧ W5.heap.size ≤ W6.heap.size ∧ W7.heap.size = W6.heap.size + 1 ∧ W9.heap.size = W7.heap.size + 2) := Lib.hid (by omega)
  obtain ⟨d0, d1, d2⟩ := rnr_cells (row_below r5 b6)
  have hl36 : W3.heap.size < W6.heap.size := by omega
  have HW7 := Lib.hid hW7
  have HW9 : Hid ((W7.alloc (rnrO st o n cap (.map (some M)))).alloc (.cells #[.slice lo ll lcap] 34) = W9) := Lib.hid (by rw [hW8, hW9])
  rw [show ((ll + 1 : Nat) : Int) = ((ll : Nat) : Int) + 1 from by omega] at hmk
  rw [show W5.heap.size = W3.heap.size + 1 from z5] at HW7
  clear hM hWM b3 B3 hs3 hown hgr m6 b6 z6 l56 hW7 b7 z7 k7 hW8 b8 z8 k8 hW9 b9 z9 k9 b79 b69 b59 b39 B9 hMl c0 c1 r5 b5 hz1'
  gi_wp2_with fail
  rw [HW7.out]
  refine ⟨trivial, (callsIn_wide.2 (setsR_any _ _ _ _ _ _ _ _ _)).mono ?_⟩
  rintro e w5' ⟨rfl, hw5'⟩
  rw [HW9.out] at hw5'
  subst hw5'
  gi_wp2_with fail
  have hMM := HZ.out
  refine wpIn_seqX (n := 5) (Ow := SetsOw (fun _ => False) M) (Dep := SetsDep w W7.heap.size (W7.heap.size + 1)) (encs := encC) (all := runsS xs st l) (by omega) rfl (enters_of Tryd.func68 (by kernel_rfl) rfl) (fun x => rfl) HSQ.out
    (fun k hk => by rcases hk with h | h <;> first | exact h.elim | omega) (fun k hk => by rcases hk with h | h | h <;> omega)
    (fun X pre W => ToldI w (w.heap.size + 1) W3.heap.size W6.heap.size W7.heap.size (W7.heap.size + 1) st o n cap M 72 39 4 (.func (.func 35) #[] #[]) (pre.map (fun s : Nat => Value.bool (doneS xs s))) X W)
    (fun _ _ _ _ => False) ?hI ?hIx ?h0
    (fun _ s => { tmps := #[patV st o n cap, (.func (.func 35) #[] #[]), .slice lo ll lcap, .pointer (some ⟨w.heap.size, 0, none⟩), .pointer (some ⟨w.heap.size + 1, 0, none⟩), undef, .slice none 0 0, .nilIface, .pointer (some ⟨W3.heap.size, 0, none⟩), .nilIface, .pointer (some ⟨W6.heap.size, 0, none⟩), .int .i64 (s : Nat), .tuple #[rnrV st o n cap (.map (some M)), .nilIface], .agg #[.bool st, .slice o n cap], .tuple #[rnrV st o n cap (.map (some M)), .nilIface], rnrV st o n cap (.map (some M)), .nilIface, .nilIface, .bool false, undef, .slice lo ll lcap, .int .i64 (ll : Nat), .int .i64 (((ll : Nat) : Int) + 1), .slice (some ⟨W3.heap.size + 1, 0, none⟩) 0 (ll + 1), .agg #[.bool st, .slice o n cap, .map (some M)], .slice lo ll lcap, .func (.func 68) #[] #[.pointer (some ⟨W7.heap.size, 0, none⟩), .pointer (some ⟨W7.heap.size + 1, 0, none⟩)], .int .i64 (s : Nat), undef, undef, undef, undef, undef, undef, undef, undef], defers := [] })
    (fun A _ B => A = B) (fun A x B h => by rw [h]; exact Moves.refl _ _) ?assign ?body ?done ?stop
  case hI => exact fun X X' ys A C h hm hX => h.moves hm hX
  case hIx => exact fun _ _ _ _ _ _ h _ _ => h
  case h0 => exact HT0.out
  case assign =>
    rintro l2 x A K hK
    clear hMM
    gi_wp2
    first | exact hK _ rfl | rfl
  case body =>
    rintro lp X pre s Aw A' W1 hA1 hpx rfl hm hXn hXn1 hXlt hI
    have hfol : Tryd.prog.follows .mixedOrders = true := by kernel_rfl
    have hpl : pre.length ≤ 1000 := by
      have h2 := hpx.length_le
      have h3 : (runsS xs st l).length = ll + 1 := by unfold runsS; simp [HLN.out]
      rw [List.length_append, List.length_singleton] at h2
      have := HLL.out
      omega
    have hn10 := HTEN.out
    have hs : s < 2 ^ 32 := by
      have hmem := hpx.subset (List.mem_append_right _ (List.mem_singleton.2 rfl))
      obtain ⟨i, _, rfl⟩ := List.mem_map.1 hmem
      refine Nat.lt_of_lt_of_le (run_lt HHW.out _) (Nat.pow_le_pow_right (by decide) ?_)
      rw [HN.out]
      omega
    obtain ⟨v, a1, a2, a3⟩ := hI.ab
    obtain ⟨o1, c1, rfl⟩ := own_form a2
    rw [List.length_map] at a1 a2 a3
    obtain ⟨e0, e1, e2⟩ := rnr_cells hI.rb
    have e4 := hI.fb.cell
    have e10 := a1.cell
    obtain ⟨pl, hpl'⟩ : ∃ pl, pre.length = pl := ⟨_, rfl⟩
    rw [hpl'] at a1 e10
    have hXW1 : ∀ k, X k → k < W1.heap.size := fun k hk => by have := hXlt k hk; have := hm.size; omega
    have CON : Hid (Calls Tryd.prog 35 #[rnrV st o n cap (.map (some M)), .int .i64 (s : Nat)] W1.drew fun e W2 => e = .returned (.bool (doneS xs s)) ∧ ∃ g cap' w6, Hid (W2.cell? ⟨w.heap.size + 1, 0, none⟩ = some ((.func (.func 35) #[] #[])) ∧ W2.cell? ⟨W3.heap.size, 0, none⟩ = some (.bool st) ∧ W2.cell? ⟨W3.heap.size, 1, none⟩ = some (.slice o n cap) ∧ W2.cell? ⟨W3.heap.size, 2, none⟩ = some (.map (some M))) ∧ W2.cell? ⟨W6.heap.size, 0, none⟩ = some (.slice o1 pl c1) ∧ W6.heap.size < W2.heap.size ∧ (appSem #[39, 39] 39 #[.slice o1 pl c1, .slice (some ⟨W2.heap.size, 0, none⟩) 1 1]).run Tryd.prog (W2.alloc (.cells #[.bool (doneS xs s)] 4)) = .ok (.slice (some ⟨g, 0, none⟩) (pl + 1) cap') w6 ∧
        w6.cell? ⟨W6.heap.size, 0, none⟩ = some (.slice o1 pl c1) ∧ w6.frozen? ⟨W6.heap.size, 0, none⟩ = false ∧ Hid ((W2.alloc (.cells #[.bool (doneS xs s)] 4)).cell? ⟨w.heap.size + 1, 0, none⟩ = some ((.func (.func 35) #[] #[])) ∧ (W2.alloc (.cells #[.bool (doneS xs s)] 4)).cell? ⟨W3.heap.size, 0, none⟩ = some (.bool st) ∧ (W2.alloc (.cells #[.bool (doneS xs s)] 4)).cell? ⟨W3.heap.size, 1, none⟩ = some (.slice o n cap) ∧ (W2.alloc (.cells #[.bool (doneS xs s)] 4)).cell? ⟨W3.heap.size, 2, none⟩ = some (.map (some M))) ∧ Hid (w6.cell? ⟨w.heap.size + 1, 0, none⟩ = some ((.func (.func 35) #[] #[])) ∧ w6.cell? ⟨W3.heap.size, 0, none⟩ = some (.bool st) ∧ w6.cell? ⟨W3.heap.size, 1, none⟩ = some (.slice o n cap) ∧ w6.cell? ⟨W3.heap.size, 2, none⟩ = some (.map (some M))) ∧ ∃ w7, w6.setCell ⟨W6.heap.size, 0, none⟩ (.slice (some ⟨g, 0, none⟩) (pl + 1) cap') = w7 ∧ Hid (w7.cell? ⟨w.heap.size + 1, 0, none⟩ = some ((.func (.func 35) #[] #[])) ∧ w7.cell? ⟨W3.heap.size, 0, none⟩ = some (.bool st) ∧ w7.cell? ⟨W3.heap.size, 1, none⟩ = some (.slice o n cap) ∧ w7.cell? ⟨W3.heap.size, 2, none⟩ = some (.map (some M))) ∧
        Hid (Moves (fun k => ¬ X k ∧ ¬ SetsDep w W7.heap.size (W7.heap.size + 1) k) W1 w7 ∧ ToldI w (w.heap.size + 1) W3.heap.size W6.heap.size W7.heap.size (W7.heap.size + 1) st o n cap M 72 39 4 (.func (.func 35) #[] #[]) ((pre ++ [s]).map (fun s : Nat => Value.bool (doneS xs s))) X w7)) := Lib.hid (by
      refine ((doneQ_any st o cap (some M) HN.out hn10 hs W1.drew)).mono ?_
      rintro e W2 ⟨rfl, b2⟩
      have m2 : Moves (fun _ => False) W1 W2 := ((Moves.refl _ _).drew).trans (Moves.of_below b2)
      have I2 := hI.moves (m2.mono fun _ h => h.elim) (X' := X) (fun k hk => ⟨.inl hk, by have := hXW1 k hk; have := m2.size; omega⟩)
      obtain ⟨o', c', g, cap', w6, k1, k2, k3, k4, k5, k6, k7, k8⟩ := I2.app app_bol (by omega) (fun k hk => by have := hXW1 k hk; have := m2.size; omega) (by rw [List.length_map]; omega) (.bool (doneS xs s)) ⟨_, rfl⟩
      rw [List.length_map, hpl'] at k1 k2 k3 k5 k6
      have k0 : W2.cell? ⟨W6.heap.size, 0, none⟩ = some (.slice o1 pl c1) := (show Boxed W2 W6.heap.size _ _ from row_keep a1 m2 id).cell
      have ke := Option.some.inj (k1.symm.trans k0)
      obtain ⟨rfl, rfl⟩ : o' = o1 ∧ c' = c1 := by injection ke with q1 q2 q3; exact ⟨q1, q3⟩
      have hbA : Below W2.heap.size W2 (W2.alloc (.cells #[.bool (doneS xs s)] 4)) := (Below.refl _ _).alloc (Nat.le_refl _) _
      have SF : ∀ W, W.heap[W3.heap.size]? = some (rnrO st o n cap (.map (some M))) → Boxed W (w.heap.size + 1) 72 (.func (.func 35) #[] #[]) → W.cell? ⟨w.heap.size + 1, 0, none⟩ = some ((.func (.func 35) #[] #[])) ∧ W.cell? ⟨W3.heap.size, 0, none⟩ = some (.bool st) ∧ W.cell? ⟨W3.heap.size, 1, none⟩ = some (.slice o n cap) ∧ W.cell? ⟨W3.heap.size, 2, none⟩ = some (.map (some M)) := fun W q1 q2 => ⟨q2.cell, (rnr_cells q1).1, (rnr_cells q1).2.1, (rnr_cells q1).2.2⟩
      refine ⟨rfl, g, cap', w6, Lib.hid (SF _ I2.rb I2.fb), k0, World.block_lt_of_cell? W2 _ k0, k2, k3, k4, Lib.hid (SF _ (row_below I2.rb hbA) (row_below I2.fb hbA)), Lib.hid (SF _ k7 k8), _, rfl, Lib.hid (SF _ k5.rb k5.fb), Lib.hid ⟨(m2.mono fun _ h => h.elim).trans k6, ?_⟩⟩
      rw [List.map_append, List.map_singleton]
      exact k5)
    clear hI a1 a2 a3 hpl' hpx hm hXn hXn1 hXlt hA1 hXW1 hMM hs hpl
    gi_wp2_with fail
    refine wpIn_region_heldQ lp (fun W => W.cell? ⟨w.heap.size + 1, 0, none⟩ = some ((.func (.func 35) #[] #[])) ∧ W.cell? ⟨W3.heap.size, 0, none⟩ = some (.bool st) ∧ W.cell? ⟨W3.heap.size, 1, none⟩ = some (.slice o n cap) ∧ W.cell? ⟨W3.heap.size, 2, none⟩ = some (.map (some M))) (fun ⟨_, _, h⟩ => h) rfl hfol ⟨e4, e0, e1, e2⟩ (fun hHeld => ?_)
    refine wpAnyH_take (i := 1) (v := ?_) rfl (by kernel_rfl) (by kernel_rfl) (by kernel_rfl) (fun _ _ _ h => h) (Or.inl ⟨by rfl, ?_⟩) hHeld ?_
    rotate_left 1
    · (intro w' hSw; (try dsimp only at hSw); first | (go_simp; done) | (go_simp; with_reducible rfl))
    change wpAnyH _ _ _ _ _ _ _ (Act.put _ (some 29) _) _
    simp only [Act.put, List.setIfInBounds_toArray, List.set_cons_zero, List.set_cons_succ]
    refine wpAnyH_take (i := 2) (v := ?_) rfl (by kernel_rfl) (by kernel_rfl) (by kernel_rfl) (fun _ _ _ h => h) (Or.inl ⟨by rfl, ?_⟩) hHeld ?_
    rotate_left 1
    · (intro w' hSw; (try dsimp only at hSw); first | (go_simp; done) | (go_simp; with_reducible rfl))
    change wpAnyH _ _ _ _ _ _ _ (Act.put _ (some 30) _) _
    simp only [Act.put, List.setIfInBounds_toArray, List.set_cons_zero, List.set_cons_succ]
    refine wpAnyH_take (i := 3) (v := ?_) rfl (by kernel_rfl) (by kernel_rfl) (by kernel_rfl) (fun _ _ _ h => h) (Or.inl ⟨by rfl, ?_⟩) hHeld ?_
    rotate_left 1
    · (intro w' hSw; (try dsimp only at hSw); first | (go_simp; done) | (go_simp; with_reducible rfl))
    change wpAnyH _ _ _ _ _ _ _ (Act.put _ (some 31) _) _
    simp only [Act.put, List.setIfInBounds_toArray, List.set_cons_zero, List.set_cons_succ]
    refine wpAnyH_ready (rs := [0, 4]) (by kernel_rfl) (by simp) ?_
    refine AllReadyH.cons rfl (fun K hK => ?_) ?_
    focus
      go_simp
      refine hK.out _ _ (hHeld) (fun hHeld => ?_)
      clear hK K
      try simp only [Act.put, List.setIfInBounds_toArray, List.set_cons_zero, List.set_cons_succ]
      refine wpAnyH_ready (rs := [4]) (by kernel_rfl) (by simp) ?_
      refine AllReadyH.cons rfl (fun K hK => ?_) AllReadyH.nil
      go_simp
      refine CON.out.mono ?_
      rintro e W2 ⟨rfl, g, cap', w6, HS2, k0, hlt, hrun, k3, k4, HSA, HS6, w7, HW7E, HS7, HFIN⟩
      replace HW7E := Lib.hid HW7E
      go_wp2_with fail
      refine hK.out _ _ (HS2.out) (fun hHeld => ?_)
      clear hK K
      try simp only [Act.put, List.setIfInBounds_toArray, List.set_cons_zero, List.set_cons_succ]
      refine wpAnyH_ready (rs := [5]) (by kernel_rfl) (by simp) ?_
      refine AllReadyH.cons rfl (fun K hK => ?_) AllReadyH.nil
      go_simp
      refine hK.out _ _ (HSA.out) (fun hHeld => ?_)
      clear hK K
      try simp only [Act.put, List.setIfInBounds_toArray, List.set_cons_zero, List.set_cons_succ]
      refine wpAnyH_ready (rs := [6]) (by kernel_rfl) (by simp) ?_
      refine AllReadyH.cons rfl (fun K hK => ?_) AllReadyH.nil
      go_simp
      refine hK.out _ _ (HS6.out) (fun hHeld => ?_)
      clear hK K
      try simp only [Act.put, List.setIfInBounds_toArray, List.set_cons_zero, List.set_cons_succ]
      refine wpAnyH_ready (rs := [7]) (by kernel_rfl) (by simp) ?_
      refine AllReadyH.cons rfl (fun K hK => ?_) AllReadyH.nil
      go_simp
      rw [HW7E.out]
      refine hK.out _ _ (HS7.out) (fun hHeld => ?_)
      clear hK K
      try simp only [Act.put, List.setIfInBounds_toArray, List.set_cons_zero, List.set_cons_succ]
      refine wpAnyH_done (by kernel_rfl) ?_ _
      gi_wp2
      exact HFIN.out
    refine AllReadyH.cons rfl (fun K hK => ?_) AllReadyH.nil
    go_simp
    refine CON.out.mono ?_
    rintro e W2 ⟨rfl, g, cap', w6, HS2, k0, hlt, hrun, k3, k4, HSA, HS6, w7, HW7E, HS7, HFIN⟩
    replace HW7E := Lib.hid HW7E
    go_wp2_with fail
    refine hK.out _ _ (HS2.out) (fun hHeld => ?_)
    clear hK K
    try simp only [Act.put, List.setIfInBounds_toArray, List.set_cons_zero, List.set_cons_succ]
    refine wpAnyH_ready (rs := [0, 5]) (by kernel_rfl) (by simp) ?_
    refine AllReadyH.cons rfl (fun K hK => ?_) ?_
    focus
      go_simp
      refine hK.out _ _ (HS2.out) (fun hHeld => ?_)
      clear hK K
      try simp only [Act.put, List.setIfInBounds_toArray, List.set_cons_zero, List.set_cons_succ]
      refine wpAnyH_ready (rs := [5]) (by kernel_rfl) (by simp) ?_
      refine AllReadyH.cons rfl (fun K hK => ?_) AllReadyH.nil
      go_simp
      refine hK.out _ _ (HSA.out) (fun hHeld => ?_)
      clear hK K
      try simp only [Act.put, List.setIfInBounds_toArray, List.set_cons_zero, List.set_cons_succ]
      refine wpAnyH_ready (rs := [6]) (by kernel_rfl) (by simp) ?_
      refine AllReadyH.cons rfl (fun K hK => ?_) AllReadyH.nil
      go_simp
      refine hK.out _ _ (HS6.out) (fun hHeld => ?_)
      clear hK K
      try simp only [Act.put, List.setIfInBounds_toArray, List.set_cons_zero, List.set_cons_succ]
      refine wpAnyH_ready (rs := [7]) (by kernel_rfl) (by simp) ?_
      refine AllReadyH.cons rfl (fun K hK => ?_) AllReadyH.nil
      go_simp
      rw [HW7E.out]
      refine hK.out _ _ (HS7.out) (fun hHeld => ?_)
      clear hK K
      try simp only [Act.put, List.setIfInBounds_toArray, List.set_cons_zero, List.set_cons_succ]
      refine wpAnyH_done (by kernel_rfl) ?_ _
      gi_wp2
      exact HFIN.out
    refine AllReadyH.cons rfl (fun K hK => ?_) AllReadyH.nil
    go_simp
    refine hK.out _ _ (HSA.out) (fun hHeld => ?_)
    clear hK K
    try simp only [Act.put, List.setIfInBounds_toArray, List.set_cons_zero, List.set_cons_succ]
    refine wpAnyH_ready (rs := [0]) (by kernel_rfl) (by simp) ?_
    refine AllReadyH.cons rfl (fun K hK => ?_) AllReadyH.nil
    go_simp
    refine hK.out _ _ (HSA.out) (fun hHeld => ?_)
    clear hK K
    try simp only [Act.put, List.setIfInBounds_toArray, List.set_cons_zero, List.set_cons_succ]
    refine wpAnyH_ready (rs := [6]) (by kernel_rfl) (by simp) ?_
    refine AllReadyH.cons rfl (fun K hK => ?_) AllReadyH.nil
    go_simp
    refine hK.out _ _ (HS6.out) (fun hHeld => ?_)
    clear hK K
    try simp only [Act.put, List.setIfInBounds_toArray, List.set_cons_zero, List.set_cons_succ]
    refine wpAnyH_ready (rs := [7]) (by kernel_rfl) (by simp) ?_
    refine AllReadyH.cons rfl (fun K hK => ?_) AllReadyH.nil
    go_simp
    rw [HW7E.out]
    refine hK.out _ _ (HS7.out) (fun hHeld => ?_)
    clear hK K
    try simp only [Act.put, List.setIfInBounds_toArray, List.set_cons_zero, List.set_cons_succ]
    refine wpAnyH_done (by kernel_rfl) ?_ _
    gi_wp2
    exact HFIN.out
  case done =>
    rintro X D W hD hXD hI hX hK
    obtain ⟨v, a1, a2, a3⟩ := hI.ab
    obtain ⟨o1, c1, rfl⟩ := own_form a2
    have hlen : (runsS xs st l).length = ll + 1 := by unfold runsS; simp [HLN.out]
    rw [List.length_map, hlen] at a1 a2 a3
    have e10 := a1.cell
    have FIN : Hid (P (.returned (.tuple #[.slice o1 (ll + 1) c1, .nilIface])) (W.putObj D (.deferred none))) := Lib.hid (by
      have mp : Moves (fun k => k = D) W (W.putObj D (.deferred none)) := Moves.putObj rfl
      rw [← HP.out]
      unfold ToldBQ
      rw [HLN.out]
      exact ⟨o1, c1, rfl, own_movesH a2 mp (fun k hk e => (a3 k hk).1 (by rw [e]; exact hXD)), Moves.below hI.bw hI.bw.size mp (fun k hk => by have := hI.lo D hXD; omega)⟩)
    have HK := Lib.hid hK
    clear hI a1 a2 a3 hX hK hXD hD hlen hMM
    gi_wp2
    refine ⟨by simp, .inl ⟨_, _, rfl, run_takeDeferred HK.out, ?_⟩⟩
    exact ⟨_, results_tmp2 (t := 6) (u := 7) rfl _ _ _, FIN.out⟩
  case stop =>
    rintro X D c pre W _ _ _ h
    exact h.elim
set_option maxRecDepth 100000 in
set_option maxHeartbeats 4000000 in
theorem toldB_wrong (st : Bool) (o lo : Option Addr) (xs : List ItemP) (l : List Int) (cap lcap : Nat) (hxl : xs.length ≤ 1000000) (hr : rightB xs 32 = false) (w : World) (aP aS : Addr) (hQ : GlobH w aP aS) (hA : AtI w o xs) :
    Calls Tryd.prog 41 #[patV st o xs.length cap, (.func (.func 35) #[] #[]), .slice lo l.length lcap] w fun e w' => e = .returned (.tuple #[.slice none 0 0, errVQ aP]) ∧ Below w.heap.size w w' := by
  obtain ⟨w0, hw0⟩ : ∃ w0, w.alloc (.cells (patC st o xs.length cap) 24 (0, 0)) = w0 := ⟨_, rfl⟩
  have b0 : Below w.heap.size w w0 := by rw [← hw0]; exact (Below.refl _ _).alloc (Nat.le_refl _) _
  have r0 : w0.heap[w.heap.size]? = some (.cells (patC st o xs.length cap) 24 (0, 0)) := by rw [← hw0]; exact heap_alloc_new _ _
  obtain ⟨w1, hw1⟩ : ∃ w1, w0.alloc (.cells #[(.func (.func 35) #[] #[])] 72) = w1 := ⟨_, rfl⟩
  have bb1 : Below w0.heap.size w0 w1 := by rw [← hw1]; exact (Below.refl _ _).alloc (Nat.le_refl _) _
  have b1 := b0.trans (bb1.mono b0.size)
  obtain ⟨c0, c1⟩ := pat_cellsH (row_below r0 bb1)
  have HR := Lib.hid (runnerOf_wrong st o xs cap hxl hr w1 aP aS (hQ.below b1) (hA.below b1))
  have HW : Hid (((w.alloc (.cells (patC st o xs.length cap) 24 (0, 0))).alloc (.cells #[(.func (.func 35) #[] #[])] 72)) = w1) := Lib.hid (by rw [hw0, hw1])
  have HB1 := Lib.hid b1
  obtain ⟨n, hn⟩ : ∃ n, xs.length = n := ⟨_, rfl⟩
  obtain ⟨ll, hln⟩ : ∃ ll, l.length = ll := ⟨_, rfl⟩
  rw [hn] at HR c1 HW ⊢
  rw [hln]
  clear hw0 b0 r0 hw1 bb1 b1 hxl hr hQ hA hn hln
  go_enter Tryd.func41, Tryd.ntmps41
  go_wp2_with fail
  rw [HW.out]
  refine HR.out.mono ?_
  rintro e W3 ⟨rfl, b3⟩
  have HB3 := Lib.hid (HB1.out.trans (b3.mono HB1.out.size))
  obtain ⟨W5, hW5, r5, b5, z5⟩ := boxR W3 false none 0 0 (.map none)
  have HW5 := Lib.hid hW5
  have HB5 := Lib.hid (HB3.out.trans (b5.mono HB3.out.size))
  clear hW5 r5 b5 z5 b3
  go_wp2_with fail
  try rw [HW5.out]
  exact bodyPost_ret (results_tmp2 (t := 6) (u := 7) rfl _ _ _) rfl ⟨rfl, HB5.out⟩
set_option maxRecDepth 100000 in
set_option maxHeartbeats 4000000 in
theorem Fits_right (st : Bool) (o lo : Option Addr) (xs : List ItemP) (l : List Int) (cap lcap : Nat) (hr : rightB xs 32 = true) (hll : l.length ≤ 1000) (w : World) (aP aS : Addr) (hQ : GlobH w aP aS) (hA : AtI w o xs) (hL : NumsAt w lo l) :
    Calls Tryd.prog 21 #[patV st o xs.length cap, .slice lo l.length lcap] w fun e w' => ∃ o' cap', e = .returned (.tuple #[.slice o' (l.length + 1) cap', .int .i64 0]) ∧ w'.ownsRow (w.heap.size + 1) 4 1 (.slice o' (l.length + 1) cap') (l.length + 1) ((runsS xs st l).map (fun s : Nat => Value.bool (doneS xs s))) ∧ Below w.heap.size w w' := by
  obtain ⟨w1, hw1⟩ : ∃ w1, w.alloc (.cells (patC st o xs.length cap) 24 (0, 0)) = w1 := ⟨_, rfl⟩
  have b1 : Below w.heap.size w w1 := by rw [← hw1]; exact (Below.refl _ _).alloc (Nat.le_refl _) _
  have r1 : w1.heap[w.heap.size]? = some (.cells (patC st o xs.length cap) 24 (0, 0)) := by rw [← hw1]; exact heap_alloc_new _ _
  have z1 : w1.heap.size = w.heap.size + 1 := by rw [← hw1]; simp
  obtain ⟨c0, c1⟩ := pat_cellsH r1
  have HR := Lib.hid (toldB_right st o lo xs l cap lcap hr hll w1 aP aS (hQ.below b1) (hA.below b1) (hL.below b1))
  unfold ToldBQ at HR
  obtain ⟨vs, hvs⟩ : ∃ vs, (runsS xs st l).map (fun s : Nat => Value.bool (doneS xs s)) = vs := ⟨_, rfl⟩
  have HNUM := Lib.hid (fun W (hb : Below w.heap.size w W) => number_nilH (hQ.below hb))
  obtain ⟨n, hn⟩ : ∃ n, xs.length = n := ⟨_, rfl⟩
  obtain ⟨ll, hln⟩ : ∃ ll, l.length = ll := ⟨_, rfl⟩
  rw [hn] at HR c1 hw1 ⊢
  rw [hln] at HR ⊢
  rw [hvs] at HR ⊢
  have HW1 := Lib.hid hw1
  have HB1 := Lib.hid b1
  have HZ1 := Lib.hid z1
  clear hw1 b1 r1 hn hA hr hQ hln hvs z1 hll hL
  go_enter Tryd.func21, Tryd.ntmps21
  go_wp2_with fail
  rw [HW1.out]
  refine HR.out.mono ?_
  rintro e W3 ⟨o2, cap2, rfl, hown, b3⟩
  have HB3 := Lib.hid (HB1.out.trans (b3.mono HB1.out.size))
  have HC := Lib.hid (HNUM.out W3 HB3.out)
  have HOW := Lib.hid hown
  clear b3 hown
  go_wp2_with fail
  refine HC.out.mono ?_
  rintro e _ ⟨rfl, rfl⟩
  go_wp2_with fail
  exact bodyPost_ret (results_tmp2 (t := 4) (u := 5) rfl _ _ _) rfl ⟨o2, cap2, rfl, own_base HOW.out (by have := HZ1.out; omega), HB3.out⟩
set_option maxRecDepth 100000 in
set_option maxHeartbeats 4000000 in
theorem Fits_wrong (st : Bool) (o lo : Option Addr) (xs : List ItemP) (l : List Int) (cap lcap : Nat) (hxl : xs.length ≤ 1000000) (hr : rightB xs 32 = false) (w : World) (aP aS : Addr) (hQ : GlobH w aP aS) (hA : AtI w o xs) :
    Calls Tryd.prog 21 #[patV st o xs.length cap, .slice lo l.length lcap] w fun e w' => e = .returned (.tuple #[.slice none 0 0, .int .i64 80]) ∧ Below w.heap.size w w' := by
  obtain ⟨w1, hw1⟩ : ∃ w1, w.alloc (.cells (patC st o xs.length cap) 24 (0, 0)) = w1 := ⟨_, rfl⟩
  have b1 : Below w.heap.size w w1 := by rw [← hw1]; exact (Below.refl _ _).alloc (Nat.le_refl _) _
  have r1 : w1.heap[w.heap.size]? = some (.cells (patC st o xs.length cap) 24 (0, 0)) := by rw [← hw1]; exact heap_alloc_new _ _
  have z1 : w1.heap.size = w.heap.size + 1 := by rw [← hw1]; simp
  obtain ⟨c0, c1⟩ := pat_cellsH r1
  have HR := Lib.hid (toldB_wrong st o lo xs l cap lcap hxl hr w1 aP aS (hQ.below b1) (hA.below b1))
  skip
  obtain ⟨vs, hvs⟩ : ∃ vs, (runsS xs st l).map (fun s : Nat => Value.bool (doneS xs s)) = vs := ⟨_, rfl⟩
  have HNUM := Lib.hid (fun W (hb : Below w.heap.size w W) => number_patH (hQ.below hb))
  obtain ⟨n, hn⟩ : ∃ n, xs.length = n := ⟨_, rfl⟩
  obtain ⟨ll, hln⟩ : ∃ ll, l.length = ll := ⟨_, rfl⟩
  rw [hn] at HR c1 hw1 ⊢
  rw [hln] at HR ⊢
  skip
  have HW1 := Lib.hid hw1
  have HB1 := Lib.hid b1
  have HZ1 := Lib.hid z1
  clear hw1 b1 r1 hn hA hr hQ hln hvs z1 hxl
  go_enter Tryd.func21, Tryd.ntmps21
  go_wp2_with fail
  rw [HW1.out]
  refine HR.out.mono ?_
  rintro e W3 ⟨rfl, b3⟩
  have HB3 := Lib.hid (HB1.out.trans (b3.mono HB1.out.size))
  have HC := Lib.hid (HNUM.out W3 HB3.out)
  skip
  clear b3 
  go_wp2_with fail
  refine HC.out.mono ?_
  rintro e _ ⟨rfl, rfl⟩
  go_wp2_with fail
  exact bodyPost_ret (results_tmp2 (t := 4) (u := 5) rfl _ _ _) rfl ⟨rfl, HB3.out⟩
end Go.Proofs.YtjacebnlikhjnaaDoor
