/- Shaken by bunq.py. -/
import Derived.Test.YtaoooocalpkhjaaDoorBuq3
namespace Go.Proofs.YtaoooocalpkhjaaDoor
open Go.RowKit Go.Shelf Go.Maps
attribute [local go_sem] Oper.semAt_some
attribute [local go_sem ↓] app_hide

def StepQ (xs : List ItemP) (st : Bool) (c : Int) (s M N : Nat) (X0 : Nat → Prop) (w : World) (e : Ending) (w' : World) : Prop := e = .returned (.int .i64 ((stepS xs st c s : Nat) : Int)) ∧ Moves (fun k => k = M) w w' ∧ ∃ XW, WayMap w' M (N + 21) XW ∧ ∀ k, XW k → (X0 k ∨ w.heap.size ≤ k) ∧ k < w'.heap.size
theorem at_cells {W : World} {g off : Nat} {l : List ItemP} (h : AtI W (some ⟨g, off, none⟩) l) (hl : 0 < l.length) (i : Nat) (x : ItemP) (hx : l[i]? = some x) : W.cell? ⟨g, off + i * 2, none⟩ = some (.int .i64 x.1) ∧ W.cell? ⟨g, off + i * 2 + 1, none⟩ = some (.int .i64 x.2) := by
  obtain ⟨g', off', e, hc⟩ := h (by omega)
  cases e
  exact hc i x hx
theorem wrap_quoI {i : Nat} (hi : i < 1000000) : IntKind.i64.wrap ((i : Nat) : Int) = ((i : Nat) : Int) := by rw [IntKind.wrap_i64]; omega
theorem wrap_quo {z : Int} {i : Nat} (h : z = ((i : Nat) : Int)) (hi : i < 1000000) : wrap64 z = ((i : Nat) : Int) := by rw [h]; unfold wrap64; omega
set_option maxRecDepth 100000 in
set_option maxHeartbeats 8000000 in
theorem stepR_any (st : Bool) (o : Option Addr) (xs : List ItemP) (cap M N : Nat) (X0 : Nat → Prop) (s : Nat) (c : Int) (hxl : xs.length ≤ 10) (hw : howP xs) (hf : ∀ x ∈ xs, fits64 x) (hs : s < 2 ^ (2 * xs.length + 1)) (hN : N ≤ 90000) (w0 w : World) (aP aS : Addr) (hQ : GlobH w0 aP aS) (hA : AtI w0 o xs) (hb0 : Below w0.heap.size w0 w) (hM0 : w0.heap.size ≤ M) (hM : WayMap w M N X0) (hX0 : ∀ k, X0 k → k < w.heap.size) :
    Calls Tryd.prog 122 #[rnrV st o xs.length cap (.map (some M)), .int .i64 (s : Nat), .int .i64 c] w (StepQ xs st c s M N X0 w) := by
  refine (callsIn_wide (n := 5)).1 ?_
  have h1 : 1 ≤ 5 := by omega
  refine callsIn_of_wp_marks Tryd.func122 rfl trivial ?_ rfl
  simp only [Tryd.ntmps122, List.size_toArray, List.length_cons, List.length_nil, Nat.reduceAdd, Nat.reduceSub, Array.replicate_succ, Array.replicate_zero, List.push_toArray, List.append_toArray, List.nil_append, List.cons_append]
  obtain ⟨P, hP⟩ : ∃ P, StepQ xs st c s M N X0 w = P := ⟨_, rfl⟩
  obtain ⟨n, hnn⟩ : ∃ n, xs.length = n := ⟨_, rfl⟩
  have HNN := Lib.hid hnn
  rw [hnn] at hxl hs ⊢
  have HP := Lib.hid hP
  rw [hP]
  have hMl := hM.lt
  obtain ⟨wa, hwa⟩ : ∃ wa, w.alloc (rnrO st o n cap (.map (some M))) = wa := ⟨_, rfl⟩
  have za : wa.heap.size = w.heap.size + 1 := by rw [← hwa]; simp
  have ba : Below w.heap.size w wa := by rw [← hwa]; exact (Below.refl _ _).alloc (Nat.le_refl _) _
  have ra : wa.heap[w.heap.size]? = some (rnrO st o n cap (.map (some M))) := by rw [← hwa]; exact heap_alloc_new _ _
  obtain ⟨wb, hwb⟩ : ∃ wb, wa.alloc (.cells #[.int .i64 c] 3) = wb := ⟨_, rfl⟩
  have zb : wb.heap.size = w.heap.size + 2 := by rw [← hwb]; simp; omega
  have bb : Below wa.heap.size wa wb := by rw [← hwb]; exact (Below.refl _ _).alloc (Nat.le_refl _) _
  have cb : Boxed wb (w.heap.size + 1) 3 (.int .i64 c) := by rw [← hwb, ← za]; exact Boxed.new _ _ _
  obtain ⟨w3, hw3⟩ : ∃ w3, wb.alloc (.cells #[.slice none 0 0] 26) = w3 := ⟨_, rfl⟩
  have z3 : w3.heap.size = w.heap.size + 3 := by rw [← hw3]; simp; omega
  have b3 : Below wb.heap.size wb w3 := by rw [← hw3]; exact (Below.refl _ _).alloc (Nat.le_refl _) _
  have nb3 : Boxed w3 (w.heap.size + 2) 26 (.slice none 0 0) := by rw [← hw3, ← zb]; exact Boxed.new _ _ _
  have cb3 : Boxed w3 (w.heap.size + 1) 3 (.int .i64 c) := row_below cb b3
  have rb3 := row_below (row_below ra bb) b3
  have B3 := (ba.trans (bb.mono ba.size)).trans (b3.mono (by omega))
  have HW3 : Hid (((w.alloc (rnrO st o n cap (.map (some M)))).alloc (.cells #[.int .i64 c] 3)).alloc (.cells #[.slice none 0 0] 26) = w3) := Lib.hid (by rw [hwa, hwb, hw3])
  have START : ∃ w4 : World, ∃ v, Hid (Boxed w4 (w.heap.size + 2) 26 v ∧ w4.ownsRow (w.heap.size + 3) 3 1 v (startL st).length (natC (startL st)) ∧ Moves (fun k => k = w.heap.size + 2) w3 w4 ∧ (st = true → w3 = w4) ∧ (st = false → ∃ g cap' w6, v = .slice (some ⟨g, 0, none⟩) 1 cap' ∧ (appSem #[26, 26] 26 #[.slice none 0 0, .slice (some ⟨w.heap.size + 1 + 1 + 1, 0, none⟩) 1 1]).run Tryd.prog (w3.alloc (.cells #[.int .i64 0] 3)) = .ok (.slice (some ⟨g, 0, none⟩) 1 cap') w6 ∧ w6.setCell ⟨w.heap.size + 1 + 1, 0, none⟩ (.slice (some ⟨g, 0, none⟩) 1 cap') = w4 ∧ w6.cell? ⟨w.heap.size + 1 + 1, 0, none⟩ = some (.slice none 0 0) ∧ w6.frozen? ⟨w.heap.size + 1 + 1, 0, none⟩ = false)) := by
    cases st with
    | true => exact ⟨w3, _, Lib.hid ⟨nb3, World.ownsRow_nil _ _ _ _, Moves.refl _ _, fun _ => rfl, fun h => by cases h⟩⟩
    | false =>
      obtain ⟨g, cap', w6, hrun, hown, hgr, hwh⟩ := nat_ownH (W := w3) (base := w.heap.size + 3) 0 (World.ownsRow_nil _ _ _ _) (by omega) (by omega)
      rw [z3] at hrun
      have b4 : Below w3.heap.size w3 (w3.alloc (.cells #[.int .i64 ((0 : Nat) : Int)] 3)) := (Below.refl _ _).alloc (Nat.le_refl _) _
      have m6 : Moves (fun k => (Value.slice none 0 0).ownBlock = some k) (w3.alloc (.cells #[.int .i64 ((0 : Nat) : Int)] 3)) w6 := moves_grownH hgr
      have n6 : Boxed w6 (w.heap.size + 2) 26 (.slice none 0 0) := row_keep (row_below nb3 b4) m6 (by simp [Value.ownBlock])
      have m4 : Moves (fun k => k = w.heap.size + 2) w6 (w6.setCell ⟨w.heap.size + 2, 0, none⟩ (.slice (some ⟨g, 0, none⟩) (0 + 1) cap')) := Moves.setCell rfl
      refine ⟨_, _, Lib.hid ⟨n6.set _, own_movesH hown m4 (fun k hk => by have := (hown.lt k hk).1; omega), ?_, (fun h => by cases h), fun _ => ⟨g, cap', w6, rfl, hrun, rfl, n6.cell, n6.frozen⟩⟩⟩
      exact (Moves.of_below b4).trans ((m6.mono fun k hk => by simp [Value.ownBlock] at hk).trans m4)
  obtain ⟨w4, v4, HST⟩ := START
  obtain ⟨n4, own4, m4, hT, hF⟩ := HST.out
  have z4 := m4.size
  have rb4 := row_keep rb3 m4 (by omega)
  have cb4 : Boxed w4 (w.heap.size + 1) 3 (.int .i64 c) := row_keep cb3 m4 (by omega)
  have MV4 : Moves (fun k => k = M) w w4 := by
    have h0 := (Moves.of_below (S := fun _ => False) B3)
    exact ⟨m4.os.trans h0.os, m4.tape.trans h0.tape, m4.output.trans h0.output, Nat.le_trans h0.size m4.size, fun k hk hs => (m4.block k (by omega) (by omega)).trans (h0.block k hk id)⟩
  have wm4 : WayMap w4 M (N + 0) X0 := (hM.below B3).moves m4 (by omega) (fun k hk => by have := hX0 k hk; omega)
  obtain ⟨w5, hw5⟩ : ∃ w5, w4.alloc (.cells #[.int .i64 ((s : Nat) : Int)] 156) = w5 := ⟨_, rfl⟩
  have b5 : Below w4.heap.size w4 w5 := by rw [← hw5]; exact (Below.refl _ _).alloc (Nat.le_refl _) _
  have z5 : w5.heap.size = w4.heap.size + 1 := by rw [← hw5]; simp
  have p5 : w5.heap[w4.heap.size]? = some (.cells #[.int .i64 ((s : Nat) : Int)] 156 (0, 0)) := by rw [← hw5]; exact heap_alloc_new _ _
  have HI5 : Hid (StepI w w5 w4.heap.size s st o n cap M N X0 c (startL st ++ ([] : List Nat).filterMap (goesH xs c)) 0 (fun _ => False) w5) := Lib.hid ⟨Nat.le_refl _, fun _ h => h.elim, row_below rb4 b5, row_below cb4 b5, p5, ⟨v4, row_below n4 b5, by rw [List.filterMap_nil, List.append_nil]; exact own_below own4 b5, fun _ _ h => h⟩, ⟨X0, wm4.below b5, fun k hk => ⟨.inl hk, id, by have := hX0 k hk; omega⟩⟩, ⟨b5.os.trans MV4.os, b5.tape.trans MV4.tape, b5.output.trans MV4.output, Nat.le_trans MV4.size b5.size, fun k hk hs => (b5.block k (by have := MV4.size; omega)).trans (MV4.block k hk hs)⟩⟩
  have HSEQ := Lib.hid (seqEachS (n := 2 * n + 1) (by omega) hs p5)
  have HEA := Lib.hid (eachS_any ((s : Nat) : Int) w4)
  have HW5 := Lib.hid hw5
  have HZZ : Hid (w.heap.size + 3 ≤ w4.heap.size ∧ w4.heap.size < w5.heap.size) := Lib.hid (by omega)
  have HB0 := Lib.hid hb0
  have HQ := Lib.hid hQ
  have HA := Lib.hid hA
  have HWH := Lib.hid hw
  have HFI := Lib.hid hf
  have HMl := Lib.hid hMl
  have HM0 := Lib.hid hM0
  have HN9 := Lib.hid hN
  have HX0 := Lib.hid hX0
  have HXL := Lib.hid hxl
  have HNS : Hid (∀ l, setOfN (nextsH xs st c s) = l → closedH xs l = stepS xs st c s) := Lib.hid fun l h => by rw [← h]; rfl
  have HNA : Hid (startL st ++ (classesN (2 * n + 1) s).filterMap (goesH xs c) = nextsH xs st c s) := Lib.hid (by rw [← HNN.out]; exact nexts_all)
  have HNT : Hid (∀ k ∈ nextsH xs st c s, k < 2 * xs.length + 1) := Lib.hid fun k hk => by
    rcases Nat.lt_or_ge k (2 * xs.length + 1) with h | h
    · exact h
    · have h2 := raw_bit.2 hk
      rw [bit_lt (raw_lt HWH.out) h] at h2
      cases h2
  have HNL : Hid ((nextsH xs st c s).length ≤ 1000) := Lib.hid (by
    have e : (nextsH xs st c s).length ≤ 1 + (classesN (2 * xs.length) s).length := by
      unfold nextsH
      rw [List.length_append]
      have h1 := List.length_filterMap_le (goesH xs c) (classesN (2 * xs.length) s)
      have h2 : (if st = true then ([] : List Nat) else [0]).length ≤ 1 := by split <;> simp
      omega
    have := classesN_le (2 * xs.length) s
    have := HNN.out
    omega)
  have HSS := Lib.hid hs
  have HT := Lib.hid hT
  have HF := Lib.hid hF
  have c4 : w4.cell? ⟨w.heap.size + 1 + 1, 0, none⟩ = some v4 := n4.cell
  clear hP hwa za ba ra hwb zb bb cb hw3 b3 nb3 cb3 rb3 B3 HST n4 own4 m4 hT hF z4 rb4 cb4 MV4 wm4 hw5 b5 z5 p5 z3 hb0 hQ hA hw hf hMl hM0 hM hX0 hs hN hnn hxl
  have CS : st = true ∨ st = false := by cases st <;> simp
  rcases CS with rfl | rfl
  · obtain rfl := HT.out rfl
    gi_wp2_with fail
    refine wpIn_wide.2 (wp_scope_straight ((wpIn_wide (n := 5)).1 ?_))
    gi_wp2_with fail
    rw [HW3.out]
    refine wpIn_label ?_
    gi_wp2_with fail
    refine ⟨trivial, (callsIn_wide.2 HEA.out).mono ?_⟩
    rintro e w5' ⟨rfl, hw5'⟩
    rw [HW5.out] at hw5'
    subst hw5'
    clear c4
    gi_wp2_with fail
    have hz := HZZ.out
    have hMlt := HMl.out
    refine wpIn_seqX (n := 5) (Ow := fun _ => False) (Dep := fun k => k = w3.heap.size) (encs := encC) (all := classesN (2 * n + 1) s) (by omega) rfl (enters_of Tryd.func139 (by kernel_rfl) rfl) (fun x => rfl) HSEQ.out
      (fun k h => h.elim) (fun k h => by omega)
      (fun X pre W => StepI w w5 w3.heap.size s true o n cap M N X0 c (startL true ++ pre.filterMap (goesH xs c)) pre.length X W)
      (fun x X _ W => x = .exit 0 ∧ ∃ q, q ≤ 21 ∧ StepI w w5 w3.heap.size s true o n cap M N X0 c (nextsH xs true c s) q X W) ?hI ?hIx ?h0
      (fun _ k => { tmps := #[rnrV true o n cap (.map (some M)), .int .i64 (s : Nat), .int .i64 c, .pointer (some ⟨w.heap.size, 0, none⟩), undef, .pointer (some ⟨w.heap.size + 1, 0, none⟩), .int .i64 0, .pointer (some ⟨w.heap.size + 1 + 1, 0, none⟩), .int .i64 (k : Nat), undef, undef, .pointer (some ⟨w.heap.size, 0, none⟩), .pointer (some ⟨w.heap.size, 0, none⟩), .bool true, .bool false, undef, undef, undef, .int .i64 (s : Nat), .func (.func 139) #[] #[.pointer (some ⟨w3.heap.size, 0, none⟩)], .int .i64 (k : Nat), undef, undef, undef, undef, undef, undef, undef, undef, undef, undef, undef, undef, undef, undef, undef, undef, undef, undef, undef, undef, undef, undef, undef, undef, undef, undef, undef, undef], defers := [] })
      (fun A _ B => A = B) (fun A x B h => by rw [h]; exact Moves.refl _ _) ?assign ?body ?done ?stop
    case hI =>
      rintro X X' ys A C h hm hX
      exact h.moves hz hMlt hm hX
    case hIx =>
      rintro x X X' ys A C ⟨rfl, q, hq, h⟩ hm hX
      exact ⟨rfl, q, hq, h.moves hz hMlt hm hX⟩
    case h0 => exact HI5.out
    case assign =>
      rintro l2 x A K hK
      clear hz
      gi_wp2
      rfl
    case body =>
      rintro lp X pre k Aw A' W1 hA1 hpx rfl hm hXn hXn1 hXlt hI
      have hpl : pre.length + 1 ≤ 21 := by
        have h1 := hpx.length_le
        have h2 := classesN_le (2 * n + 1) s
        have h3 := HXL.out
        rw [List.length_append, List.length_singleton] at h1
        omega
      have hk := (classesN_mem.1 (hpx.subset (List.mem_append_right _ (List.mem_singleton.2 rfl)))).1
      have hXW1 : ∀ j, X j → j < W1.heap.size := fun j hj => by have := hXlt j hj; have := hm.size; omega
      obtain ⟨d0, d1, d2⟩ := rnr_cells hI.rb
      have hn10 := HXL.out
      have HLA := Lib.hid (last_any true o n cap (some M) (by omega) W1)
      obtain ⟨q2, hq2⟩ : ∃ q2, 2 * n = q2 := ⟨_, rfl⟩
      rw [hq2] at HLA
      have HI := Lib.hid hI
      have HXW1 := Lib.hid hXW1
      have HPX := Lib.hid hpx
      have HQ2 := Lib.hid hq2
      have HPL := Lib.hid hpl
      have hk1 : k < 1000000 := by omega
      clear hI hXW1 hpx hm hXn hXn1 hXlt hA1 hpl
      by_cases hkq : k = q2
      · subst hkq
        have hke : (((k : Nat) : Int) == ((k : Nat) : Int)) = true := by simp
        clear hk hq2 hz
        gi_wp2_with fail
        refine ⟨trivial, CallsIn.inRound lp ((callsIn_wide.2 HLA.out).mono ?_)⟩
        rintro e W2 ⟨rfl, b2⟩
        have HX : Hid (Moves (fun k => ¬ X k ∧ ¬ k = w3.heap.size) W1 W2 ∧ ∃ q, q ≤ 21 ∧ StepI w w5 w3.heap.size s true o n cap M N X0 c (nextsH xs true c s) q X W2) := Lib.hid ⟨Moves.of_below b2, pre.length, by have := HPL.out; omega, by
          have h0 := HI.out.moves HZZ.out HMl.out (Moves.of_below b2) (X' := X) (fun j hj => ⟨.inl hj, by have := HXW1.out j hj; have := b2.size; omega⟩)
          have h1 := HPX.out
          have h2 := HQ2.out
          rw [← HNN.out] at h2 h1
          rw [← h2] at h1
          rw [nexts_stop h1] at h0
          exact h0⟩
        clear b2
        gi_wp2
        exact ⟨HX.out.1, rfl, HX.out.2⟩
      · have hke : (((k : Nat) : Int) == ((q2 : Nat) : Int)) = false := by rw [beq_eq_false_iff_ne]; omega
        obtain ⟨i, hi⟩ : ∃ i, k / 2 = i := ⟨_, rfl⟩
        have hin : i < n := by omega
        obtain ⟨x, hx⟩ : ∃ x, xs[i]? = some x := ⟨_, List.getElem?_eq_getElem (by rw [HNN.out]; exact hin)⟩
        have hgo : goesH xs c k = wayH x c k := by unfold goesH; rw [hi, hx]
        have HGO := Lib.hid hgo
        have HX := Lib.hid hx
        have HKQ := Lib.hid (show k < 1000 by omega)
        have hi6 : i < 1000000 := Nat.lt_trans hin (by omega)
        have hqe : ((k : Nat) : Int) / 2 = ((i : Nat) : Int) := by rw [← hi]; rfl
        have hq : Int.tdiv ((k : Nat) : Int) 2 = ((i : Nat) : Int) := by rw [← hi]; rfl
        have hiw : IntKind.i64.wrap ((i : Nat) : Int) = ((i : Nat) : Int) := wrap_quoI hi6
        have hbd : 0 ≤ IntKind.i64.wrap ((i : Nat) : Int) ∧ IntKind.i64.wrap ((i : Nat) : Int) < ((n : Nat) : Int) := by rw [hiw]; exact ⟨Int.natCast_nonneg _, Int.ofNat_lt.2 hin⟩
        have hfol : Tryd.prog.follows .mixedOrders = true := by kernel_rfl
        have hqw : wrap64 (Int.tdiv ((k : Nat) : Int) 2) = ((i : Nat) : Int) := wrap_quo hq hi6
        clear hk hq2 hz hkq hi hx hgo
        gi_wp2_with fail
        refine ⟨trivial, CallsIn.inRound lp ((callsIn_wide.2 HLA.out).mono ?_)⟩
        rintro e W2 ⟨rfl, b2⟩
        have I2 := HI.out.moves HZZ.out HMl.out (Moves.of_below b2) (X' := X) (fun j hj => ⟨.inl hj, by have := HXW1.out j hj; have := b2.size; omega⟩)
        have MV2 : Hid (Moves (fun k => ¬ X k ∧ ¬ k = w3.heap.size) W1 W2) := Lib.hid (Moves.of_below b2)
        have hbW : Below w0.heap.size w0 W2 := Moves.below HB0.out HB0.out.size I2.mv (fun k hk => by have := HM0.out; omega)
        have hXW2 : ∀ j, X j → j < W2.heap.size := fun j hj => by have := HXW1.out j hj; have := b2.size; omega
        have hfit := HFI.out x (List.mem_of_getElem? HX.out)
        have hwx := HWH.out x (List.mem_of_getElem? HX.out)
        obtain ⟨g', off', rfl, hc⟩ := (HA.out.below hbW) (by rw [HNN.out]; omega)
        obtain ⟨k0, k1⟩ := hc i x HX.out
        obtain ⟨e0, e1, e2⟩ := rnr_cells I2.rb
        have cc := I2.cb.cell
        obtain ⟨XW, wm, hXW⟩ := I2.wm
        have CON : Hid (∀ res, wayA x c k = res → Calls Tryd.prog 131 #[rnrV true (some ⟨g', off', none⟩) n cap (.map (some M)), itV x] W2.drew fun e W7 => ∃ B', e = .returned (wayV B') ∧ Hid (W7.cell? ⟨w.heap.size, 0, none⟩ = some (.bool true) ∧ W7.cell? ⟨w.heap.size, 1, none⟩ = some (.slice (some ⟨g', off', none⟩) n cap) ∧ W7.cell? ⟨w.heap.size, 2, none⟩ = some (.map (some M)) ∧ W7.cell? ⟨g', off' + i * 2, none⟩ = some (.int .i64 x.1) ∧ W7.cell? ⟨g', off' + i * 2 + 1, none⟩ = some (.int .i64 x.2) ∧ W7.cell? ⟨w.heap.size + 1, 0, none⟩ = some (.int .i64 c)) ∧ Hid (Calls Tryd.prog 145 #[.int .i64 (k : Nat), .int .i64 c, .pointer (some ⟨B', 0, none⟩)] W7 fun e W8 => e = .returned res ∧ Hid (W8.cell? ⟨w.heap.size, 0, none⟩ = some (.bool true) ∧ W8.cell? ⟨w.heap.size, 1, none⟩ = some (.slice (some ⟨g', off', none⟩) n cap) ∧ W8.cell? ⟨w.heap.size, 2, none⟩ = some (.map (some M)) ∧ W8.cell? ⟨g', off' + i * 2, none⟩ = some (.int .i64 x.1) ∧ W8.cell? ⟨g', off' + i * 2 + 1, none⟩ = some (.int .i64 x.2) ∧ W8.cell? ⟨w.heap.size + 1, 0, none⟩ = some (.int .i64 c)) ∧ Hid (StepI w w5 w3.heap.size s true (some ⟨g', off', none⟩) n cap M N X0 c (startL true ++ pre.filterMap (goesH xs c)) (pre.length + 1) X W8 ∧ Moves (fun k => ¬ X k ∧ ¬ k = w3.heap.size) W1 W8 ∧ ∀ j, X j → j < W8.heap.size))) := Lib.hid fun res hres => by
          refine (way_any true (some ⟨g', off', none⟩) n cap M (N + pre.length) XW x hfit (by have := HN9.out; have := HPL.out; omega) W2.drew wm).mono ?_
          rintro e W7 ⟨B', rfl, hB', m7, wm7⟩
          have m7' : Moves (fun k => k = M) W2 W7 := ((Moves.refl _ _).drew).trans m7
          have hMlt := HMl.out
          have hzz := HZZ.out
          have hb7 := Moves.below hbW hbW.size m7' (fun k hk => by have := HM0.out; omega)
          have cb7 : Boxed W7 (w.heap.size + 1) 3 (.int .i64 c) := row_keep I2.cb m7' (by omega)
          have rb7 := row_keep I2.rb m7' (by omega)
          obtain ⟨f0, f1, f2⟩ := rnr_cells rb7
          have hat7 := HA.out.below hb7
          obtain ⟨j0, j1⟩ := at_cells hat7 (by rw [HNN.out]; omega) i x HX.out
          refine ⟨B', rfl, Lib.hid ⟨f0, f1, f2, j0, j1, cb7.cell⟩, Lib.hid ((way1_any x B' k c hwx (by have := HKQ.out; omega) W7 aP aS (HQ.out.below hb7) hB').mono ?_)⟩
          rintro e W8 ⟨rfl, b8⟩
          obtain ⟨g0, g1, g2⟩ := rnr_cells (row_below rb7 b8)
          have cb8 : Boxed W8 (w.heap.size + 1) 3 (.int .i64 c) := row_below cb7 b8
          obtain ⟨l0, l1⟩ := at_cells (hat7.below b8) (by rw [HNN.out]; omega) i x HX.out
          refine ⟨by rw [hres], Lib.hid ⟨g0, g1, g2, l0, l1, cb8.cell⟩, Lib.hid ⟨I2.way hzz hMlt hXW hXW2 m7' wm7 b8, (MV2.out.trans (m7'.mono fun j hj => ?_)).trans (Moves.of_below b8), fun j hj => ?_⟩⟩
          · rw [hj]
            have := I2.big
            exact ⟨fun hx => by have := I2.far M hx; omega, by omega⟩
          · have := hXW2 j hj
            have := m7'.size
            have := b8.size
            omega
        clear b2 I2 hbW hXW2 hfit hwx hc wm hXW
        cases hg : wayH x c k with
        | none =>
          have HCON := Lib.hid (CON.out _ (by unfold wayA; rw [hg]))
          have HL : Hid (startL true ++ (pre ++ [k]).filterMap (goesH xs c) = startL true ++ pre.filterMap (goesH xs c)) := Lib.hid (by
            rw [List.filterMap_append]
            have : [k].filterMap (goesH xs c) = [] := by simp [HGO.out, hg]
            rw [this, List.append_nil])
          clear CON hg
          gi_wp2_with fail
          refine wpIn_region_heldQ lp (fun W => W.cell? ⟨w.heap.size, 0, none⟩ = some (.bool true) ∧ W.cell? ⟨w.heap.size, 1, none⟩ = some (.slice (some ⟨g', off', none⟩) n cap) ∧ W.cell? ⟨w.heap.size, 2, none⟩ = some (.map (some M)) ∧ W.cell? ⟨g', off' + i * 2, none⟩ = some (.int .i64 x.1) ∧ W.cell? ⟨g', off' + i * 2 + 1, none⟩ = some (.int .i64 x.2) ∧ W.cell? ⟨w.heap.size + 1, 0, none⟩ = some (.int .i64 c)) (fun ⟨_, _, h⟩ => h) rfl hfol ⟨e0, e1, e2, k0, k1, cc⟩ (fun hHeld => ?_)
          refine wpAnyH_take (i := 0) (v := ?_) rfl (by kernel_rfl) (by kernel_rfl) (by kernel_rfl) (fun _ _ _ h => h) (Or.inl ⟨by rfl, ?_⟩) hHeld ?_
          rotate_left 1
          · (intro w' hSw; (try dsimp only at hSw); first | (go_simp; done) | (go_simp; with_reducible rfl))
          change wpAnyH _ _ _ _ _ _ _ (Act.put _ (some 22) _) _
          simp only [Act.put, List.setIfInBounds_toArray, List.set_cons_zero, List.set_cons_succ]
          refine wpAnyH_take (i := 1) (v := ?_) rfl (by kernel_rfl) (by kernel_rfl) (by kernel_rfl) (fun _ _ _ h => h) (Or.inl ⟨by rfl, ?_⟩) hHeld ?_
          rotate_left 1
          · (intro w' hSw; (try dsimp only at hSw); first | (go_simp; done) | (go_simp; with_reducible rfl))
          change wpAnyH _ _ _ _ _ _ _ (Act.put _ (some 23) _) _
          simp only [Act.put, List.setIfInBounds_toArray, List.set_cons_zero, List.set_cons_succ]
          refine wpAnyH_take (i := 2) (v := ?_) rfl (by kernel_rfl) (by kernel_rfl) (by kernel_rfl) (fun _ _ _ h => h) (Or.inl ⟨by rfl, ?_⟩) hHeld ?_
          rotate_left 1
          · (intro w' hSw; (try dsimp only at hSw); first | (go_simp; done) | (go_simp; with_reducible rfl))
          change wpAnyH _ _ _ _ _ _ _ (Act.put _ (some 24) _) _
          simp only [Act.put, List.setIfInBounds_toArray, List.set_cons_zero, List.set_cons_succ]
          refine wpAnyH_take (i := 3) (v := ?_) rfl (by kernel_rfl) (by kernel_rfl) (by kernel_rfl) (fun _ _ _ h => h) (Or.inl ⟨by rfl, ?_⟩) hHeld ?_
          rotate_left 1
          · (intro w' hSw; (try dsimp only at hSw); first | (go_simp; done) | (go_simp; with_reducible rfl))
          change wpAnyH _ _ _ _ _ _ _ (Act.put _ (some 25) _) _
          simp only [Act.put, List.setIfInBounds_toArray, List.set_cons_zero, List.set_cons_succ]
          refine wpAnyH_take (i := 4) (v := ?_) rfl (by kernel_rfl) (by kernel_rfl) (by kernel_rfl) (fun _ _ _ h => h) (Or.inl ⟨by rfl, ?_⟩) hHeld ?_
          rotate_left 1
          · (intro w' hSw; (try dsimp only at hSw); first | (go_simp; done) | (go_simp; with_reducible rfl))
          change wpAnyH _ _ _ _ _ _ _ (Act.put _ (some 26) _) _
          simp only [Act.put, List.setIfInBounds_toArray, List.set_cons_zero, List.set_cons_succ]
          refine wpAnyH_take (i := 5) (v := ?_) rfl (by kernel_rfl) (by kernel_rfl) (by kernel_rfl) (fun _ _ _ h => h) (Or.inl ⟨by rfl, ?_⟩) hHeld ?_
          rotate_left 1
          · (intro w' hSw; (try dsimp only at hSw); first | (go_simp; done) | (go_simp; with_reducible rfl))
          change wpAnyH _ _ _ _ _ _ _ (Act.put _ (some 27) _) _
          simp only [Act.put, List.setIfInBounds_toArray, List.set_cons_zero, List.set_cons_succ]
          refine wpAnyH_take (i := 6) (v := ?_) rfl (by kernel_rfl) (by kernel_rfl) (by kernel_rfl) (fun _ _ _ h => h) (Or.inl ⟨by rfl, ?_⟩) hHeld ?_
          rotate_left 1
          · (intro w' hSw; (try dsimp only at hSw); first | (go_simp; done) | (go_simp; with_reducible rfl))
          change wpAnyH _ _ _ _ _ _ _ (Act.put _ (some 28) _) _
          simp only [Act.put, List.setIfInBounds_toArray, List.set_cons_zero, List.set_cons_succ]
          refine wpAnyH_take (i := 7) (v := ?_) rfl (by kernel_rfl) (by kernel_rfl) (by kernel_rfl) (fun _ _ _ h => h) (Or.inl ⟨by rfl, ?_⟩) hHeld ?_
          rotate_left 1
          · (intro w' hSw; (try dsimp only at hSw); first | (go_simp; done) | (go_simp; with_reducible rfl))
          change wpAnyH _ _ _ _ _ _ _ (Act.put _ (some 29) _) _
          simp only [Act.put, List.setIfInBounds_toArray, List.set_cons_zero, List.set_cons_succ]
          refine wpAnyH_take (i := 9) (v := ?_) rfl (by kernel_rfl) (by kernel_rfl) (by kernel_rfl) (fun _ _ _ h => h) (Or.inl ⟨by rfl, ?_⟩) hHeld ?_
          rotate_left 1
          · (intro w' hSw; (try dsimp only at hSw); first | (go_simp; done) | (go_simp; with_reducible rfl))
          change wpAnyH _ _ _ _ _ _ _ (Act.put _ (some 31) _) _
          simp only [Act.put, List.setIfInBounds_toArray, List.set_cons_zero, List.set_cons_succ]
          refine wpAnyH_take (i := 10) (v := ?_) rfl (by kernel_rfl) (by kernel_rfl) (by kernel_rfl) (fun _ _ _ h => h) (Or.inl ⟨by rfl, ?_⟩) hHeld ?_
          rotate_left 1
          · (intro w' hSw; (try dsimp only at hSw); first | (go_simp; done) | (go_simp; with_reducible rfl))
          change wpAnyH _ _ _ _ _ _ _ (Act.put _ (some 32) _) _
          simp only [Act.put, List.setIfInBounds_toArray, List.set_cons_zero, List.set_cons_succ]
          refine wpAnyH_ready (rs := [8]) (by kernel_rfl) (by simp) ?_
          refine AllReadyH.cons rfl (fun K hK => ?_) AllReadyH.nil
          go_simp
          refine HCON.out.mono ?_
          rintro e W7 ⟨B', rfl, HSN, HC7⟩
          go_wp2_with fail
          refine hK.out _ _ HSN.out (fun hHeld => ?_)
          clear hK K
          try simp only [Act.put, List.setIfInBounds_toArray, List.set_cons_zero, List.set_cons_succ]
          refine wpAnyH_ready (rs := [11]) (by kernel_rfl) (by simp) ?_
          refine AllReadyH.cons rfl (fun K hK => ?_) AllReadyH.nil
          go_simp
          refine HC7.out.mono ?_
          rintro e W8 ⟨rfl, HSN, H8⟩
          go_wp2_with fail
          refine hK.out _ _ HSN.out (fun hHeld => ?_)
          clear hK K
          try simp only [Act.put, List.setIfInBounds_toArray, List.set_cons_zero, List.set_cons_succ]
          refine wpAnyH_take (i := 12) (v := ?_) rfl (by kernel_rfl) (by kernel_rfl) (by kernel_rfl) (fun _ _ _ h => h) (Or.inl ⟨by rfl, ?_⟩) hHeld ?_
          rotate_left 1
          · (intro w' hSw; (try dsimp only at hSw); first | (go_simp; done) | (go_simp; with_reducible rfl))
          change wpAnyH _ _ _ _ _ _ _ (Act.put _ (some 21) _) _
          simp only [Act.put, List.setIfInBounds_toArray, List.set_cons_zero, List.set_cons_succ]
          refine wpAnyH_take (i := 13) (v := ?_) rfl (by kernel_rfl) (by kernel_rfl) (by kernel_rfl) (fun _ _ _ h => h) (Or.inl ⟨by rfl, ?_⟩) hHeld ?_
          rotate_left 1
          · (intro w' hSw; (try dsimp only at hSw); first | (go_simp; done) | (go_simp; with_reducible rfl))
          change wpAnyH _ _ _ _ _ _ _ (Act.put _ (some 34) _) _
          simp only [Act.put, List.setIfInBounds_toArray, List.set_cons_zero, List.set_cons_succ]
          refine wpAnyH_take (i := 14) (v := ?_) rfl (by kernel_rfl) (by kernel_rfl) (by kernel_rfl) (fun _ _ _ h => h) (Or.inl ⟨by rfl, ?_⟩) hHeld ?_
          rotate_left 1
          · (intro w' hSw; (try dsimp only at hSw); first | (go_simp; done) | (go_simp; with_reducible rfl))
          change wpAnyH _ _ _ _ _ _ _ (Act.put _ (some 35) _) _
          simp only [Act.put, List.setIfInBounds_toArray, List.set_cons_zero, List.set_cons_succ]
          refine wpAnyH_take (i := 15) (v := ?_) rfl (by kernel_rfl) (by kernel_rfl) (by kernel_rfl) (fun _ _ _ h => h) (Or.inl ⟨by rfl, ?_⟩) hHeld ?_
          rotate_left 1
          · (intro w' hSw; (try dsimp only at hSw); first | (go_simp; done) | (go_simp; with_reducible rfl))
          change wpAnyH _ _ _ _ _ _ _ (Act.put _ (some 9) _) _
          simp only [Act.put, List.setIfInBounds_toArray, List.set_cons_zero, List.set_cons_succ]
          refine wpAnyH_take (i := 16) (v := ?_) rfl (by kernel_rfl) (by kernel_rfl) (by kernel_rfl) (fun _ _ _ h => h) (Or.inl ⟨by rfl, ?_⟩) hHeld ?_
          rotate_left 1
          · (intro w' hSw; (try dsimp only at hSw); first | (go_simp; done) | (go_simp; with_reducible rfl))
          change wpAnyH _ _ _ _ _ _ _ (Act.put _ (some 10) _) _
          simp only [Act.put, List.setIfInBounds_toArray, List.set_cons_zero, List.set_cons_succ]
          refine wpAnyH_done (by kernel_rfl) ?_ _
          gi_wp2
          have h8 := H8.out
          refine ⟨h8.2.1, ?_⟩
          dsimp only
          rw [HL.out, List.length_append]
          exact h8.1
        | some m =>
          have HCON := Lib.hid (CON.out _ (by unfold wayA; rw [hg]))
          have HL : Hid (startL true ++ (pre ++ [k]).filterMap (goesH xs c) = startL true ++ pre.filterMap (goesH xs c) ++ [m]) := Lib.hid (by
            rw [List.filterMap_append]
            have : [k].filterMap (goesH xs c) = [m] := by simp [HGO.out, hg]
            rw [this, List.append_assoc])
          clear CON hg
          gi_wp2_with fail
          refine wpIn_region_heldQ lp (fun W => W.cell? ⟨w.heap.size, 0, none⟩ = some (.bool true) ∧ W.cell? ⟨w.heap.size, 1, none⟩ = some (.slice (some ⟨g', off', none⟩) n cap) ∧ W.cell? ⟨w.heap.size, 2, none⟩ = some (.map (some M)) ∧ W.cell? ⟨g', off' + i * 2, none⟩ = some (.int .i64 x.1) ∧ W.cell? ⟨g', off' + i * 2 + 1, none⟩ = some (.int .i64 x.2) ∧ W.cell? ⟨w.heap.size + 1, 0, none⟩ = some (.int .i64 c)) (fun ⟨_, _, h⟩ => h) rfl hfol ⟨e0, e1, e2, k0, k1, cc⟩ (fun hHeld => ?_)
          refine wpAnyH_take (i := 0) (v := ?_) rfl (by kernel_rfl) (by kernel_rfl) (by kernel_rfl) (fun _ _ _ h => h) (Or.inl ⟨by rfl, ?_⟩) hHeld ?_
          rotate_left 1
          · (intro w' hSw; (try dsimp only at hSw); first | (go_simp; done) | (go_simp; with_reducible rfl))
          change wpAnyH _ _ _ _ _ _ _ (Act.put _ (some 22) _) _
          simp only [Act.put, List.setIfInBounds_toArray, List.set_cons_zero, List.set_cons_succ]
          refine wpAnyH_take (i := 1) (v := ?_) rfl (by kernel_rfl) (by kernel_rfl) (by kernel_rfl) (fun _ _ _ h => h) (Or.inl ⟨by rfl, ?_⟩) hHeld ?_
          rotate_left 1
          · (intro w' hSw; (try dsimp only at hSw); first | (go_simp; done) | (go_simp; with_reducible rfl))
          change wpAnyH _ _ _ _ _ _ _ (Act.put _ (some 23) _) _
          simp only [Act.put, List.setIfInBounds_toArray, List.set_cons_zero, List.set_cons_succ]
          refine wpAnyH_take (i := 2) (v := ?_) rfl (by kernel_rfl) (by kernel_rfl) (by kernel_rfl) (fun _ _ _ h => h) (Or.inl ⟨by rfl, ?_⟩) hHeld ?_
          rotate_left 1
          · (intro w' hSw; (try dsimp only at hSw); first | (go_simp; done) | (go_simp; with_reducible rfl))
          change wpAnyH _ _ _ _ _ _ _ (Act.put _ (some 24) _) _
          simp only [Act.put, List.setIfInBounds_toArray, List.set_cons_zero, List.set_cons_succ]
          refine wpAnyH_take (i := 3) (v := ?_) rfl (by kernel_rfl) (by kernel_rfl) (by kernel_rfl) (fun _ _ _ h => h) (Or.inl ⟨by rfl, ?_⟩) hHeld ?_
          rotate_left 1
          · (intro w' hSw; (try dsimp only at hSw); first | (go_simp; done) | (go_simp; with_reducible rfl))
          change wpAnyH _ _ _ _ _ _ _ (Act.put _ (some 25) _) _
          simp only [Act.put, List.setIfInBounds_toArray, List.set_cons_zero, List.set_cons_succ]
          refine wpAnyH_take (i := 4) (v := ?_) rfl (by kernel_rfl) (by kernel_rfl) (by kernel_rfl) (fun _ _ _ h => h) (Or.inl ⟨by rfl, ?_⟩) hHeld ?_
          rotate_left 1
          · (intro w' hSw; (try dsimp only at hSw); first | (go_simp; done) | (go_simp; with_reducible rfl))
          change wpAnyH _ _ _ _ _ _ _ (Act.put _ (some 26) _) _
          simp only [Act.put, List.setIfInBounds_toArray, List.set_cons_zero, List.set_cons_succ]
          refine wpAnyH_take (i := 5) (v := ?_) rfl (by kernel_rfl) (by kernel_rfl) (by kernel_rfl) (fun _ _ _ h => h) (Or.inl ⟨by rfl, ?_⟩) hHeld ?_
          rotate_left 1
          · (intro w' hSw; (try dsimp only at hSw); first | (go_simp; done) | (go_simp; with_reducible rfl))
          change wpAnyH _ _ _ _ _ _ _ (Act.put _ (some 27) _) _
          simp only [Act.put, List.setIfInBounds_toArray, List.set_cons_zero, List.set_cons_succ]
          refine wpAnyH_take (i := 6) (v := ?_) rfl (by kernel_rfl) (by kernel_rfl) (by kernel_rfl) (fun _ _ _ h => h) (Or.inl ⟨by rfl, ?_⟩) hHeld ?_
          rotate_left 1
          · (intro w' hSw; (try dsimp only at hSw); first | (go_simp; done) | (go_simp; with_reducible rfl))
          change wpAnyH _ _ _ _ _ _ _ (Act.put _ (some 28) _) _
          simp only [Act.put, List.setIfInBounds_toArray, List.set_cons_zero, List.set_cons_succ]
          refine wpAnyH_take (i := 7) (v := ?_) rfl (by kernel_rfl) (by kernel_rfl) (by kernel_rfl) (fun _ _ _ h => h) (Or.inl ⟨by rfl, ?_⟩) hHeld ?_
          rotate_left 1
          · (intro w' hSw; (try dsimp only at hSw); first | (go_simp; done) | (go_simp; with_reducible rfl))
          change wpAnyH _ _ _ _ _ _ _ (Act.put _ (some 29) _) _
          simp only [Act.put, List.setIfInBounds_toArray, List.set_cons_zero, List.set_cons_succ]
          refine wpAnyH_take (i := 9) (v := ?_) rfl (by kernel_rfl) (by kernel_rfl) (by kernel_rfl) (fun _ _ _ h => h) (Or.inl ⟨by rfl, ?_⟩) hHeld ?_
          rotate_left 1
          · (intro w' hSw; (try dsimp only at hSw); first | (go_simp; done) | (go_simp; with_reducible rfl))
          change wpAnyH _ _ _ _ _ _ _ (Act.put _ (some 31) _) _
          simp only [Act.put, List.setIfInBounds_toArray, List.set_cons_zero, List.set_cons_succ]
          refine wpAnyH_take (i := 10) (v := ?_) rfl (by kernel_rfl) (by kernel_rfl) (by kernel_rfl) (fun _ _ _ h => h) (Or.inl ⟨by rfl, ?_⟩) hHeld ?_
          rotate_left 1
          · (intro w' hSw; (try dsimp only at hSw); first | (go_simp; done) | (go_simp; with_reducible rfl))
          change wpAnyH _ _ _ _ _ _ _ (Act.put _ (some 32) _) _
          simp only [Act.put, List.setIfInBounds_toArray, List.set_cons_zero, List.set_cons_succ]
          refine wpAnyH_ready (rs := [8]) (by kernel_rfl) (by simp) ?_
          refine AllReadyH.cons rfl (fun K hK => ?_) AllReadyH.nil
          go_simp
          refine HCON.out.mono ?_
          rintro e W7 ⟨B', rfl, HSN, HC7⟩
          go_wp2_with fail
          refine hK.out _ _ HSN.out (fun hHeld => ?_)
          clear hK K
          try simp only [Act.put, List.setIfInBounds_toArray, List.set_cons_zero, List.set_cons_succ]
          refine wpAnyH_ready (rs := [11]) (by kernel_rfl) (by simp) ?_
          refine AllReadyH.cons rfl (fun K hK => ?_) AllReadyH.nil
          go_simp
          refine HC7.out.mono ?_
          rintro e W8 ⟨rfl, HSN, H8⟩
          go_wp2_with fail
          refine hK.out _ _ HSN.out (fun hHeld => ?_)
          clear hK K
          try simp only [Act.put, List.setIfInBounds_toArray, List.set_cons_zero, List.set_cons_succ]
          refine wpAnyH_take (i := 12) (v := ?_) rfl (by kernel_rfl) (by kernel_rfl) (by kernel_rfl) (fun _ _ _ h => h) (Or.inl ⟨by rfl, ?_⟩) hHeld ?_
          rotate_left 1
          · (intro w' hSw; (try dsimp only at hSw); first | (go_simp; done) | (go_simp; with_reducible rfl))
          change wpAnyH _ _ _ _ _ _ _ (Act.put _ (some 21) _) _
          simp only [Act.put, List.setIfInBounds_toArray, List.set_cons_zero, List.set_cons_succ]
          refine wpAnyH_take (i := 13) (v := ?_) rfl (by kernel_rfl) (by kernel_rfl) (by kernel_rfl) (fun _ _ _ h => h) (Or.inl ⟨by rfl, ?_⟩) hHeld ?_
          rotate_left 1
          · (intro w' hSw; (try dsimp only at hSw); first | (go_simp; done) | (go_simp; with_reducible rfl))
          change wpAnyH _ _ _ _ _ _ _ (Act.put _ (some 34) _) _
          simp only [Act.put, List.setIfInBounds_toArray, List.set_cons_zero, List.set_cons_succ]
          refine wpAnyH_take (i := 14) (v := ?_) rfl (by kernel_rfl) (by kernel_rfl) (by kernel_rfl) (fun _ _ _ h => h) (Or.inl ⟨by rfl, ?_⟩) hHeld ?_
          rotate_left 1
          · (intro w' hSw; (try dsimp only at hSw); first | (go_simp; done) | (go_simp; with_reducible rfl))
          change wpAnyH _ _ _ _ _ _ _ (Act.put _ (some 35) _) _
          simp only [Act.put, List.setIfInBounds_toArray, List.set_cons_zero, List.set_cons_succ]
          refine wpAnyH_take (i := 15) (v := ?_) rfl (by kernel_rfl) (by kernel_rfl) (by kernel_rfl) (fun _ _ _ h => h) (Or.inl ⟨by rfl, ?_⟩) hHeld ?_
          rotate_left 1
          · (intro w' hSw; (try dsimp only at hSw); first | (go_simp; done) | (go_simp; with_reducible rfl))
          change wpAnyH _ _ _ _ _ _ _ (Act.put _ (some 9) _) _
          simp only [Act.put, List.setIfInBounds_toArray, List.set_cons_zero, List.set_cons_succ]
          refine wpAnyH_take (i := 16) (v := ?_) rfl (by kernel_rfl) (by kernel_rfl) (by kernel_rfl) (fun _ _ _ h => h) (Or.inl ⟨by rfl, ?_⟩) hHeld ?_
          rotate_left 1
          · (intro w' hSw; (try dsimp only at hSw); first | (go_simp; done) | (go_simp; with_reducible rfl))
          change wpAnyH _ _ _ _ _ _ _ (Act.put _ (some 10) _) _
          simp only [Act.put, List.setIfInBounds_toArray, List.set_cons_zero, List.set_cons_succ]
          refine wpAnyH_done (by kernel_rfl) ?_ _
          have hl1 : (startL true ++ pre.filterMap (goesH xs c)).length ≤ 1000 := by
            have h1 := List.length_filterMap_le (goesH xs c) pre
            have h2 : (startL true).length ≤ 1 := by unfold startL; split <;> simp
            have h3 := HPL.out
            rw [List.length_append]
            omega
          obtain ⟨o', c', g2, cap2, w6', a1, a2, a3, a4, a5, a6⟩ := H8.out.1.app HZZ.out HMl.out hl1 H8.out.2.2 m
          have HA5 := Lib.hid a5
          have HA6 := Lib.hid a6
          obtain ⟨ll, hll⟩ : ∃ ll, (startL true ++ pre.filterMap (goesH xs c)).length = ll := ⟨_, rfl⟩
          rw [hll] at a1 a2 a3 HA5 HA6
          clear a5 a6 hll hl1
          gi_wp2
          refine ⟨H8.out.2.1.trans HA6.out, ?_⟩
          try dsimp only
          rw [HL.out, List.length_append]
          exact HA5.out
    case done =>
      rintro X D W hD hXD hI hX hK
      rw [HNA.out] at hI
      have hq21 : (classesN (2 * n + 1) s).length ≤ 21 := by have := classesN_le (2 * n + 1) s; have := HXL.out; omega
      obtain ⟨v, n1, n2, n3⟩ := hI.nb
      obtain ⟨lo, lc, rfl⟩ := own_form n2
      obtain ⟨XW, wm, hXW⟩ := hI.wm
      obtain ⟨d0, d1, d2⟩ := rnr_cells hI.rb
      have cn : W.cell? ⟨w.heap.size + 1 + 1, 0, none⟩ = some (.slice lo (nextsH xs true c s).length lc) := n1.cell
      have hbW : Below w0.heap.size w0 W := Moves.below HB0.out HB0.out.size hI.mv (fun k hk => by have := HM0.out; omega)
      have hnums : NumsAt W lo (natsZ (nextsH xs true c s)) := fun hn => by
        obtain ⟨g, ho, hc⟩ := row_placeK n2 (by simpa using hn)
        refine ⟨g, 0, ho, fun j x hx => ?_⟩
        rw [Nat.zero_add]
        rw [List.getElem?_map] at hx
        obtain ⟨y, hy, rfl⟩ := Option.map_eq_some_iff.1 hx
        exact hc j _ (by rw [List.getElem?_map, hy]; rfl)
      have HCL := Lib.hid (closed_any true o lo xs cap lc (some M) (nextsH xs true c s) (by rw [HNN.out]; exact HXL.out) (HNL.out) (HNT.out) W (HA.out.below hbW) hnums)
      rw [HNN.out] at HCL
      have HFIN : Hid (∀ W9, Below W.heap.size W W9 → W9.heap[D]? = some (.deferred (some [])) ∧ P (.returned (.int .i64 ((closedH xs (setOfN (nextsH xs true c s)) : Nat) : Int))) (W9.putObj D (.deferred none))) := Lib.hid fun W9 b9 => by
        have mp : Moves (fun k => k = D) W9 (W9.putObj D (.deferred none)) := Moves.putObj rfl
        have hz := HZZ.out
        have hl := HMl.out
        refine ⟨row_below hK b9, ?_⟩
        rw [← HP.out]
        refine ⟨by rw [HNS.out _ rfl], ?_, XW, ((wm.below b9).moves mp (by omega) (fun k hk e => (hXW k hk).2.1 (by rw [e]; exact hXD))).mono (by omega) (fun _ h => h), fun k hk => ⟨(hXW k hk).1, ?_⟩⟩
        · have h9 := hI.mv.trans (Moves.of_below (S := fun k => k = M) b9)
          exact ⟨mp.os.trans h9.os, mp.tape.trans h9.tape, mp.output.trans h9.output, Nat.le_trans h9.size mp.size, fun k hk hs => (mp.block k (by have := h9.size; omega) (by omega)).trans (h9.block k hk hs)⟩
        · have := (hXW k hk).2.2
          have := b9.size
          have := mp.size
          omega
      obtain ⟨z, hz⟩ : ∃ z, closedH xs (setOfN (nextsH xs true c s)) = z := ⟨_, rfl⟩
      obtain ⟨ll, hll⟩ : ∃ ll, (nextsH xs true c s).length = ll := ⟨_, rfl⟩
      rw [hz] at HCL HFIN
      rw [hll] at HCL cn
      clear hI n1 n2 n3 wm hXW hbW hnums hK hX hz hll
      gi_wp2_with fail
      refine ⟨trivial, (callsIn_wide.2 HCL.out).mono ?_⟩
      rintro e W9 ⟨rfl, b9⟩
      obtain ⟨hK9, hp⟩ := HFIN.out W9 b9
      have HK9 := Lib.hid hK9
      have HPP := Lib.hid hp
      clear b9 hK9 hp
      gi_wp2
      rw [Exit.noGoto_ret]
      refine ⟨by simp, .inl ⟨_, _, rfl, run_takeDeferred HK9.out, ?_⟩⟩
      exact ⟨_, by simp [results, Tryd.f122, go_sem], HPP.out⟩
    case stop =>
      rintro X D x pre W hD hXD hpre ⟨rfl, q, hq21, hI⟩ hX hK
      obtain ⟨v, n1, n2, n3⟩ := hI.nb
      obtain ⟨lo, lc, rfl⟩ := own_form n2
      obtain ⟨XW, wm, hXW⟩ := hI.wm
      obtain ⟨d0, d1, d2⟩ := rnr_cells hI.rb
      have cn : W.cell? ⟨w.heap.size + 1 + 1, 0, none⟩ = some (.slice lo (nextsH xs true c s).length lc) := n1.cell
      have hbW : Below w0.heap.size w0 W := Moves.below HB0.out HB0.out.size hI.mv (fun k hk => by have := HM0.out; omega)
      have hnums : NumsAt W lo (natsZ (nextsH xs true c s)) := fun hn => by
        obtain ⟨g, ho, hc⟩ := row_placeK n2 (by simpa using hn)
        refine ⟨g, 0, ho, fun j x hx => ?_⟩
        rw [Nat.zero_add]
        rw [List.getElem?_map] at hx
        obtain ⟨y, hy, rfl⟩ := Option.map_eq_some_iff.1 hx
        exact hc j _ (by rw [List.getElem?_map, hy]; rfl)
      have HCL := Lib.hid (closed_any true o lo xs cap lc (some M) (nextsH xs true c s) (by rw [HNN.out]; exact HXL.out) (HNL.out) (HNT.out) W (HA.out.below hbW) hnums)
      rw [HNN.out] at HCL
      have HFIN : Hid (∀ W9, Below W.heap.size W W9 → W9.heap[D]? = some (.deferred (some [])) ∧ P (.returned (.int .i64 ((closedH xs (setOfN (nextsH xs true c s)) : Nat) : Int))) (W9.putObj D (.deferred none))) := Lib.hid fun W9 b9 => by
        have mp : Moves (fun k => k = D) W9 (W9.putObj D (.deferred none)) := Moves.putObj rfl
        have hz := HZZ.out
        have hl := HMl.out
        refine ⟨row_below hK b9, ?_⟩
        rw [← HP.out]
        refine ⟨by rw [HNS.out _ rfl], ?_, XW, ((wm.below b9).moves mp (by omega) (fun k hk e => (hXW k hk).2.1 (by rw [e]; exact hXD))).mono (by omega) (fun _ h => h), fun k hk => ⟨(hXW k hk).1, ?_⟩⟩
        · have h9 := hI.mv.trans (Moves.of_below (S := fun k => k = M) b9)
          exact ⟨mp.os.trans h9.os, mp.tape.trans h9.tape, mp.output.trans h9.output, Nat.le_trans h9.size mp.size, fun k hk hs => (mp.block k (by have := h9.size; omega) (by omega)).trans (h9.block k hk hs)⟩
        · have := (hXW k hk).2.2
          have := b9.size
          have := mp.size
          omega
      obtain ⟨z, hz⟩ : ∃ z, closedH xs (setOfN (nextsH xs true c s)) = z := ⟨_, rfl⟩
      obtain ⟨ll, hll⟩ : ∃ ll, (nextsH xs true c s).length = ll := ⟨_, rfl⟩
      rw [hz] at HCL HFIN
      rw [hll] at HCL cn
      clear hI n1 n2 n3 wm hXW hbW hnums hK hX hz hll
      gi_wp2_with fail
      refine ⟨trivial, (callsIn_wide.2 HCL.out).mono ?_⟩
      rintro e W9 ⟨rfl, b9⟩
      obtain ⟨hK9, hp⟩ := HFIN.out W9 b9
      have HK9 := Lib.hid hK9
      have HPP := Lib.hid hp
      clear b9 hK9 hp
      gi_wp2
      rw [Exit.noGoto_ret]
      refine ⟨by simp, .inl ⟨_, _, rfl, run_takeDeferred HK9.out, ?_⟩⟩
      exact ⟨_, by simp [results, Tryd.f122, go_sem], HPP.out⟩
  · obtain ⟨g, cap', w6, rfl, hrun, hset, k2, f2⟩ := HF.out rfl
    have HSET := Lib.hid hset
    clear hset
    rw [← HW3.out] at hrun
    gi_wp2_with fail
    refine wpIn_wide.2 (wp_scope_straight ((wpIn_wide (n := 5)).1 ?_))
    gi_wp2_with fail
    rw [HSET.out]
    refine wpIn_label ?_
    gi_wp2_with fail
    refine ⟨trivial, (callsIn_wide.2 HEA.out).mono ?_⟩
    rintro e w5' ⟨rfl, hw5'⟩
    rw [HW5.out] at hw5'
    subst hw5'
    clear c4
    gi_wp2_with fail
    have hz := HZZ.out
    have hMlt := HMl.out
    refine wpIn_seqX (n := 5) (Ow := fun _ => False) (Dep := fun k => k = w4.heap.size) (encs := encC) (all := classesN (2 * n + 1) s) (by omega) rfl (enters_of Tryd.func139 (by kernel_rfl) rfl) (fun x => rfl) HSEQ.out
      (fun k h => h.elim) (fun k h => by omega)
      (fun X pre W => StepI w w5 w4.heap.size s false o n cap M N X0 c (startL false ++ pre.filterMap (goesH xs c)) pre.length X W)
      (fun x X _ W => x = .exit 0 ∧ ∃ q, q ≤ 21 ∧ StepI w w5 w4.heap.size s false o n cap M N X0 c (nextsH xs false c s) q X W) ?hI ?hIx ?h0
      (fun _ k => { tmps := #[rnrV false o n cap (.map (some M)), .int .i64 (s : Nat), .int .i64 c, .pointer (some ⟨w.heap.size, 0, none⟩), undef, .pointer (some ⟨w.heap.size + 1, 0, none⟩), .int .i64 0, .pointer (some ⟨w.heap.size + 1 + 1, 0, none⟩), .int .i64 (k : Nat), undef, undef, .pointer (some ⟨w.heap.size, 0, none⟩), .pointer (some ⟨w.heap.size, 0, none⟩), .bool false, .bool true, .slice none 0 0, .slice (some ⟨w.heap.size + 1 + 1 + 1, 0, none⟩) 1 1, .slice (some ⟨g, 0, none⟩) 1 cap', .int .i64 (s : Nat), .func (.func 139) #[] #[.pointer (some ⟨w4.heap.size, 0, none⟩)], .int .i64 (k : Nat), undef, undef, undef, undef, undef, undef, undef, undef, undef, undef, undef, undef, undef, undef, undef, undef, undef, undef, undef, undef, undef, undef, undef, undef, undef, undef, undef, undef], defers := [] })
      (fun A _ B => A = B) (fun A x B h => by rw [h]; exact Moves.refl _ _) ?assign ?body ?done ?stop
    case hI =>
      rintro X X' ys A C h hm hX
      exact h.moves hz hMlt hm hX
    case hIx =>
      rintro x X X' ys A C ⟨rfl, q, hq, h⟩ hm hX
      exact ⟨rfl, q, hq, h.moves hz hMlt hm hX⟩
    case h0 => exact HI5.out
    case assign =>
      rintro l2 x A K hK
      clear hz
      gi_wp2
      rfl
    case body =>
      rintro lp X pre k Aw A' W1 hA1 hpx rfl hm hXn hXn1 hXlt hI
      have hpl : pre.length + 1 ≤ 21 := by
        have h1 := hpx.length_le
        have h2 := classesN_le (2 * n + 1) s
        have h3 := HXL.out
        rw [List.length_append, List.length_singleton] at h1
        omega
      have hk := (classesN_mem.1 (hpx.subset (List.mem_append_right _ (List.mem_singleton.2 rfl)))).1
      have hXW1 : ∀ j, X j → j < W1.heap.size := fun j hj => by have := hXlt j hj; have := hm.size; omega
      obtain ⟨d0, d1, d2⟩ := rnr_cells hI.rb
      have hn10 := HXL.out
      have HLA := Lib.hid (last_any false o n cap (some M) (by omega) W1)
      obtain ⟨q2, hq2⟩ : ∃ q2, 2 * n = q2 := ⟨_, rfl⟩
      rw [hq2] at HLA
      have HI := Lib.hid hI
      have HXW1 := Lib.hid hXW1
      have HPX := Lib.hid hpx
      have HQ2 := Lib.hid hq2
      have HPL := Lib.hid hpl
      have hk1 : k < 1000000 := by omega
      clear hI hXW1 hpx hm hXn hXn1 hXlt hA1 hpl
      by_cases hkq : k = q2
      · subst hkq
        have hke : (((k : Nat) : Int) == ((k : Nat) : Int)) = true := by simp
        clear hk hq2 hz
        gi_wp2_with fail
        refine ⟨trivial, CallsIn.inRound lp ((callsIn_wide.2 HLA.out).mono ?_)⟩
        rintro e W2 ⟨rfl, b2⟩
        have HX : Hid (Moves (fun k => ¬ X k ∧ ¬ k = w4.heap.size) W1 W2 ∧ ∃ q, q ≤ 21 ∧ StepI w w5 w4.heap.size s false o n cap M N X0 c (nextsH xs false c s) q X W2) := Lib.hid ⟨Moves.of_below b2, pre.length, by have := HPL.out; omega, by
          have h0 := HI.out.moves HZZ.out HMl.out (Moves.of_below b2) (X' := X) (fun j hj => ⟨.inl hj, by have := HXW1.out j hj; have := b2.size; omega⟩)
          have h1 := HPX.out
          have h2 := HQ2.out
          rw [← HNN.out] at h2 h1
          rw [← h2] at h1
          rw [nexts_stop h1] at h0
          exact h0⟩
        clear b2
        gi_wp2
        exact ⟨HX.out.1, rfl, HX.out.2⟩
      · have hke : (((k : Nat) : Int) == ((q2 : Nat) : Int)) = false := by rw [beq_eq_false_iff_ne]; omega
        obtain ⟨i, hi⟩ : ∃ i, k / 2 = i := ⟨_, rfl⟩
        have hin : i < n := by omega
        obtain ⟨x, hx⟩ : ∃ x, xs[i]? = some x := ⟨_, List.getElem?_eq_getElem (by rw [HNN.out]; exact hin)⟩
        have hgo : goesH xs c k = wayH x c k := by unfold goesH; rw [hi, hx]
        have HGO := Lib.hid hgo
        have HX := Lib.hid hx
        have HKQ := Lib.hid (show k < 1000 by omega)
        have hi6 : i < 1000000 := Nat.lt_trans hin (by omega)
        have hqe : ((k : Nat) : Int) / 2 = ((i : Nat) : Int) := by rw [← hi]; rfl
        have hq : Int.tdiv ((k : Nat) : Int) 2 = ((i : Nat) : Int) := by rw [← hi]; rfl
        have hiw : IntKind.i64.wrap ((i : Nat) : Int) = ((i : Nat) : Int) := wrap_quoI hi6
        have hbd : 0 ≤ IntKind.i64.wrap ((i : Nat) : Int) ∧ IntKind.i64.wrap ((i : Nat) : Int) < ((n : Nat) : Int) := by rw [hiw]; exact ⟨Int.natCast_nonneg _, Int.ofNat_lt.2 hin⟩
        have hfol : Tryd.prog.follows .mixedOrders = true := by kernel_rfl
        have hqw : wrap64 (Int.tdiv ((k : Nat) : Int) 2) = ((i : Nat) : Int) := wrap_quo hq hi6
        clear hk hq2 hz hkq hi hx hgo
        gi_wp2_with fail
        refine ⟨trivial, CallsIn.inRound lp ((callsIn_wide.2 HLA.out).mono ?_)⟩
        rintro e W2 ⟨rfl, b2⟩
        have I2 := HI.out.moves HZZ.out HMl.out (Moves.of_below b2) (X' := X) (fun j hj => ⟨.inl hj, by have := HXW1.out j hj; have := b2.size; omega⟩)
        have MV2 : Hid (Moves (fun k => ¬ X k ∧ ¬ k = w4.heap.size) W1 W2) := Lib.hid (Moves.of_below b2)
        have hbW : Below w0.heap.size w0 W2 := Moves.below HB0.out HB0.out.size I2.mv (fun k hk => by have := HM0.out; omega)
        have hXW2 : ∀ j, X j → j < W2.heap.size := fun j hj => by have := HXW1.out j hj; have := b2.size; omega
        have hfit := HFI.out x (List.mem_of_getElem? HX.out)
        have hwx := HWH.out x (List.mem_of_getElem? HX.out)
        obtain ⟨g', off', rfl, hc⟩ := (HA.out.below hbW) (by rw [HNN.out]; omega)
        obtain ⟨k0, k1⟩ := hc i x HX.out
        obtain ⟨e0, e1, e2⟩ := rnr_cells I2.rb
        have cc := I2.cb.cell
        obtain ⟨XW, wm, hXW⟩ := I2.wm
        have CON : Hid (∀ res, wayA x c k = res → Calls Tryd.prog 131 #[rnrV false (some ⟨g', off', none⟩) n cap (.map (some M)), itV x] W2.drew fun e W7 => ∃ B', e = .returned (wayV B') ∧ Hid (W7.cell? ⟨w.heap.size, 0, none⟩ = some (.bool false) ∧ W7.cell? ⟨w.heap.size, 1, none⟩ = some (.slice (some ⟨g', off', none⟩) n cap) ∧ W7.cell? ⟨w.heap.size, 2, none⟩ = some (.map (some M)) ∧ W7.cell? ⟨g', off' + i * 2, none⟩ = some (.int .i64 x.1) ∧ W7.cell? ⟨g', off' + i * 2 + 1, none⟩ = some (.int .i64 x.2) ∧ W7.cell? ⟨w.heap.size + 1, 0, none⟩ = some (.int .i64 c)) ∧ Hid (Calls Tryd.prog 145 #[.int .i64 (k : Nat), .int .i64 c, .pointer (some ⟨B', 0, none⟩)] W7 fun e W8 => e = .returned res ∧ Hid (W8.cell? ⟨w.heap.size, 0, none⟩ = some (.bool false) ∧ W8.cell? ⟨w.heap.size, 1, none⟩ = some (.slice (some ⟨g', off', none⟩) n cap) ∧ W8.cell? ⟨w.heap.size, 2, none⟩ = some (.map (some M)) ∧ W8.cell? ⟨g', off' + i * 2, none⟩ = some (.int .i64 x.1) ∧ W8.cell? ⟨g', off' + i * 2 + 1, none⟩ = some (.int .i64 x.2) ∧ W8.cell? ⟨w.heap.size + 1, 0, none⟩ = some (.int .i64 c)) ∧ Hid (StepI w w5 w4.heap.size s false (some ⟨g', off', none⟩) n cap M N X0 c (startL false ++ pre.filterMap (goesH xs c)) (pre.length + 1) X W8 ∧ Moves (fun k => ¬ X k ∧ ¬ k = w4.heap.size) W1 W8 ∧ ∀ j, X j → j < W8.heap.size))) := Lib.hid fun res hres => by
          refine (way_any false (some ⟨g', off', none⟩) n cap M (N + pre.length) XW x hfit (by have := HN9.out; have := HPL.out; omega) W2.drew wm).mono ?_
          rintro e W7 ⟨B', rfl, hB', m7, wm7⟩
          have m7' : Moves (fun k => k = M) W2 W7 := ((Moves.refl _ _).drew).trans m7
          have hMlt := HMl.out
          have hzz := HZZ.out
          have hb7 := Moves.below hbW hbW.size m7' (fun k hk => by have := HM0.out; omega)
          have cb7 : Boxed W7 (w.heap.size + 1) 3 (.int .i64 c) := row_keep I2.cb m7' (by omega)
          have rb7 := row_keep I2.rb m7' (by omega)
          obtain ⟨f0, f1, f2⟩ := rnr_cells rb7
          have hat7 := HA.out.below hb7
          obtain ⟨j0, j1⟩ := at_cells hat7 (by rw [HNN.out]; omega) i x HX.out
          refine ⟨B', rfl, Lib.hid ⟨f0, f1, f2, j0, j1, cb7.cell⟩, Lib.hid ((way1_any x B' k c hwx (by have := HKQ.out; omega) W7 aP aS (HQ.out.below hb7) hB').mono ?_)⟩
          rintro e W8 ⟨rfl, b8⟩
          obtain ⟨g0, g1, g2⟩ := rnr_cells (row_below rb7 b8)
          have cb8 : Boxed W8 (w.heap.size + 1) 3 (.int .i64 c) := row_below cb7 b8
          obtain ⟨l0, l1⟩ := at_cells (hat7.below b8) (by rw [HNN.out]; omega) i x HX.out
          refine ⟨by rw [hres], Lib.hid ⟨g0, g1, g2, l0, l1, cb8.cell⟩, Lib.hid ⟨I2.way hzz hMlt hXW hXW2 m7' wm7 b8, (MV2.out.trans (m7'.mono fun j hj => ?_)).trans (Moves.of_below b8), fun j hj => ?_⟩⟩
          · rw [hj]
            have := I2.big
            exact ⟨fun hx => by have := I2.far M hx; omega, by omega⟩
          · have := hXW2 j hj
            have := m7'.size
            have := b8.size
            omega
        clear b2 I2 hbW hXW2 hfit hwx hc wm hXW
        cases hg : wayH x c k with
        | none =>
          have HCON := Lib.hid (CON.out _ (by unfold wayA; rw [hg]))
          have HL : Hid (startL false ++ (pre ++ [k]).filterMap (goesH xs c) = startL false ++ pre.filterMap (goesH xs c)) := Lib.hid (by
            rw [List.filterMap_append]
            have : [k].filterMap (goesH xs c) = [] := by simp [HGO.out, hg]
            rw [this, List.append_nil])
          clear CON hg
          gi_wp2_with fail
          refine wpIn_region_heldQ lp (fun W => W.cell? ⟨w.heap.size, 0, none⟩ = some (.bool false) ∧ W.cell? ⟨w.heap.size, 1, none⟩ = some (.slice (some ⟨g', off', none⟩) n cap) ∧ W.cell? ⟨w.heap.size, 2, none⟩ = some (.map (some M)) ∧ W.cell? ⟨g', off' + i * 2, none⟩ = some (.int .i64 x.1) ∧ W.cell? ⟨g', off' + i * 2 + 1, none⟩ = some (.int .i64 x.2) ∧ W.cell? ⟨w.heap.size + 1, 0, none⟩ = some (.int .i64 c)) (fun ⟨_, _, h⟩ => h) rfl hfol ⟨e0, e1, e2, k0, k1, cc⟩ (fun hHeld => ?_)
          refine wpAnyH_take (i := 0) (v := ?_) rfl (by kernel_rfl) (by kernel_rfl) (by kernel_rfl) (fun _ _ _ h => h) (Or.inl ⟨by rfl, ?_⟩) hHeld ?_
          rotate_left 1
          · (intro w' hSw; (try dsimp only at hSw); first | (go_simp; done) | (go_simp; with_reducible rfl))
          change wpAnyH _ _ _ _ _ _ _ (Act.put _ (some 22) _) _
          simp only [Act.put, List.setIfInBounds_toArray, List.set_cons_zero, List.set_cons_succ]
          refine wpAnyH_take (i := 1) (v := ?_) rfl (by kernel_rfl) (by kernel_rfl) (by kernel_rfl) (fun _ _ _ h => h) (Or.inl ⟨by rfl, ?_⟩) hHeld ?_
          rotate_left 1
          · (intro w' hSw; (try dsimp only at hSw); first | (go_simp; done) | (go_simp; with_reducible rfl))
          change wpAnyH _ _ _ _ _ _ _ (Act.put _ (some 23) _) _
          simp only [Act.put, List.setIfInBounds_toArray, List.set_cons_zero, List.set_cons_succ]
          refine wpAnyH_take (i := 2) (v := ?_) rfl (by kernel_rfl) (by kernel_rfl) (by kernel_rfl) (fun _ _ _ h => h) (Or.inl ⟨by rfl, ?_⟩) hHeld ?_
          rotate_left 1
          · (intro w' hSw; (try dsimp only at hSw); first | (go_simp; done) | (go_simp; with_reducible rfl))
          change wpAnyH _ _ _ _ _ _ _ (Act.put _ (some 24) _) _
          simp only [Act.put, List.setIfInBounds_toArray, List.set_cons_zero, List.set_cons_succ]
          refine wpAnyH_take (i := 3) (v := ?_) rfl (by kernel_rfl) (by kernel_rfl) (by kernel_rfl) (fun _ _ _ h => h) (Or.inl ⟨by rfl, ?_⟩) hHeld ?_
          rotate_left 1
          · (intro w' hSw; (try dsimp only at hSw); first | (go_simp; done) | (go_simp; with_reducible rfl))
          change wpAnyH _ _ _ _ _ _ _ (Act.put _ (some 25) _) _
          simp only [Act.put, List.setIfInBounds_toArray, List.set_cons_zero, List.set_cons_succ]
          refine wpAnyH_take (i := 4) (v := ?_) rfl (by kernel_rfl) (by kernel_rfl) (by kernel_rfl) (fun _ _ _ h => h) (Or.inl ⟨by rfl, ?_⟩) hHeld ?_
          rotate_left 1
          · (intro w' hSw; (try dsimp only at hSw); first | (go_simp; done) | (go_simp; with_reducible rfl))
          change wpAnyH _ _ _ _ _ _ _ (Act.put _ (some 26) _) _
          simp only [Act.put, List.setIfInBounds_toArray, List.set_cons_zero, List.set_cons_succ]
          refine wpAnyH_take (i := 5) (v := ?_) rfl (by kernel_rfl) (by kernel_rfl) (by kernel_rfl) (fun _ _ _ h => h) (Or.inl ⟨by rfl, ?_⟩) hHeld ?_
          rotate_left 1
          · (intro w' hSw; (try dsimp only at hSw); first | (go_simp; done) | (go_simp; with_reducible rfl))
          change wpAnyH _ _ _ _ _ _ _ (Act.put _ (some 27) _) _
          simp only [Act.put, List.setIfInBounds_toArray, List.set_cons_zero, List.set_cons_succ]
          refine wpAnyH_take (i := 6) (v := ?_) rfl (by kernel_rfl) (by kernel_rfl) (by kernel_rfl) (fun _ _ _ h => h) (Or.inl ⟨by rfl, ?_⟩) hHeld ?_
          rotate_left 1
          · (intro w' hSw; (try dsimp only at hSw); first | (go_simp; done) | (go_simp; with_reducible rfl))
          change wpAnyH _ _ _ _ _ _ _ (Act.put _ (some 28) _) _
          simp only [Act.put, List.setIfInBounds_toArray, List.set_cons_zero, List.set_cons_succ]
          refine wpAnyH_take (i := 7) (v := ?_) rfl (by kernel_rfl) (by kernel_rfl) (by kernel_rfl) (fun _ _ _ h => h) (Or.inl ⟨by rfl, ?_⟩) hHeld ?_
          rotate_left 1
          · (intro w' hSw; (try dsimp only at hSw); first | (go_simp; done) | (go_simp; with_reducible rfl))
          change wpAnyH _ _ _ _ _ _ _ (Act.put _ (some 29) _) _
          simp only [Act.put, List.setIfInBounds_toArray, List.set_cons_zero, List.set_cons_succ]
          refine wpAnyH_take (i := 9) (v := ?_) rfl (by kernel_rfl) (by kernel_rfl) (by kernel_rfl) (fun _ _ _ h => h) (Or.inl ⟨by rfl, ?_⟩) hHeld ?_
          rotate_left 1
          · (intro w' hSw; (try dsimp only at hSw); first | (go_simp; done) | (go_simp; with_reducible rfl))
          change wpAnyH _ _ _ _ _ _ _ (Act.put _ (some 31) _) _
          simp only [Act.put, List.setIfInBounds_toArray, List.set_cons_zero, List.set_cons_succ]
          refine wpAnyH_take (i := 10) (v := ?_) rfl (by kernel_rfl) (by kernel_rfl) (by kernel_rfl) (fun _ _ _ h => h) (Or.inl ⟨by rfl, ?_⟩) hHeld ?_
          rotate_left 1
          · (intro w' hSw; (try dsimp only at hSw); first | (go_simp; done) | (go_simp; with_reducible rfl))
          change wpAnyH _ _ _ _ _ _ _ (Act.put _ (some 32) _) _
          simp only [Act.put, List.setIfInBounds_toArray, List.set_cons_zero, List.set_cons_succ]
          refine wpAnyH_ready (rs := [8]) (by kernel_rfl) (by simp) ?_
          refine AllReadyH.cons rfl (fun K hK => ?_) AllReadyH.nil
          go_simp
          refine HCON.out.mono ?_
          rintro e W7 ⟨B', rfl, HSN, HC7⟩
          go_wp2_with fail
          refine hK.out _ _ HSN.out (fun hHeld => ?_)
          clear hK K
          try simp only [Act.put, List.setIfInBounds_toArray, List.set_cons_zero, List.set_cons_succ]
          refine wpAnyH_ready (rs := [11]) (by kernel_rfl) (by simp) ?_
          refine AllReadyH.cons rfl (fun K hK => ?_) AllReadyH.nil
          go_simp
          refine HC7.out.mono ?_
          rintro e W8 ⟨rfl, HSN, H8⟩
          go_wp2_with fail
          refine hK.out _ _ HSN.out (fun hHeld => ?_)
          clear hK K
          try simp only [Act.put, List.setIfInBounds_toArray, List.set_cons_zero, List.set_cons_succ]
          refine wpAnyH_take (i := 12) (v := ?_) rfl (by kernel_rfl) (by kernel_rfl) (by kernel_rfl) (fun _ _ _ h => h) (Or.inl ⟨by rfl, ?_⟩) hHeld ?_
          rotate_left 1
          · (intro w' hSw; (try dsimp only at hSw); first | (go_simp; done) | (go_simp; with_reducible rfl))
          change wpAnyH _ _ _ _ _ _ _ (Act.put _ (some 21) _) _
          simp only [Act.put, List.setIfInBounds_toArray, List.set_cons_zero, List.set_cons_succ]
          refine wpAnyH_take (i := 13) (v := ?_) rfl (by kernel_rfl) (by kernel_rfl) (by kernel_rfl) (fun _ _ _ h => h) (Or.inl ⟨by rfl, ?_⟩) hHeld ?_
          rotate_left 1
          · (intro w' hSw; (try dsimp only at hSw); first | (go_simp; done) | (go_simp; with_reducible rfl))
          change wpAnyH _ _ _ _ _ _ _ (Act.put _ (some 34) _) _
          simp only [Act.put, List.setIfInBounds_toArray, List.set_cons_zero, List.set_cons_succ]
          refine wpAnyH_take (i := 14) (v := ?_) rfl (by kernel_rfl) (by kernel_rfl) (by kernel_rfl) (fun _ _ _ h => h) (Or.inl ⟨by rfl, ?_⟩) hHeld ?_
          rotate_left 1
          · (intro w' hSw; (try dsimp only at hSw); first | (go_simp; done) | (go_simp; with_reducible rfl))
          change wpAnyH _ _ _ _ _ _ _ (Act.put _ (some 35) _) _
          simp only [Act.put, List.setIfInBounds_toArray, List.set_cons_zero, List.set_cons_succ]
          refine wpAnyH_take (i := 15) (v := ?_) rfl (by kernel_rfl) (by kernel_rfl) (by kernel_rfl) (fun _ _ _ h => h) (Or.inl ⟨by rfl, ?_⟩) hHeld ?_
          rotate_left 1
          · (intro w' hSw; (try dsimp only at hSw); first | (go_simp; done) | (go_simp; with_reducible rfl))
          change wpAnyH _ _ _ _ _ _ _ (Act.put _ (some 9) _) _
          simp only [Act.put, List.setIfInBounds_toArray, List.set_cons_zero, List.set_cons_succ]
          refine wpAnyH_take (i := 16) (v := ?_) rfl (by kernel_rfl) (by kernel_rfl) (by kernel_rfl) (fun _ _ _ h => h) (Or.inl ⟨by rfl, ?_⟩) hHeld ?_
          rotate_left 1
          · (intro w' hSw; (try dsimp only at hSw); first | (go_simp; done) | (go_simp; with_reducible rfl))
          change wpAnyH _ _ _ _ _ _ _ (Act.put _ (some 10) _) _
          simp only [Act.put, List.setIfInBounds_toArray, List.set_cons_zero, List.set_cons_succ]
          refine wpAnyH_done (by kernel_rfl) ?_ _
          gi_wp2
          have h8 := H8.out
          refine ⟨h8.2.1, ?_⟩
          dsimp only
          rw [HL.out, List.length_append]
          exact h8.1
        | some m =>
          have HCON := Lib.hid (CON.out _ (by unfold wayA; rw [hg]))
          have HL : Hid (startL false ++ (pre ++ [k]).filterMap (goesH xs c) = startL false ++ pre.filterMap (goesH xs c) ++ [m]) := Lib.hid (by
            rw [List.filterMap_append]
            have : [k].filterMap (goesH xs c) = [m] := by simp [HGO.out, hg]
            rw [this, List.append_assoc])
          clear CON hg
          gi_wp2_with fail
          refine wpIn_region_heldQ lp (fun W => W.cell? ⟨w.heap.size, 0, none⟩ = some (.bool false) ∧ W.cell? ⟨w.heap.size, 1, none⟩ = some (.slice (some ⟨g', off', none⟩) n cap) ∧ W.cell? ⟨w.heap.size, 2, none⟩ = some (.map (some M)) ∧ W.cell? ⟨g', off' + i * 2, none⟩ = some (.int .i64 x.1) ∧ W.cell? ⟨g', off' + i * 2 + 1, none⟩ = some (.int .i64 x.2) ∧ W.cell? ⟨w.heap.size + 1, 0, none⟩ = some (.int .i64 c)) (fun ⟨_, _, h⟩ => h) rfl hfol ⟨e0, e1, e2, k0, k1, cc⟩ (fun hHeld => ?_)
          refine wpAnyH_take (i := 0) (v := ?_) rfl (by kernel_rfl) (by kernel_rfl) (by kernel_rfl) (fun _ _ _ h => h) (Or.inl ⟨by rfl, ?_⟩) hHeld ?_
          rotate_left 1
          · (intro w' hSw; (try dsimp only at hSw); first | (go_simp; done) | (go_simp; with_reducible rfl))
          change wpAnyH _ _ _ _ _ _ _ (Act.put _ (some 22) _) _
          simp only [Act.put, List.setIfInBounds_toArray, List.set_cons_zero, List.set_cons_succ]
          refine wpAnyH_take (i := 1) (v := ?_) rfl (by kernel_rfl) (by kernel_rfl) (by kernel_rfl) (fun _ _ _ h => h) (Or.inl ⟨by rfl, ?_⟩) hHeld ?_
          rotate_left 1
          · (intro w' hSw; (try dsimp only at hSw); first | (go_simp; done) | (go_simp; with_reducible rfl))
          change wpAnyH _ _ _ _ _ _ _ (Act.put _ (some 23) _) _
          simp only [Act.put, List.setIfInBounds_toArray, List.set_cons_zero, List.set_cons_succ]
          refine wpAnyH_take (i := 2) (v := ?_) rfl (by kernel_rfl) (by kernel_rfl) (by kernel_rfl) (fun _ _ _ h => h) (Or.inl ⟨by rfl, ?_⟩) hHeld ?_
          rotate_left 1
          · (intro w' hSw; (try dsimp only at hSw); first | (go_simp; done) | (go_simp; with_reducible rfl))
          change wpAnyH _ _ _ _ _ _ _ (Act.put _ (some 24) _) _
          simp only [Act.put, List.setIfInBounds_toArray, List.set_cons_zero, List.set_cons_succ]
          refine wpAnyH_take (i := 3) (v := ?_) rfl (by kernel_rfl) (by kernel_rfl) (by kernel_rfl) (fun _ _ _ h => h) (Or.inl ⟨by rfl, ?_⟩) hHeld ?_
          rotate_left 1
          · (intro w' hSw; (try dsimp only at hSw); first | (go_simp; done) | (go_simp; with_reducible rfl))
          change wpAnyH _ _ _ _ _ _ _ (Act.put _ (some 25) _) _
          simp only [Act.put, List.setIfInBounds_toArray, List.set_cons_zero, List.set_cons_succ]
          refine wpAnyH_take (i := 4) (v := ?_) rfl (by kernel_rfl) (by kernel_rfl) (by kernel_rfl) (fun _ _ _ h => h) (Or.inl ⟨by rfl, ?_⟩) hHeld ?_
          rotate_left 1
          · (intro w' hSw; (try dsimp only at hSw); first | (go_simp; done) | (go_simp; with_reducible rfl))
          change wpAnyH _ _ _ _ _ _ _ (Act.put _ (some 26) _) _
          simp only [Act.put, List.setIfInBounds_toArray, List.set_cons_zero, List.set_cons_succ]
          refine wpAnyH_take (i := 5) (v := ?_) rfl (by kernel_rfl) (by kernel_rfl) (by kernel_rfl) (fun _ _ _ h => h) (Or.inl ⟨by rfl, ?_⟩) hHeld ?_
          rotate_left 1
          · (intro w' hSw; (try dsimp only at hSw); first | (go_simp; done) | (go_simp; with_reducible rfl))
          change wpAnyH _ _ _ _ _ _ _ (Act.put _ (some 27) _) _
          simp only [Act.put, List.setIfInBounds_toArray, List.set_cons_zero, List.set_cons_succ]
          refine wpAnyH_take (i := 6) (v := ?_) rfl (by kernel_rfl) (by kernel_rfl) (by kernel_rfl) (fun _ _ _ h => h) (Or.inl ⟨by rfl, ?_⟩) hHeld ?_
          rotate_left 1
          · (intro w' hSw; (try dsimp only at hSw); first | (go_simp; done) | (go_simp; with_reducible rfl))
          change wpAnyH _ _ _ _ _ _ _ (Act.put _ (some 28) _) _
          simp only [Act.put, List.setIfInBounds_toArray, List.set_cons_zero, List.set_cons_succ]
          refine wpAnyH_take (i := 7) (v := ?_) rfl (by kernel_rfl) (by kernel_rfl) (by kernel_rfl) (fun _ _ _ h => h) (Or.inl ⟨by rfl, ?_⟩) hHeld ?_
          rotate_left 1
          · (intro w' hSw; (try dsimp only at hSw); first | (go_simp; done) | (go_simp; with_reducible rfl))
          change wpAnyH _ _ _ _ _ _ _ (Act.put _ (some 29) _) _
          simp only [Act.put, List.setIfInBounds_toArray, List.set_cons_zero, List.set_cons_succ]
          refine wpAnyH_take (i := 9) (v := ?_) rfl (by kernel_rfl) (by kernel_rfl) (by kernel_rfl) (fun _ _ _ h => h) (Or.inl ⟨by rfl, ?_⟩) hHeld ?_
          rotate_left 1
          · (intro w' hSw; (try dsimp only at hSw); first | (go_simp; done) | (go_simp; with_reducible rfl))
          change wpAnyH _ _ _ _ _ _ _ (Act.put _ (some 31) _) _
          simp only [Act.put, List.setIfInBounds_toArray, List.set_cons_zero, List.set_cons_succ]
          refine wpAnyH_take (i := 10) (v := ?_) rfl (by kernel_rfl) (by kernel_rfl) (by kernel_rfl) (fun _ _ _ h => h) (Or.inl ⟨by rfl, ?_⟩) hHeld ?_
          rotate_left 1
          · (intro w' hSw; (try dsimp only at hSw); first | (go_simp; done) | (go_simp; with_reducible rfl))
          change wpAnyH _ _ _ _ _ _ _ (Act.put _ (some 32) _) _
          simp only [Act.put, List.setIfInBounds_toArray, List.set_cons_zero, List.set_cons_succ]
          refine wpAnyH_ready (rs := [8]) (by kernel_rfl) (by simp) ?_
          refine AllReadyH.cons rfl (fun K hK => ?_) AllReadyH.nil
          go_simp
          refine HCON.out.mono ?_
          rintro e W7 ⟨B', rfl, HSN, HC7⟩
          go_wp2_with fail
          refine hK.out _ _ HSN.out (fun hHeld => ?_)
          clear hK K
          try simp only [Act.put, List.setIfInBounds_toArray, List.set_cons_zero, List.set_cons_succ]
          refine wpAnyH_ready (rs := [11]) (by kernel_rfl) (by simp) ?_
          refine AllReadyH.cons rfl (fun K hK => ?_) AllReadyH.nil
          go_simp
          refine HC7.out.mono ?_
          rintro e W8 ⟨rfl, HSN, H8⟩
          go_wp2_with fail
          refine hK.out _ _ HSN.out (fun hHeld => ?_)
          clear hK K
          try simp only [Act.put, List.setIfInBounds_toArray, List.set_cons_zero, List.set_cons_succ]
          refine wpAnyH_take (i := 12) (v := ?_) rfl (by kernel_rfl) (by kernel_rfl) (by kernel_rfl) (fun _ _ _ h => h) (Or.inl ⟨by rfl, ?_⟩) hHeld ?_
          rotate_left 1
          · (intro w' hSw; (try dsimp only at hSw); first | (go_simp; done) | (go_simp; with_reducible rfl))
          change wpAnyH _ _ _ _ _ _ _ (Act.put _ (some 21) _) _
          simp only [Act.put, List.setIfInBounds_toArray, List.set_cons_zero, List.set_cons_succ]
          refine wpAnyH_take (i := 13) (v := ?_) rfl (by kernel_rfl) (by kernel_rfl) (by kernel_rfl) (fun _ _ _ h => h) (Or.inl ⟨by rfl, ?_⟩) hHeld ?_
          rotate_left 1
          · (intro w' hSw; (try dsimp only at hSw); first | (go_simp; done) | (go_simp; with_reducible rfl))
          change wpAnyH _ _ _ _ _ _ _ (Act.put _ (some 34) _) _
          simp only [Act.put, List.setIfInBounds_toArray, List.set_cons_zero, List.set_cons_succ]
          refine wpAnyH_take (i := 14) (v := ?_) rfl (by kernel_rfl) (by kernel_rfl) (by kernel_rfl) (fun _ _ _ h => h) (Or.inl ⟨by rfl, ?_⟩) hHeld ?_
          rotate_left 1
          · (intro w' hSw; (try dsimp only at hSw); first | (go_simp; done) | (go_simp; with_reducible rfl))
          change wpAnyH _ _ _ _ _ _ _ (Act.put _ (some 35) _) _
          simp only [Act.put, List.setIfInBounds_toArray, List.set_cons_zero, List.set_cons_succ]
          refine wpAnyH_take (i := 15) (v := ?_) rfl (by kernel_rfl) (by kernel_rfl) (by kernel_rfl) (fun _ _ _ h => h) (Or.inl ⟨by rfl, ?_⟩) hHeld ?_
          rotate_left 1
          · (intro w' hSw; (try dsimp only at hSw); first | (go_simp; done) | (go_simp; with_reducible rfl))
          change wpAnyH _ _ _ _ _ _ _ (Act.put _ (some 9) _) _
          simp only [Act.put, List.setIfInBounds_toArray, List.set_cons_zero, List.set_cons_succ]
          refine wpAnyH_take (i := 16) (v := ?_) rfl (by kernel_rfl) (by kernel_rfl) (by kernel_rfl) (fun _ _ _ h => h) (Or.inl ⟨by rfl, ?_⟩) hHeld ?_
          rotate_left 1
          · (intro w' hSw; (try dsimp only at hSw); first | (go_simp; done) | (go_simp; with_reducible rfl))
          change wpAnyH _ _ _ _ _ _ _ (Act.put _ (some 10) _) _
          simp only [Act.put, List.setIfInBounds_toArray, List.set_cons_zero, List.set_cons_succ]
          refine wpAnyH_done (by kernel_rfl) ?_ _
          have hl1 : (startL false ++ pre.filterMap (goesH xs c)).length ≤ 1000 := by
            have h1 := List.length_filterMap_le (goesH xs c) pre
            have h2 : (startL false).length ≤ 1 := by unfold startL; split <;> simp
            have h3 := HPL.out
            rw [List.length_append]
            omega
          obtain ⟨o', c', g2, cap2, w6', a1, a2, a3, a4, a5, a6⟩ := H8.out.1.app HZZ.out HMl.out hl1 H8.out.2.2 m
          have HA5 := Lib.hid a5
          have HA6 := Lib.hid a6
          obtain ⟨ll, hll⟩ : ∃ ll, (startL false ++ pre.filterMap (goesH xs c)).length = ll := ⟨_, rfl⟩
          rw [hll] at a1 a2 a3 HA5 HA6
          clear a5 a6 hll hl1
          gi_wp2
          refine ⟨H8.out.2.1.trans HA6.out, ?_⟩
          try dsimp only
          rw [HL.out, List.length_append]
          exact HA5.out
    case done =>
      rintro X D W hD hXD hI hX hK
      rw [HNA.out] at hI
      have hq21 : (classesN (2 * n + 1) s).length ≤ 21 := by have := classesN_le (2 * n + 1) s; have := HXL.out; omega
      obtain ⟨v, n1, n2, n3⟩ := hI.nb
      obtain ⟨lo, lc, rfl⟩ := own_form n2
      obtain ⟨XW, wm, hXW⟩ := hI.wm
      obtain ⟨d0, d1, d2⟩ := rnr_cells hI.rb
      have cn : W.cell? ⟨w.heap.size + 1 + 1, 0, none⟩ = some (.slice lo (nextsH xs false c s).length lc) := n1.cell
      have hbW : Below w0.heap.size w0 W := Moves.below HB0.out HB0.out.size hI.mv (fun k hk => by have := HM0.out; omega)
      have hnums : NumsAt W lo (natsZ (nextsH xs false c s)) := fun hn => by
        obtain ⟨g, ho, hc⟩ := row_placeK n2 (by simpa using hn)
        refine ⟨g, 0, ho, fun j x hx => ?_⟩
        rw [Nat.zero_add]
        rw [List.getElem?_map] at hx
        obtain ⟨y, hy, rfl⟩ := Option.map_eq_some_iff.1 hx
        exact hc j _ (by rw [List.getElem?_map, hy]; rfl)
      have HCL := Lib.hid (closed_any false o lo xs cap lc (some M) (nextsH xs false c s) (by rw [HNN.out]; exact HXL.out) (HNL.out) (HNT.out) W (HA.out.below hbW) hnums)
      rw [HNN.out] at HCL
      have HFIN : Hid (∀ W9, Below W.heap.size W W9 → W9.heap[D]? = some (.deferred (some [])) ∧ P (.returned (.int .i64 ((closedH xs (setOfN (nextsH xs false c s)) : Nat) : Int))) (W9.putObj D (.deferred none))) := Lib.hid fun W9 b9 => by
        have mp : Moves (fun k => k = D) W9 (W9.putObj D (.deferred none)) := Moves.putObj rfl
        have hz := HZZ.out
        have hl := HMl.out
        refine ⟨row_below hK b9, ?_⟩
        rw [← HP.out]
        refine ⟨by rw [HNS.out _ rfl], ?_, XW, ((wm.below b9).moves mp (by omega) (fun k hk e => (hXW k hk).2.1 (by rw [e]; exact hXD))).mono (by omega) (fun _ h => h), fun k hk => ⟨(hXW k hk).1, ?_⟩⟩
        · have h9 := hI.mv.trans (Moves.of_below (S := fun k => k = M) b9)
          exact ⟨mp.os.trans h9.os, mp.tape.trans h9.tape, mp.output.trans h9.output, Nat.le_trans h9.size mp.size, fun k hk hs => (mp.block k (by have := h9.size; omega) (by omega)).trans (h9.block k hk hs)⟩
        · have := (hXW k hk).2.2
          have := b9.size
          have := mp.size
          omega
      obtain ⟨z, hz⟩ : ∃ z, closedH xs (setOfN (nextsH xs false c s)) = z := ⟨_, rfl⟩
      obtain ⟨ll, hll⟩ : ∃ ll, (nextsH xs false c s).length = ll := ⟨_, rfl⟩
      rw [hz] at HCL HFIN
      rw [hll] at HCL cn
      clear hI n1 n2 n3 wm hXW hbW hnums hK hX hz hll
      gi_wp2_with fail
      refine ⟨trivial, (callsIn_wide.2 HCL.out).mono ?_⟩
      rintro e W9 ⟨rfl, b9⟩
      obtain ⟨hK9, hp⟩ := HFIN.out W9 b9
      have HK9 := Lib.hid hK9
      have HPP := Lib.hid hp
      clear b9 hK9 hp
      gi_wp2
      rw [Exit.noGoto_ret]
      refine ⟨by simp, .inl ⟨_, _, rfl, run_takeDeferred HK9.out, ?_⟩⟩
      exact ⟨_, by simp [results, Tryd.f122, go_sem], HPP.out⟩
    case stop =>
      rintro X D x pre W hD hXD hpre ⟨rfl, q, hq21, hI⟩ hX hK
      obtain ⟨v, n1, n2, n3⟩ := hI.nb
      obtain ⟨lo, lc, rfl⟩ := own_form n2
      obtain ⟨XW, wm, hXW⟩ := hI.wm
      obtain ⟨d0, d1, d2⟩ := rnr_cells hI.rb
      have cn : W.cell? ⟨w.heap.size + 1 + 1, 0, none⟩ = some (.slice lo (nextsH xs false c s).length lc) := n1.cell
      have hbW : Below w0.heap.size w0 W := Moves.below HB0.out HB0.out.size hI.mv (fun k hk => by have := HM0.out; omega)
      have hnums : NumsAt W lo (natsZ (nextsH xs false c s)) := fun hn => by
        obtain ⟨g, ho, hc⟩ := row_placeK n2 (by simpa using hn)
        refine ⟨g, 0, ho, fun j x hx => ?_⟩
        rw [Nat.zero_add]
        rw [List.getElem?_map] at hx
        obtain ⟨y, hy, rfl⟩ := Option.map_eq_some_iff.1 hx
        exact hc j _ (by rw [List.getElem?_map, hy]; rfl)
      have HCL := Lib.hid (closed_any false o lo xs cap lc (some M) (nextsH xs false c s) (by rw [HNN.out]; exact HXL.out) (HNL.out) (HNT.out) W (HA.out.below hbW) hnums)
      rw [HNN.out] at HCL
      have HFIN : Hid (∀ W9, Below W.heap.size W W9 → W9.heap[D]? = some (.deferred (some [])) ∧ P (.returned (.int .i64 ((closedH xs (setOfN (nextsH xs false c s)) : Nat) : Int))) (W9.putObj D (.deferred none))) := Lib.hid fun W9 b9 => by
        have mp : Moves (fun k => k = D) W9 (W9.putObj D (.deferred none)) := Moves.putObj rfl
        have hz := HZZ.out
        have hl := HMl.out
        refine ⟨row_below hK b9, ?_⟩
        rw [← HP.out]
        refine ⟨by rw [HNS.out _ rfl], ?_, XW, ((wm.below b9).moves mp (by omega) (fun k hk e => (hXW k hk).2.1 (by rw [e]; exact hXD))).mono (by omega) (fun _ h => h), fun k hk => ⟨(hXW k hk).1, ?_⟩⟩
        · have h9 := hI.mv.trans (Moves.of_below (S := fun k => k = M) b9)
          exact ⟨mp.os.trans h9.os, mp.tape.trans h9.tape, mp.output.trans h9.output, Nat.le_trans h9.size mp.size, fun k hk hs => (mp.block k (by have := h9.size; omega) (by omega)).trans (h9.block k hk hs)⟩
        · have := (hXW k hk).2.2
          have := b9.size
          have := mp.size
          omega
      obtain ⟨z, hz⟩ : ∃ z, closedH xs (setOfN (nextsH xs false c s)) = z := ⟨_, rfl⟩
      obtain ⟨ll, hll⟩ : ∃ ll, (nextsH xs false c s).length = ll := ⟨_, rfl⟩
      rw [hz] at HCL HFIN
      rw [hll] at HCL cn
      clear hI n1 n2 n3 wm hXW hbW hnums hK hX hz hll
      gi_wp2_with fail
      refine ⟨trivial, (callsIn_wide.2 HCL.out).mono ?_⟩
      rintro e W9 ⟨rfl, b9⟩
      obtain ⟨hK9, hp⟩ := HFIN.out W9 b9
      have HK9 := Lib.hid hK9
      have HPP := Lib.hid hp
      clear b9 hK9 hp
      gi_wp2
      rw [Exit.noGoto_ret]
      refine ⟨by simp, .inl ⟨_, _, rfl, run_takeDeferred HK9.out, ?_⟩⟩
      exact ⟨_, by simp [results, Tryd.f122, go_sem], HPP.out⟩
end Go.Proofs.YtaoooocalpkhjaaDoor
