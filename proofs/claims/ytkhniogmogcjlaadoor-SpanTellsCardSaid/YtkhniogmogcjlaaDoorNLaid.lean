/- laid: the closure. -/
import Derived.Test.YtkhniogmogcjlaaDoorNBack
namespace Go.Proofs.YtkhniogmogcjlaaDoor
open Go.RowKit Go.Shelf Go.Maps
attribute [local go_sem] Oper.semAt_some

structure LaidInv (w : World) (r : Int) (X : Nat → Prop) (W : World) (s : Option Int) : Prop where
  kept : Kept w 3 X W
  rb : Boxed W w.heap.size 3 (.int .i64 r)
  vb : Boxed W (w.heap.size + 1) 3 (.int .i64 (s.getD 0))
  fb : Boxed W (w.heap.size + 2) 4 (.bool s.isSome)
theorem LaidInv.moves {w : World} {r : Int} {X X' : Nat → Prop} {A B : World} {s : Option Int} (h : LaidInv w r X A s) (hm : Moves X A B) (hX : ∀ k, X' k → (X k ∨ A.heap.size ≤ k) ∧ k < B.heap.size) : LaidInv w r X' B s :=
  ⟨h.kept.moves hm hX, h.kept.row hm (by omega) h.rb, h.kept.row hm (by omega) h.vb, h.kept.row hm (by omega) h.fb⟩
theorem LaidInv.below {w : World} {r : Int} {X : Nat → Prop} {A B : World} {s : Option Int} (h : LaidInv w r X A s) (hb : Below A.heap.size A B) : LaidInv w r X B s := by
  have hm : Moves (fun _ => False) A B := Moves.of_below hb
  exact ⟨h.kept.turn hm (fun k h => h.elim), row_keep h.rb hm id, row_keep h.vb hm id, row_keep h.fb hm id⟩
/-- What the layers from behind say. -/
def saidFrom (ls : List LayX) (p : Nat) (r : Int) : Option Int := saidL (listsOf (ls.drop (ls.length - p))) r
theorem saidFrom_step {ls : List LayX} {p q : Nat} {x : LayX} {r : Int} (hx : ls[q]? = some x) (hpq : p + (q + 1) = ls.length) : saidFrom ls (p + 1) r = (saidFrom ls p r).or (findL x.2.1 r) := by
  have hlt := (List.getElem?_eq_some_iff.1 hx).1
  unfold saidFrom
  rw [show ls.length - (p + 1) = q from by omega, show ls.length - p = q + 1 from by omega, List.drop_eq_getElem_cons hlt, (List.getElem?_eq_some_iff.1 hx).2]
  rfl
theorem saidFrom_some {ls : List LayX} {p : Nat} {r v : Int} (h : saidFrom ls p r = some v) : saidL (listsOf ls) r = some v := by
  have e : ls = ls.take (ls.length - p) ++ ls.drop (ls.length - p) := (List.take_append_drop _ _).symm
  have e2 : listsOf ls = listsOf (ls.take (ls.length - p)) ++ listsOf (ls.drop (ls.length - p)) := by
    unfold listsOf
    rw [← List.map_append, List.take_append_drop]
  rw [e2, saidL_append]
  unfold saidFrom at h
  rw [h]
  rfl
theorem rev_pre {α : Type} {l : List α} {pre : List (α × Nat)} {x : α} {n : Nat} (h : pre ++ [(x, n)] <+: l.zipIdx.reverse) : pre.length + (n + 1) = l.length ∧ l[n]? = some x := by
  obtain ⟨t, ht⟩ := h
  have h1 : (l.zipIdx.reverse)[pre.length]? = some (x, n) := by rw [← ht]; simp
  have hlt : pre.length < l.length := by have := (List.getElem?_eq_some_iff.1 h1).1; simpa using this
  rw [List.getElem?_reverse (by simpa using hlt), List.length_zipIdx, List.getElem?_zipIdx] at h1
  cases hx : l[l.length - 1 - pre.length]? with
  | none => rw [hx] at h1; cases h1
  | some y =>
    rw [hx] at h1
    simp at h1
    obtain ⟨rfl, rfl⟩ := h1
    exact ⟨by omega, hx⟩
set_option maxRecDepth 100000 in
set_option maxHeartbeats 2000000 in
theorem laid1_any {B g off cap : Nat} {ls : List LayX} (r : Int) (w : World) (hn : ls.length ≤ 1000) (hB : w.heap[B]? = some (.cells #[.slice (some ⟨g, off, none⟩) ls.length cap] 67 (0, 0))) (hL : LaysAt w g off ls) (hg : g < w.heap.size) :
    Calls Tryd.prog 56 #[.int .i64 r, .pointer (some ⟨B, 0, none⟩)] w fun e w' => e = .returned (ansF (saidL (listsOf ls) r)) ∧ Below w.heap.size w w' := by
  refine (callsIn_wide (n := 6)).1 ?_
  have h1 : 1 ≤ 6 := by omega
  refine callsIn_of_wp_marks Tryd.func56 rfl trivial ?_ rfl
  simp only [Tryd.ntmps56, List.size_toArray, List.length_cons, List.length_nil, Nat.reduceAdd, Nat.reduceSub, Array.replicate_succ, Array.replicate_zero, List.push_toArray, List.append_toArray, List.nil_append, List.cons_append]
  obtain ⟨P, hP⟩ : ∃ P, (fun (e : Ending) w' => e = .returned (ansF (saidL (listsOf ls) r)) ∧ Below w.heap.size w w') = P := ⟨_, rfl⟩
  have HP := Lib.hid hP
  rw [hP]
  obtain ⟨k, hkk⟩ : ∃ k, ls.length = k := ⟨_, rfl⟩
  have HK := Lib.hid hkk
  rw [hkk] at hB hn
  have HL := Lib.hid hL
  have cB : w.cell? ⟨B, 0, none⟩ = some (.slice (some ⟨g, off, none⟩) k cap) := by rw [cell_of_row _ _ 0 _ _ _ hB]; rfl
  have hBl : B < w.heap.size := World.block_lt_of_cell? w _ cB
  have hBl1 : B < w.heap.size + 1 := by omega
  have hBl2 : B < w.heap.size + 1 + 1 := by omega
  clear hP hkk hL hB
  gi_wp2_with fail
  refine ⟨trivial, (callsIn_wide.2 (back_any _ k cap _)).mono ?_⟩
  rintro e w2 ⟨rfl, hw2⟩
  simp only [World.size_alloc] at hw2 ⊢
  have BW : Below w.heap.size w w2 := by rw [← hw2]; exact ((((Below.refl _ _).alloc (Nat.le_refl _) _).alloc (by simp) _).alloc (by simp; omega) _).alloc (by simp; omega) _
  have z2 : w2.heap.size = w.heap.size + 4 := by rw [← hw2]; simp
  have R2 : Boxed w2 w.heap.size 3 (.int .i64 r) := by
    rw [← hw2]
    have := Boxed.new w 3 (.int .i64 r)
    exact ((this.alloc _).alloc _).alloc _
  have V2 : Boxed w2 (w.heap.size + 1) 3 (.int .i64 0) := by
    rw [← hw2]
    have := Boxed.new (w.alloc (.cells #[.int .i64 r] 3)) 3 (.int .i64 0)
    rw [World.size_alloc] at this
    exact (this.alloc _).alloc _
  have F2 : Boxed w2 (w.heap.size + 2) 4 (.bool false) := by
    rw [← hw2]
    have := Boxed.new ((w.alloc (.cells #[.int .i64 r] 3)).alloc (.cells #[.int .i64 0] 3)) 4 (.bool false)
    rw [World.size_alloc, World.size_alloc] at this
    exact this.alloc _
  have hb : w2.heap[w.heap.size + 1 + 1 + 1]? = some (.cells #[.slice (some ⟨g, off, none⟩) k cap] 67 (0, 0)) := by
    rw [← hw2]
    have := heap_alloc_new (((w.alloc (.cells #[.int .i64 r] 3)).alloc (.cells #[.int .i64 0] 3)).alloc (.cells #[.bool false] 4)) (.cells #[.slice (some ⟨g, off, none⟩) k cap] 67)
    simpa using this
  have L2 : ∀ (j : Nat) (x : LayX), ls[j]? = some x → w2.cell? ⟨g, off + j, none⟩ = some (.slice x.1 x.2.1.length x.2.2) := fun j x hx => cell_keep BW (HL.out j x hx).1
  clear hw2
  gi_wp2_with fail
  refine wpIn_seqX (n := 6) (Ow := fun _ => False) (Dep := DepL (w.heap.size + 1 + 1 + 1) g) (encs := encL) (all := ls.zipIdx.reverse) (by omega) rfl (enters_of Tryd.func69 (by kernel_rfl) rfl) (fun x => rfl) (seqBack (by rw [HK.out]; omega) (by rw [HK.out]; exact hb) L2)
    (fun k h => h.elim) (fun k h => by rcases h with h | h <;> omega)
    (fun X pre W => LaidInv w r X W none ∧ saidFrom ls pre.length r = none) (fun c X pre W => c = .ret ∧ ∃ v, LaidInv w r X W (some v) ∧ saidL (listsOf ls) r = some v) ?hI ?hIx ?h0
    (fun b x => { tmps := #[.int .i64 r, .pointer (some ⟨B, 0, none⟩), .pointer (some ⟨w.heap.size, 0, none⟩), .pointer (some ⟨w.heap.size + 1, 0, none⟩), .pointer (some ⟨w.heap.size + 1 + 1, 0, none⟩), undef, .pointer (some ⟨b, 0, none⟩), undef, undef, .slice (some ⟨g, off, none⟩) k cap, .func (.func 69) #[] #[.pointer (some ⟨w.heap.size + 1 + 1 + 1, 0, none⟩)], .int .i64 (x.2 : Nat), .agg #[.slice x.1.1 x.1.2.1.length x.1.2.2], undef, undef, undef, undef, undef, undef, undef, undef], defers := [] })
    (fun A x B => A.alloc (layerO x.1.1 x.1.2.1.length x.1.2.2) = B) (fun A x B h => by rw [← h]; exact Moves.of_below ((Below.refl _ _).alloc (Nat.le_refl _) _)) ?assign ?body ?done ?stop
  case hI =>
    rintro X X' xs A B ⟨h, hf⟩ hm hX
    exact ⟨h.moves hm hX, hf⟩
  case hIx =>
    rintro c X X' xs A B ⟨rfl, v, h, hf⟩ hm hX
    exact ⟨rfl, v, h.moves hm hX, hf⟩
  case h0 => exact ⟨⟨⟨fun k h => h.elim, BW, by omega⟩, R2, V2, F2⟩, by unfold saidFrom; rw [show ls.length - ([] : List (LayX × Nat)).length = ls.length from rfl, List.drop_length]; rfl⟩
  case assign =>
    rintro l x A K hK
    gi_wp2
    rfl
  case body =>
    rintro lp X pre ⟨x, q⟩ A A' W1 hA1 hpx hAB hm hXn hXn1 hXlt ⟨hI, hf⟩
    obtain ⟨hpq, hx⟩ := rev_pre hpx
    have hstep := saidFrom_step (r := r) hx hpq
    rw [hf] at hstep
    obtain ⟨_, a0, m0, n0⟩ := HL.out q x hx
    have hxb : W1.heap[A.heap.size]? = some (layerO x.1 x.2.1.length x.2.2) := by
      have := heap_alloc_new A (layerO x.1 x.2.1.length x.2.2)
      rw [hAB] at this
      exact row_keep this hm (by omega)
    have q0 : W1.cell? ⟨A.heap.size, 0, none⟩ = some (.slice x.1 x.2.1.length x.2.2) := by rw [cell_of_row _ _ 0 _ _ _ hxb]; rfl
    have nB : ∀ j, j < w.heap.size + 3 → w.heap.size ≤ j → ¬ X j ∧ ¬ DepL (w.heap.size + 1 + 1 + 1) g j := fun j hj hj2 => ⟨fun h => by have := hI.kept.far j h; omega, fun h => by rcases h with h | h <;> omega⟩
    have cr := hI.rb.cell
    have hsay := says_any x.1 x.2.1 x.2.2 r (by omega) m0 W1 (a0.below hI.kept.below)
    have hXb : ∀ k, X k → k < W1.heap.size := fun k h => by have h1 := hXlt k h; have h2 := hm.size; rw [← hAB] at h2; simp at h2; omega
    have HI := Lib.hid hI
    have HNB := Lib.hid nB
    have HXB := Lib.hid hXb
    have HLE := Lib.hid (show pre.length + 1 = (pre ++ [(x, q)]).length by simp)
    obtain ⟨o, l, lc⟩ := x
    simp only at q0 hsay hstep
    obtain ⟨n, hnn⟩ : ∃ n, l.length = n := ⟨_, rfl⟩
    show Code.wpIn _ _ _ _ _ { tmps := _, defers := _ } _
    simp only
    rw [hnn] at q0 hsay ⊢
    obtain ⟨R, hR⟩ : ∃ R, findL l r = R := ⟨_, rfl⟩
    rw [hR] at hsay hstep
    have HS := Lib.hid hsay
    have HST := Lib.hid hstep
    clear hI hf nB hXb hpx hm hXlt hXn hXn1 hxb hAB hA1 hx hpq hstep hsay hR a0 m0 n0
    gi_wp2_with fail
    refine ⟨trivial, CallsIn.inRound lp ((callsIn_wide.2 HS.out).mono ?_)⟩
    rintro e W2 ⟨rfl, b2⟩
    have hI2 := HI.out.below b2
    have HI2 := Lib.hid hI2
    have HB2 := Lib.hid b2
    have fv : W2.frozen? ⟨w.heap.size + 1, 0, none⟩ = false := hI2.vb.frozen
    have cv : W2.cell? ⟨w.heap.size + 1, 0, none⟩ = some (.int .i64 0) := hI2.vb.cell
    have cf : W2.cell? ⟨w.heap.size + 1 + 1, 0, none⟩ = some (.bool false) := hI2.fb.cell
    have ff : W2.frozen? ⟨w.heap.size + 1 + 1, 0, none⟩ = false := hI2.fb.frozen
    clear hI2 b2 HS q0 cr
    cases R with
    | none =>
      have HR : Hid (seqEndX (DepL (w.heap.size + 1 + 1 + 1) g) X (fun X pre W => LaidInv w r X W none ∧ saidFrom ls pre.length r = none) (fun c X pre W => c = .ret ∧ ∃ v, LaidInv w r X W (some v) ∧ saidL (listsOf ls) r = some v) (pre ++ [((o, l, lc), q)]) W1 .normal ({ tmps := #[], defers := [] } : Act) W2) :=
        Lib.hid ⟨Moves.of_below HB2.out, HI2.out, by rw [← HLE.out]; exact HST.out⟩
      rw [show ansF none = .tuple #[.int .i64 0, .bool false] from rfl]
      gi_wp2
      exact HR.out
    | some v =>
      have hm4 : Moves (fun k => k = w.heap.size + 1 ∨ k = w.heap.size + 2) W2 ((W2.setCell ⟨w.heap.size + 1, 0, none⟩ (.int .i64 v)).setCell ⟨w.heap.size + 1 + 1, 0, none⟩ (.bool true)) := (Moves.setCell (.inl rfl)).trans (Moves.setCell (.inr rfl))
      have HR : Hid (seqEndX (DepL (w.heap.size + 1 + 1 + 1) g) X (fun X pre W => LaidInv w r X W none ∧ saidFrom ls pre.length r = none) (fun c X pre W => c = .ret ∧ ∃ v, LaidInv w r X W (some v) ∧ saidL (listsOf ls) r = some v) (pre ++ [((o, l, lc), q)]) W1 .ret ({ tmps := #[], defers := [] } : Act) ((W2.setCell ⟨w.heap.size + 1, 0, none⟩ (.int .i64 v)).setCell ⟨w.heap.size + 1 + 1, 0, none⟩ (.bool true))) := by
        refine Lib.hid ⟨(Moves.of_below HB2.out).trans (hm4.mono fun k h => HNB.out k (by omega) (by omega)), rfl, v, ⟨HI2.out.kept.turn hm4 (fun k h => by omega), row_keep HI2.out.rb hm4 (by omega), ?_, ?_⟩, saidFrom_some HST.out⟩
        · exact row_keep (HI2.out.vb.set _) (Moves.setCell (S := fun k => k = w.heap.size + 2) rfl) (by omega)
        · exact (show Boxed (W2.setCell ⟨w.heap.size + 1, 0, none⟩ (.int .i64 v)) (w.heap.size + 2) 4 (.bool false) from row_keep HI2.out.fb (Moves.setCell (S := fun k => k = w.heap.size + 1) (w := W2) (a := ⟨w.heap.size + 1, 0, none⟩) (v := .int .i64 v) rfl) (by omega)).set _
      clear hm4
      rw [show ansF (some v) = .tuple #[.int .i64 v, .bool true] from rfl]
      gi_wp2
      exact HR.out
  case done =>
    rintro X D W hD hXD ⟨hI, hf⟩ hX hK
    rw [List.length_reverse, List.length_zipIdx] at hf
    have hsaid : saidL (listsOf ls) r = none := by
      unfold saidFrom at hf
      rwa [show ls.length - ls.length = 0 from by omega, List.drop_zero] at hf
    have hm1 : Moves (fun k => k = w.heap.size + 1 ∨ k = w.heap.size + 2) W ((W.setCell ⟨w.heap.size + 1, 0, none⟩ (.int .i64 0)).setCell ⟨w.heap.size + 1 + 1, 0, none⟩ (.bool false)) := (Moves.setCell (.inl rfl)).trans (Moves.setCell (.inr rfl))
    have hne : ¬ (D = w.heap.size + 1 ∨ D = w.heap.size + 2) := by omega
    obtain ⟨V, hV⟩ : ∃ V, (W.setCell ⟨w.heap.size + 1, 0, none⟩ (.int .i64 0)).setCell ⟨w.heap.size + 1 + 1, 0, none⟩ (.bool false) = V := ⟨_, rfl⟩
    have v1 : Boxed V (w.heap.size + 1) 3 (.int .i64 0) := by
      rw [← hV]
      exact row_keep (hI.vb.set _) (Moves.setCell (S := fun k => k = w.heap.size + 2) rfl) (by omega)
    have v2 : Boxed V (w.heap.size + 2) 4 (.bool false) := by
      rw [← hV]
      exact (show Boxed (W.setCell ⟨w.heap.size + 1, 0, none⟩ (.int .i64 0)) (w.heap.size + 2) 4 (.bool false) from row_keep hI.fb (Moves.setCell (S := fun k => k = w.heap.size + 1) (w := W) (a := ⟨w.heap.size + 1, 0, none⟩) (v := .int .i64 0) rfl) (by omega)).set _
    rw [hV] at hm1
    have hK2 : V.heap[D]? = some (.deferred (some [])) := row_keep hK hm1 hne
    have hm2 : Moves (fun k => k = D) V (V.putObj D (.deferred none)) := Moves.putObj rfl
    have y1 : (V.putObj D (.deferred none)).cell? ⟨w.heap.size + 1, 0, none⟩ = some (.int .i64 0) := (show Boxed _ _ 3 _ from row_keep v1 hm2 (by omega)).cell
    have y2 : (V.putObj D (.deferred none)).cell? ⟨w.heap.size + 1 + 1, 0, none⟩ = some (.bool false) := (show Boxed _ _ 4 _ from row_keep v2 hm2 (by omega)).cell
    have hpost : P (.returned (.tuple #[.int .i64 0, .bool false])) (V.putObj D (.deferred none)) := by
      rw [← HP.out]
      refine ⟨by rw [hsaid]; rfl, Moves.below hI.kept.below hI.kept.below.size ((hm1.mono (T := fun k => w.heap.size ≤ k) (fun k h => by omega)).trans (hm2.mono (fun k h => by omega))) (fun k h => h)⟩
    have HPP := Lib.hid hpost
    have HV := Lib.hid hV
    have cv : W.cell? ⟨w.heap.size + 1, 0, none⟩ = some (.int .i64 0) := hI.vb.cell
    have cf : W.cell? ⟨w.heap.size + 1 + 1, 0, none⟩ = some (.bool false) := hI.fb.cell
    have fv : W.frozen? ⟨w.heap.size + 1, 0, none⟩ = false := hI.vb.frozen
    have ff : W.frozen? ⟨w.heap.size + 1 + 1, 0, none⟩ = false := hI.fb.frozen
    clear hpost hI hm1 hm2 v1 v2 hf hsaid hV
    gi_wp2
    rw [HV.out]
    refine ⟨by simp, .inl ⟨_, _, rfl, run_takeDeferred hK2, ?_⟩⟩
    exact ⟨_, results_cells2 rfl _ _ _ _ _ _ rfl rfl (run_loadVar_cell Tryd.underlying3 rfl y1) (run_loadVar_cell Tryd.underlying4 rfl y2), HPP.out⟩
  case stop =>
    rintro X D c pre W hD hXD hpre ⟨rfl, v, hI, hf⟩ hX hK
    have hm2 : Moves (fun k => k = D) W (W.putObj D (.deferred none)) := Moves.putObj rfl
    have y1 : (W.putObj D (.deferred none)).cell? ⟨w.heap.size + 1, 0, none⟩ = some (.int .i64 v) := (show Boxed _ _ 3 _ from row_keep hI.vb hm2 (by omega)).cell
    have y2 : (W.putObj D (.deferred none)).cell? ⟨w.heap.size + 1 + 1, 0, none⟩ = some (.bool true) := (show Boxed _ _ 4 _ from row_keep hI.fb hm2 (by omega)).cell
    have hpost : P (.returned (.tuple #[.int .i64 v, .bool true])) (W.putObj D (.deferred none)) := by
      rw [← HP.out]
      exact ⟨by rw [hf]; rfl, Moves.below hI.kept.below hI.kept.below.size hm2 (fun k h => by omega)⟩
    have HPP := Lib.hid hpost
    clear hpost hI hm2
    gi_wp2
    refine ⟨by simp, .inl ⟨_, _, rfl, run_takeDeferred hK, ?_⟩⟩
    exact ⟨_, results_cells2 rfl _ _ _ _ _ _ rfl rfl (run_loadVar_cell Tryd.underlying3 rfl y1) (run_loadVar_cell Tryd.underlying4 rfl y2), HPP.out⟩
end Go.Proofs.YtkhniogmogcjlaaDoor
