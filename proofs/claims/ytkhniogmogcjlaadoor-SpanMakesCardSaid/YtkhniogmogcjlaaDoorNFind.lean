/- find: what the first range says that has a number. -/
import Derived.Test.YtkhniogmogcjlaaDoorNBase
namespace Go.Proofs.YtkhniogmogcjlaaDoor
open Go.RowKit Go.Shelf
attribute [local go_sem] Oper.semAt_some

abbrev chartV (o : Option Addr) (n cap : Nat) : Value := .agg #[.slice o n cap]
abbrev chartO (o : Option Addr) (n cap : Nat) : Obj := .cells #[.slice o n cap] 42 (0, 0)
theorem ranges_any (o : Option Addr) (n cap : Nat) (w : World) : Calls Tryd.prog 38 #[chartV o n cap] w fun e w' => e = .returned (.func (.func 48) #[] #[.pointer (some ⟨w.heap.size, 0, none⟩)]) ∧ w.alloc (chartO o n cap) = w' := by
  go_enter Tryd.func38, Tryd.ntmps38
  go_wp2
  go_ret
  exact ⟨rfl, rfl⟩
theorem chartOf_any (o : Option Addr) (n cap : Nat) (hn : n ≤ cap) (w : World) : Calls Tryd.prog 26 #[.slice o n cap] w fun e w' => e = .returned (chartV o n n) ∧ Below w.heap.size w w' := by
  go_enter Tryd.func26, Tryd.ntmps26
  go_wp2
  refine bodyPost_ret (v := chartV o n n) ?_ rfl ⟨rfl, (Below.refl _ _).alloc (Nat.le_refl _) _⟩
  exact results_cell_row rfl _ _ w.heap.size 42 #[.slice o n n] (0, 0) _ rfl (heap_alloc_new _ _) Tryd.underlying42 rfl (by kernel_rfl)

def ansF (s : Option Int) : Value := match s with
  | some v => .tuple #[.int .i64 v, .bool true]
  | none => .tuple #[.int .i64 0, .bool false]
theorem findL_pre {l : List Rng} {j : Nat} {x : Rng} {r : Int} (hx : l[j]? = some x) (h : findL (l.take j) r = none) (hr : x.1 ≤ r ∧ r ≤ x.2.1) : findL l r = some x.2.2 := by
  have h1 : l = l.take j ++ l.drop j := (List.take_append_drop j l).symm
  have hlt := (List.getElem?_eq_some_iff.1 hx).1
  rw [h1, findL_append, h, List.drop_eq_getElem_cons hlt, (List.getElem?_eq_some_iff.1 hx).2]
  show findL (x :: _) r = _
  unfold findL
  rw [if_pos hr]
theorem findL_snoc {l : List Rng} {j : Nat} {x : Rng} {r : Int} (hx : l[j]? = some x) (h : findL (l.take j) r = none) (hr : ¬ (x.1 ≤ r ∧ r ≤ x.2.1)) : findL (l.take (j + 1)) r = none := by
  rw [List.take_add_one, hx, findL_append, h]
  show findL [x] r = none
  unfold findL
  rw [if_neg hr]
  rfl
/-- What holds between two rounds. -/
structure FindInv (w : World) (l : List Rng) (r : Int) (X : Nat → Prop) (W : World) (s : Option Int) : Prop where
  far : ∀ k, X k → w.heap.size + 4 ≤ k
  below : Below w.heap.size w W
  size : w.heap.size + 4 ≤ W.heap.size
  rb : Boxed W (w.heap.size + 1) 3 (.int .i64 r)
  vb : Boxed W (w.heap.size + 2) 3 (.int .i64 (s.getD 0))
  fb : Boxed W (w.heap.size + 3) 4 (.bool s.isSome)
theorem FindInv.moves {w : World} {l : List Rng} {r : Int} {X X' : Nat → Prop} {A B : World} {s : Option Int} (h : FindInv w l r X A s) (hm : Moves X A B) (hX : ∀ k, X' k → (X k ∨ A.heap.size ≤ k) ∧ k < B.heap.size) : FindInv w l r X' B s := by
  have hf := h.far
  have hz := h.size
  have nx : ∀ j, j < w.heap.size + 4 → ¬ X j := fun j hj hx => by have := hf j hx; omega
  refine ⟨?_, Moves.below h.below h.below.size hm (fun k hk => by have := hf k hk; omega), by have := hm.size; omega, row_keep h.rb hm (nx _ (by omega)), row_keep h.vb hm (nx _ (by omega)), row_keep h.fb hm (nx _ (by omega))⟩
  intro k hk
  rcases (hX k hk).1 with h1 | h1
  · exact hf k h1
  · omega
set_option maxRecDepth 100000 in
set_option maxHeartbeats 2000000 in
theorem find_any (o : Option Addr) (l : List Rng) (cap : Nat) (r : Int) (hn : l.length ≤ 1000000) (w : World) (hA : AtR w o l) :
    Calls Tryd.prog 27 #[chartV o l.length cap, .int .i64 r] w fun e w' => e = .returned (ansF (findL l r)) ∧ Below w.heap.size w w' := by
  refine (callsIn_wide (n := 6)).1 ?_
  have h1 : 1 ≤ 6 := by omega
  refine callsIn_of_wp_marks Tryd.func27 rfl trivial ?_ rfl
  simp only [Tryd.ntmps27, List.size_toArray, List.length_cons, List.length_nil, Nat.reduceAdd, Nat.reduceSub, Array.replicate_succ, Array.replicate_zero, List.push_toArray, List.append_toArray, List.nil_append, List.cons_append]
  obtain ⟨P, hP⟩ : ∃ P, (fun (e : Ending) w' => e = .returned (ansF (findL l r)) ∧ Below w.heap.size w w') = P := ⟨_, rfl⟩
  have HP := Lib.hid hP
  rw [hP]
  clear hP
  obtain ⟨n, hnn⟩ : ∃ n, l.length = n := ⟨_, rfl⟩
  have HN := Lib.hid hnn
  rw [hnn] at hn ⊢
  have HA := Lib.hid hA
  clear hA hnn
  gi_wp2_with fail
  refine wpIn_wide.2 (wp_scope_straight ((wpIn_wide (n := 6)).1 ?_))
  gi_wp2_with fail
  refine wpIn_label ?_
  gi_wp2_with fail
  refine ⟨trivial, (callsIn_wide.2 (ranges_any o n cap _)).mono ?_⟩
  rintro e w2 ⟨rfl, hw2⟩
  simp only [World.size_alloc] at hw2 ⊢
  have BW : Below w.heap.size w w2 := by rw [← hw2]; exact (((((Below.refl _ _).alloc (Nat.le_refl _) _).alloc (by simp) _).alloc (by simp; omega) _).alloc (by simp; omega) _).alloc (by simp; omega) _
  have z2 : w2.heap.size = w.heap.size + 5 := by rw [← hw2]; simp
  obtain ⟨B0, hB0⟩ : ∃ B, w.alloc (chartO o n cap) = B := ⟨_, rfl⟩
  have R2 : Boxed w2 (w.heap.size + 1) 3 (.int .i64 r) := by
    rw [← hw2]
    have := Boxed.new (w.alloc (chartO o n cap)) 3 (.int .i64 r)
    rw [World.size_alloc] at this
    exact ((this.alloc _).alloc _).alloc _
  have V2 : Boxed w2 (w.heap.size + 2) 3 (.int .i64 0) := by
    rw [← hw2]
    have := Boxed.new ((w.alloc (chartO o n cap)).alloc (.cells #[.int .i64 r] 3)) 3 (.int .i64 0)
    rw [World.size_alloc, World.size_alloc] at this
    exact (this.alloc _).alloc _
  have F2 : Boxed w2 (w.heap.size + 3) 4 (.bool false) := by
    rw [← hw2]
    have := Boxed.new (((w.alloc (chartO o n cap)).alloc (.cells #[.int .i64 r] 3)).alloc (.cells #[.int .i64 0] 3)) 4 (.bool false)
    rw [World.size_alloc, World.size_alloc, World.size_alloc] at this
    exact this.alloc _
  have hb : w2.heap[w.heap.size + 1 + 1 + 1 + 1]? = some (chartO o n cap) := by
    rw [← hw2]
    have := heap_alloc_new ((((w.alloc (chartO o n cap)).alloc (.cells #[.int .i64 r] 3)).alloc (.cells #[.int .i64 0] 3)).alloc (.cells #[.bool false] 4)) (chartO o n cap)
    simpa using this
  have A2 := HA.out.below BW
  have hlt : ∀ k, 0 < l.length → inB o k → k < w.heap.size := fun k h0 hk => HA.out.lt h0 hk
  clear hw2
  gi_wp2_with fail
  refine wpIn_seqX (n := 6) (Ow := fun _ => False) (Dep := DepR (w.heap.size + 1 + 1 + 1 + 1) o l) (encs := encR) (all := l.zipIdx) (by omega) rfl (enters_of Tryd.func48 (by kernel_rfl) rfl) (fun x => rfl) (seqRanges (by rw [HN.out]; exact hn) (by rw [HN.out]; exact hb) A2)
    (fun k h => h.elim) (fun k h => by rcases h with h | ⟨h0, h⟩; { omega }; { have := hlt k h0 h; omega })
    (fun X pre W => FindInv w l r X W none ∧ findL (l.take pre.length) r = none) (fun c X pre W => c = .exit 0 ∧ ∃ v, FindInv w l r X W (some v) ∧ findL l r = some v) ?hI ?hIx ?h0
    (fun b x => { tmps := #[chartV o n cap, .int .i64 r, .pointer (some ⟨w.heap.size, 0, none⟩), .pointer (some ⟨w.heap.size + 1, 0, none⟩), .int .i64 0, .bool false, .pointer (some ⟨w.heap.size + 1 + 1, 0, none⟩), .pointer (some ⟨w.heap.size + 1 + 1 + 1, 0, none⟩), undef, .pointer (some ⟨b, 0, none⟩), chartV o n cap, .func (.func 48) #[] #[.pointer (some ⟨w.heap.size + 1 + 1 + 1 + 1, 0, none⟩)], .int .i64 (x.2 : Nat), rngV x.1, undef, undef, undef, undef, undef, undef, undef, undef, undef, undef, undef, undef, undef, undef], defers := [] })
    (fun A x B => A.alloc (rngO x.1) = B) (fun A x B h => by rw [← h]; exact Moves.of_below ((Below.refl _ _).alloc (Nat.le_refl _) _)) ?assign ?body ?done ?stop
  case hI =>
    rintro X X' xs A B ⟨h, hf⟩ hm hX
    exact ⟨h.moves hm hX, hf⟩
  case hIx =>
    rintro c X X' xs A B ⟨rfl, v, h, hf⟩ hm hX
    exact ⟨rfl, v, h.moves hm hX, hf⟩
  case h0 => exact ⟨⟨fun k h => h.elim, BW, by omega, R2, V2, F2⟩, rfl⟩
  case assign =>
    rintro l x A K hK
    gi_wp2
    rfl
  case body =>
    rintro lp X pre ⟨x, j⟩ A A' W1 hA1 hpx hAB hm hXn hXn1 hXlt ⟨hI, hf⟩
    obtain ⟨hj, hx, -⟩ := zip_pre hpx
    subst hj
    have hxb : W1.heap[A.heap.size]? = some (rngO x) := by
      have := heap_alloc_new A (rngO x)
      rw [hAB] at this
      have hne : A.heap.size ≠ w.heap.size + 4 + 1 + 1 := by omega
      exact row_keep this hm (by omega)
    obtain ⟨q0, q1, q2, _⟩ := rng_cells hxb
    have cr := hI.rb.cell
    have cv := hI.vb.cell
    have cf := hI.fb.cell
    have fv : W1.frozen? ⟨w.heap.size + 1 + 1, 0, none⟩ = false := hI.vb.frozen
    have ff : W1.frozen? ⟨w.heap.size + 1 + 1 + 1, 0, none⟩ = false := hI.fb.frozen
    have nB : ∀ k, k < w.heap.size + 4 → w.heap.size ≤ k → ¬ X k ∧ ¬ DepR (w.heap.size + 1 + 1 + 1 + 1) o l k := fun k hk hk2 => ⟨fun h => by have := hI.far k h; omega, fun h => by rcases h with h | ⟨h0, h⟩; { omega }; { have := hlt k h0 h; omega }⟩
    have hz := hI.size
    have HI := Lib.hid hI
    have HX := Lib.hid hx
    have HF := Lib.hid hf
    have HNB := Lib.hid nB
    obtain ⟨a, b, v⟩ := x
    simp only at q0 q1 q2
    clear hI hx hf nB hpx hm hXlt hXn hXn1 hxb hAB hA1
    by_cases hin : a ≤ r ∧ r ≤ b
    · obtain ⟨i1, i2⟩ := hin
      have hans := findL_pre HX.out HF.out ⟨i1, i2⟩
      have hm4 : Moves (fun k => k = w.heap.size + 2 ∨ k = w.heap.size + 3) W1 ((W1.setCell ⟨w.heap.size + 1 + 1, 0, none⟩ (.int .i64 v)).setCell ⟨w.heap.size + 1 + 1 + 1, 0, none⟩ (.bool true)) := (Moves.setCell (.inl rfl)).trans (Moves.setCell (.inr rfl))
      have HR : Hid (seqEndX (DepR (w.heap.size + 1 + 1 + 1 + 1) o l) X (fun X pre W => FindInv w l r X W none ∧ findL (l.take pre.length) r = none) (fun c X pre W => c = .exit 0 ∧ ∃ v, FindInv w l r X W (some v) ∧ findL l r = some v) (pre ++ [((a, b, v), pre.length)]) W1 (.exit 0) ({ tmps := #[], defers := [] } : Act) ((W1.setCell ⟨w.heap.size + 1 + 1, 0, none⟩ (.int .i64 v)).setCell ⟨w.heap.size + 1 + 1 + 1, 0, none⟩ (.bool true))) := by
        refine Lib.hid ⟨hm4.mono fun k h => HNB.out k (by omega) (by omega), rfl, v, ⟨HI.out.far, Moves.below HI.out.below HI.out.below.size hm4 (fun k h => by omega), by have := hm4.size; have := HI.out.size; omega, row_keep HI.out.rb hm4 (by omega), ?_, ?_⟩, hans⟩
        · exact row_keep (HI.out.vb.set _) (Moves.setCell (S := fun k => k = w.heap.size + 3) rfl) (by omega)
        · exact (show Boxed (W1.setCell ⟨w.heap.size + 2, 0, none⟩ (.int .i64 v)) (w.heap.size + 3) 4 (.bool false) from row_keep HI.out.fb (Moves.setCell (S := fun k => k = w.heap.size + 2) (w := W1) (a := ⟨w.heap.size + 2, 0, none⟩) (v := .int .i64 v) rfl) (by omega)).set _
      clear hm4 hans
      gi_wp2
      exact HR.out
    · have hans := findL_snoc HX.out HF.out hin
      have HR : Hid (seqEndX (DepR (w.heap.size + 1 + 1 + 1 + 1) o l) X (fun X pre W => FindInv w l r X W none ∧ findL (l.take pre.length) r = none) (fun c X pre W => c = .exit 0 ∧ ∃ v, FindInv w l r X W (some v) ∧ findL l r = some v) (pre ++ [((a, b, v), pre.length)]) W1 .normal ({ tmps := #[], defers := [] } : Act) W1) :=
        Lib.hid ⟨Moves.refl _ _, HI.out, by rw [List.length_append]; exact hans⟩
      clear hans
      by_cases i1 : a ≤ r
      · have i2 : ¬ r ≤ b := fun h => hin ⟨i1, h⟩
        clear hin
        gi_wp2
        exact HR.out
      · clear hin
        gi_wp2
        exact HR.out
  case done =>
    have hfol : Tryd.prog.follows .mixedOrders = true := by kernel_rfl
    rintro X D W hD hXD ⟨hI, hf⟩ hX hK
    have hm : Moves (fun k => k = D) W (W.drew.putObj D (.deferred none)) := (Moves.refl _ _).drew.trans (Moves.putObj rfl)
    have hpost : P (.returned (.tuple #[.int .i64 0, .bool false])) (W.drew.putObj D (.deferred none)) := by
      rw [← HP.out]
      refine ⟨?_, Moves.below hI.below hI.below.size hm (fun k e => by omega)⟩
      rw [List.length_zipIdx, List.take_length] at hf
      rw [hf]
      rfl
    have HPP := Lib.hid hpost
    have hcv : W.cell? ⟨w.heap.size + 1 + 1, 0, none⟩ = some (.int .i64 0) := hI.vb.cell
    have hcf : W.cell? ⟨w.heap.size + 1 + 1 + 1, 0, none⟩ = some (.bool false) := hI.fb.cell
    have hK' : W.drew.heap[D]? = some (.deferred (some [])) := hK
    clear hI hpost hm hX
    gi_wp2
    gi_region
    all_goals
      gi_wp2
      rw [Exit.noGoto_ret]
      refine ⟨by simp, .inl ⟨_, _, rfl, run_takeDeferred hK', ?_⟩⟩
      exact ⟨_, results_tmp2 (t := 4) (u := 5) rfl _ _ _, HPP.out⟩
  case stop =>
    have hfol : Tryd.prog.follows .mixedOrders = true := by kernel_rfl
    rintro X D c pre W hD hXD hpre ⟨rfl, v, hI, hf⟩ hX hK
    have hm : Moves (fun k => k = D) W (W.drew.putObj D (.deferred none)) := (Moves.refl _ _).drew.trans (Moves.putObj rfl)
    have hpost : P (.returned (.tuple #[.int .i64 v, .bool true])) (W.drew.putObj D (.deferred none)) := by
      rw [← HP.out]
      refine ⟨?_, Moves.below hI.below hI.below.size hm (fun k e => by omega)⟩
      rw [hf]
      rfl
    have HPP := Lib.hid hpost
    have hcv : W.cell? ⟨w.heap.size + 1 + 1, 0, none⟩ = some (.int .i64 v) := hI.vb.cell
    have hcf : W.cell? ⟨w.heap.size + 1 + 1 + 1, 0, none⟩ = some (.bool true) := hI.fb.cell
    have hK' : W.drew.heap[D]? = some (.deferred (some [])) := hK
    clear hI hpost hm hX
    gi_wp2
    gi_region
    all_goals
      gi_wp2
      rw [Exit.noGoto_ret]
      refine ⟨by simp, .inl ⟨_, _, rfl, run_takeDeferred hK', ?_⟩⟩
      exact ⟨_, results_tmp2 (t := 4) (u := 5) rfl _ _ _, HPP.out⟩
end Go.Proofs.YtkhniogmogcjlaaDoor
