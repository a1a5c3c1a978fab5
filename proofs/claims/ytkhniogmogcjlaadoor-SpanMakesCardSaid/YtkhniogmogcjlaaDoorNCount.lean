/- count: of how many numbers a map says something. -/
import Derived.Test.YtkhniogmogcjlaaDoorNMap
namespace Go.Proofs.YtkhniogmogcjlaaDoor
open Go.RowKit Go.Shelf Go.Maps
attribute [local go_sem] Oper.semAt_some

def sumL (l : List Rng) : Int := l.foldl (fun n x => n + (x.2.1 - x.1 + 1)) 0
theorem sumL_snoc (l : List Rng) (x : Rng) : sumL (l ++ [x]) = sumL l + (x.2.1 - x.1 + 1) := by unfold sumL; rw [List.foldl_append]; rfl
theorem sum_take {l : List Rng} {j : Nat} {x : Rng} (hx : l[j]? = some x) : sumL (l.take (j + 1)) = sumL (l.take j) + (x.2.1 - x.1 + 1) := by
  rw [List.take_add_one, hx]; exact sumL_snoc _ _
theorem sum_bounds {l : List Rng} (h : ∀ x ∈ l, okR x) : ∀ j, 0 ≤ sumL (l.take j) ∧ sumL (l.take j) ≤ 1114112 * j := by
  intro j
  induction j with
  | zero => simp [sumL]
  | succ j ih =>
    cases hx : l[j]? with
    | none => rw [List.take_add_one, hx]; simp; omega
    | some x =>
      rw [sum_take hx]
      have := h x (List.mem_of_getElem? hx)
      unfold okR at this
      omega
def countL (l : List Rng) : Int := if rightL l then sumL l else 0
structure CntInv (w8 : World) (nb : Nat) (X : Nat → Prop) (W : World) (n : Int) : Prop where
  far : ∀ k, X k → w8.heap.size ≤ k
  kept : Moves (fun k => k = nb) w8 W
  box : Boxed W nb 3 (.int .i64 n)
theorem CntInv.moves {w8 : World} {nb : Nat} {X X' : Nat → Prop} {n : Int} {A B : World} (h : CntInv w8 nb X A n) (hnb : nb < w8.heap.size) (hm : Moves X A B) (hX : ∀ k, X' k → (X k ∨ A.heap.size ≤ k) ∧ k < B.heap.size) : CntInv w8 nb X' B n := by
  have hz := h.kept.size
  refine ⟨fun k hk => ?_, ⟨hm.os.trans h.kept.os, hm.tape.trans h.kept.tape, hm.output.trans h.kept.output, Nat.le_trans hz hm.size, fun k hk hs => (hm.block k (Nat.lt_of_lt_of_le hk hz) (fun hx => by have := h.far k hx; omega)).trans (h.kept.block k hk hs)⟩, row_keep h.box hm (fun hx => by have := h.far nb hx; omega)⟩
  rcases (hX k hk).1 with h1 | h1
  · exact h.far k h1
  · omega
set_option maxRecDepth 100000 in
set_option maxHeartbeats 2000000 in
theorem count_any (o : Option Addr) (l : List Rng) (cap : Nat) (hn : l.length ≤ 1000000) (w : World) (hA : AtR w o l) :
    Calls Tryd.prog 30 #[chartV o l.length cap] w fun e w' => e = .returned (.int .i64 (countL l)) ∧ Below w.heap.size w w' := by
  refine (callsIn_wide (n := 6)).1 ?_
  have h1 : 1 ≤ 6 := by omega
  refine callsIn_of_wp_marks Tryd.func30 rfl trivial ?_ rfl
  simp only [Tryd.ntmps30, List.size_toArray, List.length_cons, List.length_nil, Nat.reduceAdd, Nat.reduceSub, Array.replicate_succ, Array.replicate_zero, List.push_toArray, List.append_toArray, List.nil_append, List.cons_append]
  obtain ⟨P, hP⟩ : ∃ P, (fun (e : Ending) w' => e = .returned (.int .i64 (countL l)) ∧ Below w.heap.size w w') = P := ⟨_, rfl⟩
  have HP := Lib.hid hP
  rw [hP]
  obtain ⟨w1, hw1⟩ : ∃ w1, (w.alloc (chartO o l.length cap)).alloc (.cells #[.int .i64 0] 3) = w1 := ⟨_, rfl⟩
  have B1 : Below w.heap.size w w1 := by rw [← hw1]; exact ((Below.refl _ _).alloc (Nat.le_refl _) _).alloc (by simp) _
  have z1 : w1.heap.size = w.heap.size + 2 := by rw [← hw1]; simp
  have r1 : w1.heap[w.heap.size]? = some (chartO o l.length cap) := by rw [← hw1, Below.heap_alloc _ _ _ (by simp)]; exact heap_alloc_new _ _
  have E1 : Boxed w1 (w.heap.size + 1) 3 (.int .i64 0) := by
    rw [← hw1]
    have := Boxed.new (w.alloc (chartO o l.length cap)) 3 (.int .i64 0)
    rwa [World.size_alloc] at this
  have him := isMap_any o l cap hn w1 (hA.below B1)
  obtain ⟨n, hnn⟩ : ∃ n, l.length = n := ⟨_, rfl⟩
  have HN := Lib.hid hnn
  rw [hnn] at him r1 hw1 hn ⊢
  have HA := Lib.hid hA
  have HW1 := Lib.hid hw1
  have HB1 := Lib.hid B1
  have HR1 := Lib.hid r1
  have HE1 := Lib.hid E1
  have HIM := Lib.hid him
  have c1 : w1.cell? ⟨w.heap.size, 0, none⟩ = some (.slice o n cap) := by rw [cell_of_row _ _ 0 _ _ _ r1]; rfl
  clear hP hA hw1 B1 r1 E1 him hnn
  gi_wp2_with fail
  rw [HW1.out]
  refine ⟨trivial, (callsIn_wide.2 HIM.out).mono ?_⟩
  rintro e w2 ⟨rfl, b2⟩
  have c2 : w2.cell? ⟨w.heap.size, 0, none⟩ = some (.slice o n cap) := cell_keep b2 c1
  have HR2 := Lib.hid (row_below HR1.out b2)
  have HE2 : Hid (Boxed w2 (w.heap.size + 1) 3 (.int .i64 0)) := Lib.hid (row_below HE1.out b2)
  have HB2 := Lib.hid (HB1.out.trans (b2.mono (by omega)))
  have z2 := b2.size
  clear b2 HIM HE1 HR1 HB1 HW1 c1
  by_cases hr : rightL l
  · have HC : Hid (countL l = sumL l) := Lib.hid (by unfold countL; rw [if_pos hr])
    have HRT := Lib.hid hr
    rw [decide_eq_true hr]
    have HNB : Hid (∀ k, 0 < l.length → inB o k → k < w.heap.size) := Lib.hid fun k h0 hk => HA.out.lt h0 hk
    clear hr
    gi_wp2_with fail
    refine ⟨trivial, (callsIn_wide.2 (ranges_any o n cap _)).mono ?_⟩
    rintro e w8 ⟨rfl, hw8⟩
    have b28 : Below w2.heap.size w2 w8 := by rw [← hw8]; exact (Below.refl _ _).alloc (Nat.le_refl _) _
    have z8 : w8.heap.size = w2.heap.size + 1 := by rw [← hw8]; simp
    have hb : w8.heap[w2.heap.size]? = some (chartO o n cap) := by rw [← hw8]; exact heap_alloc_new _ _
    have HB8 := Lib.hid (HB2.out.trans (b28.mono (by have := HB2.out.size; omega)))
    have A8 := HA.out.below HB8.out
    have H0 : Hid (CntInv w8 (w.heap.size + 1) (fun _ => False) w8 0) := Lib.hid ⟨fun k h => h.elim, Moves.refl _ _, row_below HE2.out b28⟩
    clear hw8 b28 HE2 HR2
    gi_wp2_with fail
    refine wpIn_seqX (n := 6) (Ow := fun _ => False) (Dep := DepR w2.heap.size o l) (encs := encR) (all := l.zipIdx) (by omega) rfl (enters_of Tryd.func48 (by kernel_rfl) rfl) (fun x => rfl) (seqRanges (by rw [HN.out]; omega) (by rw [HN.out]; exact hb) A8)
      (fun k h => h.elim) (fun k h => by rcases h with h | ⟨h0, h⟩; { omega }; { have := HNB.out k h0 h; omega })
      (fun X pre W => CntInv w8 (w.heap.size + 1) X W (sumL (l.take pre.length)))
      (fun c X pre W => False) ?hI ?hIx ?h0
      (fun b x => { tmps := #[chartV o n cap, .pointer (some ⟨w.heap.size, 0, none⟩), .int .i64 0, .pointer (some ⟨w.heap.size + 1, 0, none⟩), undef, .pointer (some ⟨b, 0, none⟩), chartV o n cap, .bool true, .bool false, chartV o n cap, .func (.func 48) #[] #[.pointer (some ⟨w2.heap.size, 0, none⟩)], .int .i64 (x.2 : Nat), rngV x.1, undef, undef, undef, undef, undef, undef, undef, undef, undef], defers := [] })
      (fun A x B => A.alloc (rngO x.1) = B) (fun A x B h => by rw [← h]; exact Moves.of_below ((Below.refl _ _).alloc (Nat.le_refl _) _)) ?assign ?body ?done ?stop
    case hI =>
      rintro X X' xs A B h hm hX
      exact h.moves (by omega) hm hX
    case hIx =>
      rintro c X X' xs A B h
      exact h.elim
    case h0 => exact H0.out
    case assign =>
      rintro l x A K hK
      gi_wp2
      rfl
    case body =>
      rintro lp X pre ⟨x, j⟩ A A' W1 hA1 hpx hAB hm hXn hXn1 hXlt hI
      obtain ⟨hj, hx, -⟩ := zip_pre hpx
      subst hj
      have hxb : W1.heap[A.heap.size]? = some (rngO x) := by
        have := heap_alloc_new A (rngO x)
        rw [hAB] at this
        exact row_keep this hm (by omega)
      obtain ⟨q0, q1, q2, _⟩ := rng_cells hxb
      have hz := hI.kept.size
      have ce := hI.box.cell
      have fe := hI.box.frozen
      have hok := HRT.out.1.1 x (List.mem_of_getElem? hx)
      have hsb := sum_bounds HRT.out.1.1 pre.length
      have hs1 := sum_take hx
      have hlen : pre.length ≤ 1000000 := by have := (List.getElem?_eq_some_iff.1 hx).1; rw [HN.out] at this; omega
      obtain ⟨N, hN⟩ : ∃ N, sumL (l.take pre.length) = N := ⟨_, rfl⟩
      rw [hN] at ce hsb hs1 hI
      obtain ⟨a, b, v⟩ := x
      unfold okR at hok
      simp only at q0 q1 q2 hok hs1
      have k1 : IntKind.i64.wrap (b - a) = b - a := wrap_id (by omega) (by omega)
      have k2 : IntKind.i64.wrap (b - a + 1) = b - a + 1 := wrap_id (by omega) (by omega)
      have k3 : IntKind.i64.wrap (N + (b - a + 1)) = N + (b - a + 1) := wrap_id (by omega) (by omega)
      have hm4 : Moves (fun k => k = w.heap.size + 1) W1 (W1.setCell ⟨w.heap.size + 1, 0, none⟩ (.int .i64 (N + (b - a + 1)))) := Moves.setCell rfl
      have HR : Hid (seqEndX (DepR w2.heap.size o l) X (fun X pre W => CntInv w8 (w.heap.size + 1) X W (sumL (l.take pre.length))) (fun c X pre W => False) (pre ++ [((a, b, v), pre.length)]) W1 .normal ({ tmps := #[], defers := [] } : Act) (W1.setCell ⟨w.heap.size + 1, 0, none⟩ (.int .i64 (N + (b - a + 1))))) := by
        refine Lib.hid ⟨hm4.mono fun k h => ⟨fun hx => by have := hI.far k hx; omega, fun hd => ?_⟩, hI.far, hI.kept.trans hm4, ?_⟩
        · rcases hd with hd | ⟨h0, hd⟩
          · omega
          · have := HNB.out k h0 hd; omega
        · rw [List.length_append, List.length_singleton, hs1]
          exact hI.box.set _
      clear hI hx hpx hm hXlt hXn hXn1 hxb hAB hA1 hm4 hs1 hN
      gi_wp2
      exact HR.out
    case done =>
      rintro X D W hD hXD hI hX hK
      rw [List.length_zipIdx, List.take_length] at hI
      have hm : Moves (fun k => k = D) W (W.putObj D (.deferred none)) := Moves.putObj rfl
      have hce := hI.box.cell
      have HPP : Hid (P (.returned (.int .i64 (sumL l))) (W.putObj D (.deferred none))) := by
        rw [← HP.out]
        exact Lib.hid ⟨by rw [HC.out], Moves.below HB8.out HB8.out.size ((hI.kept.mono (T := fun k => w.heap.size ≤ k) (fun k h => by omega)).trans (hm.mono fun k h => by omega)) (fun k h => h)⟩
      clear hI hm
      gi_wp2
      refine ⟨by simp, .inl ⟨_, _, rfl, run_takeDeferred hK, ?_⟩⟩
      exact ⟨_, results_tmp (t := 2) rfl _ _ _, HPP.out⟩
    case stop =>
      rintro X D c pre W hD hXD hpre h
      exact h.elim
  · have HPP : Hid (P (.returned (.int .i64 0)) w2) := by
      rw [← HP.out]
      exact Lib.hid ⟨by unfold countL; rw [if_neg hr], HB2.out⟩
    rw [decide_eq_false hr]
    clear hr
    gi_wp2
    exact ⟨_, results_tmp (t := 2) rfl _ _ _, HPP.out⟩
set_option maxHeartbeats 1000000 in
theorem Count_any (o : Option Addr) (l : List Rng) (cap : Nat) (hn : l.length ≤ 1000000) (hc : l.length ≤ cap) (w : World) (hA : AtR w o l) :
    Calls Tryd.prog 16 #[.slice o l.length cap] w fun e w' => e = .returned (.int .i64 (countL l)) ∧ Below w.heap.size w w' := by
  have h2 := Lib.hid (fun w1 (b1 : Below w.heap.size w w1) => count_any o l l.length hn w1 (hA.below b1))
  have h1 := Lib.hid (chartOf_any o l.length cap hc w)
  obtain ⟨D, hD⟩ : ∃ D, countL l = D := ⟨_, rfl⟩
  rw [hD] at h2 ⊢
  obtain ⟨n, hnn⟩ : ∃ n, l.length = n := ⟨_, rfl⟩
  rw [hnn] at h1 h2 ⊢
  clear hD hnn hA
  go_enter Tryd.func16, Tryd.ntmps16
  go_wp2_with fail
  refine h1.out.mono ?_
  rintro e w1 ⟨rfl, b1⟩
  have B1 := Lib.hid b1
  clear b1
  go_wp2_with fail
  refine (h2.out w1 B1.out).mono ?_
  rintro e w2 ⟨rfl, b2⟩
  have B2 := Lib.hid (B1.out.trans (b2.mono B1.out.size))
  clear b2
  go_wp2
  go_ret
  exact ⟨rfl, B2.out⟩
end Go.Proofs.YtkhniogmogcjlaaDoor
