/- lines: the function that goes through a file's lines, each with its number. -/
import Derived.Test.YtapbedefahbilaaGreatDoorFSplitX
namespace Go.Proofs.YtapbedefahbilaaGreatDoor
open Go.RowKit Go.Shelf Go.Maps
attribute [local go_sem] Oper.semAt_some

abbrev readC (s : ByteArray) (b : Nat) : Array Value := #[.string s, .map (some b)]
abbrev encN (x : List UInt8 × Nat) : Array Value := #[.int .i64 (x.2 : Nat), strV x.1]
def numL (l : List UInt8) : List (List UInt8 × Nat) := (splitL 10 l).zipIdx 1
theorem num_snoc (pre : List (List UInt8)) (x : List UInt8) : (pre ++ [x]).zipIdx 1 = pre.zipIdx 1 ++ [(x, pre.length + 1)] := by
  rw [List.zipIdx_append]
  simp [Nat.add_comm]
theorem num_prefix {pre : List (List UInt8)} {l : List UInt8} (h : pre <+: splitL 10 l) : pre.zipIdx 1 <+: numL l := by
  obtain ⟨t, ht⟩ := h
  unfold numL
  rw [← ht, List.zipIdx_append]
  exact List.prefix_append _ _
theorem roundIn_in {m : Nat} {P : Program} {l l2 : Nat} {f : FuncId} {tmps : Array Value} {assign body : Code} {w : World} {R : Ending → World → Prop}
    (h : RoundIn Fence.wide m P l f tmps assign body w R) : RoundIn (Fence.wide.inRound l2) m P l f tmps assign body w R := h

theorem lines_any (s : ByteArray) (b : Nat) (w : World) :
    Calls Tryz.prog 52 #[.agg (readC s b)] w fun e w' => e = .returned (.func (.func 66) #[] #[.pointer (some ⟨w.heap.size, 0, none⟩)]) ∧ w.alloc (.cells (readC s b) 62) = w' := by
  go_enter Tryz.func52, Tryz.ntmps52
  go_wp2
  go_ret
  exact ⟨rfl, rfl⟩
theorem read_any (s : ByteArray) (w : World) :
    Calls Tryz.prog 35 #[.string s] w fun e w' => e = .returned (.agg (readC s (w.heap.size + 1))) ∧ Digits w' (w.heap.size + 1) ∧ Below w.heap.size w w' := by
  have A0 : Below w.heap.size w (w.alloc (.cells #[.string ⟨#[]⟩, .map none] 62)) := (Below.refl _ _).alloc (Nat.le_refl _) _
  have r0 : (w.alloc (.cells #[.string ⟨#[]⟩, .map none] 62)).heap[w.heap.size]? = some (.cells #[.string ⟨#[]⟩, .map none] 62 (0, 0)) := heap_alloc_new _ _
  have HA := Lib.hid A0
  have R0 := Lib.hid r0
  clear A0 r0
  go_enter Tryz.func35, Tryz.ntmps35
  go_wp2_with fail
  refine (hex_any _).mono ?_
  rintro e w1 ⟨rfl, o1, b1⟩
  have D1 : Digits w1 (w.heap.size + 1) := by have := digits_of_hex o1; rwa [World.size_alloc] at this
  have r1 := row_below R0.out b1
  have B1 := HA.out.trans (b1.mono HA.out.size)
  have R1 := Lib.hid r1
  have HB := Lib.hid B1
  have HD := Lib.hid D1
  clear r1 B1 D1 o1 b1
  go_wp2_with (refine wpList_store_row rfl 62 (.tmp 2) (.tmp 6) rfl w.heap.size (readC s (w.heap.size + 1)) rfl rfl 62 _ R1.out (by kernel_rfl) rfl (by simp [Value.oneCell']) ?_)
  refine bodyPost_ret (v := .agg (readC s (w.heap.size + 1))) ?_ rfl ⟨rfl, ?_, below_setRow HB.out (Nat.le_refl _) _⟩
  · exact results_cell_row rfl _ _ w.heap.size 62 (readC s (w.heap.size + 1)) (0, 0) _ rfl (setRow_heap _ _ _ _ _ _ R1.out) Tryz.underlying62 rfl (by kernel_rfl)
  · exact HD.out.kept ⟨rfl, rfl, rfl, by simp, fun k _ hk => setRow_other _ _ _ _ (fun e => hk (by rw [e]))⟩ (row := some w.heap.size) (by simp)

set_option maxRecDepth 100000 in
set_option maxHeartbeats 2000000 in
theorem seqLines {B b : Nat} {s : ByteArray} {w : World} (hs : s.size ≤ 1000000) (hB : w.heap[B]? = some (.cells (readC s b) 62 (0, 0))) :
    SeqOfX Tryz.prog 5 66 #[.pointer (some ⟨B, 0, none⟩)] encN (fun _ => False) (fun k => k = B) (numL s.data.toList) w := by
  intro W l J Jx hm hJ hJx hY h0
  have h1 : 1 ≤ 5 := by omega
  have hBW := row_keep hB hm id
  obtain ⟨c0, c1⟩ := row_cells hBW
  refine callsIn_of_wp_marks Tryz.func66 rfl trivial ?_ rfl
  simp only [Tryz.ntmps66, List.size_toArray, List.length_cons, List.length_nil, Nat.reduceAdd, Nat.reduceSub, Array.replicate_succ, Array.replicate_zero, List.push_toArray, List.append_toArray, List.nil_append, List.cons_append]
  have HJ := Lib.hid hJ
  have HJx := Lib.hid hJx
  have HY := Lib.hid hY
  have HS := Lib.hid hs
  have H0 := Lib.hid h0
  have hlB := (Array.getElem?_eq_some_iff.1 hBW).1
  clear hJ hJx hY hm hB hs h0
  gi_wp2_with fail
  refine ⟨trivial, (callsIn_wide.2 (splitSeq_any s 10 _)).mono ?_⟩
  rintro e w2 ⟨rfl, b2, z2, SL⟩
  simp only [World.size_alloc] at b2 z2 SL ⊢
  have A0 : Below W.heap.size W ((W.alloc (.cells #[.func (.yield l) #[] #[]] 108)).alloc (.cells #[.int .i64 0] 3)) := ((Below.refl _ _).alloc (Nat.le_refl _) _).alloc (by simp) _
  have Y0 : Boxed ((W.alloc (.cells #[.func (.yield l) #[] #[]] 108)).alloc (.cells #[.int .i64 0] 3)) W.heap.size 108 (.func (.yield l) #[] #[]) := (Boxed.new _ _ _).alloc _
  have N0 : Boxed ((W.alloc (.cells #[.func (.yield l) #[] #[]] 108)).alloc (.cells #[.int .i64 0] 3)) (W.heap.size + 1) 3 (.int .i64 0) := by
    have := Boxed.new (W.alloc (.cells #[.func (.yield l) #[] #[]] 108)) 3 (.int .i64 0)
    rwa [World.size_alloc] at this
  have b2' : Below ((W.alloc (.cells #[.func (.yield l) #[] #[]] 108)).alloc (.cells #[.int .i64 0] 3)).heap.size ((W.alloc (.cells #[.func (.yield l) #[] #[]] 108)).alloc (.cells #[.int .i64 0] 3)) w2 := by simpa using b2
  have Y2 : Boxed w2 W.heap.size 108 (.func (.yield l) #[] #[]) := row_below Y0 b2'
  have N2 : Boxed w2 (W.heap.size + 1) 3 (.int .i64 0) := row_below N0 b2'
  have bW := A0.trans (b2'.mono A0.size)
  clear A0 Y0 N0 b2 b2'
  gi_wp2_with fail
  refine wpIn_seqX (n := 5) (Ow := fun k => k = W.heap.size + 1 + 1) (Dep := DepS (W.heap.size + 1 + 1)) (encs := encS) (all := splitL 10 s.data.toList) (by omega) rfl (enters_of Tryz.func70 (by kernel_rfl) rfl) (fun x => rfl) (seqSplitX HS.out SL)
    (fun k h => by omega) (fun k h => by rcases h with h | h | h <;> omega)
    (fun X pre A => ∃ Xo : Nat → Prop, J Xo (pre.zipIdx 1) A ∧ (∀ k, X k ∨ (W.heap.size ≤ k ∧ k < w2.heap.size) → Xo k) ∧ (∀ k, Xo k → k < A.heap.size) ∧ Boxed A W.heap.size 108 (.func (.yield l) #[] #[]) ∧ Boxed A (W.heap.size + 1) 3 (.int .i64 (pre.length : Nat)) ∧ ∀ k, X k → k ≠ W.heap.size ∧ k ≠ W.heap.size + 1)
    (fun c X pre A => c = .ret ∧ ∃ Xo : Nat → Prop, Jx Xo (pre.zipIdx 1) A ∧ (∀ k, X k → Xo k) ∧ (∀ k, Xo k → k < A.heap.size)) ?hI ?hIx ?h0
    (fun _ x => { tmps := #[.func (.yield l) #[] #[], .pointer (some ⟨B, 0, none⟩), .pointer (some ⟨W.heap.size, 0, none⟩), .pointer (some ⟨W.heap.size + 1, 0, none⟩), strV x, .pointer (some ⟨B, 0, none⟩), .pointer (some ⟨B, 0, none⟩), .string s, .func (.func 70) #[] (splitB (W.heap.size + 1 + 1)), strV x, undef, undef, undef, undef, undef, undef, undef], defers := [] })
    (fun A _ B => A = B) (fun A x B h => by rw [h]; exact Moves.refl _ _) ?assign ?body ?done ?stop
  case hI =>
    rintro X X' xs A C ⟨Xo, hj, hsub, hlt, hy, hn, hne⟩ hm hX'
    have hz := hm.size
    have hly := hy.lt
    have hln := hn.lt
    refine ⟨fun k => k < C.heap.size ∧ (Xo k ∨ A.heap.size ≤ k), HJ.out _ _ _ _ _ hj (hm.mono fun k h => hsub k (.inl h)) (fun k h => ⟨h.2, h.1⟩), ?_, fun k h => h.1, row_keep hy hm (fun h => (hne _ h).1 rfl), row_keep hn hm (fun h => (hne _ h).2 rfl), ?_⟩
    · rintro k (h | h)
      · exact ⟨(hX' k h).2, (hX' k h).1.imp (fun h => hsub k (.inl h)) id⟩
      · have := hlt k (hsub k (.inr h))
        exact ⟨by omega, .inl (hsub k (.inr h))⟩
    · intro k h
      rcases (hX' k h).1 with h | h
      · exact hne k h
      · exact ⟨by omega, by omega⟩
  case hIx =>
    rintro c X X' xs A C ⟨rfl, Xo, hj, hsub, hlt⟩ hm hX'
    exact ⟨rfl, fun k => k < C.heap.size ∧ (Xo k ∨ A.heap.size ≤ k), HJx.out _ _ _ _ _ hj (hm.mono fun k h => hsub k h) (fun k h => ⟨h.2, h.1⟩), fun k h => ⟨(hX' k h).2, (hX' k h).1.imp (hsub k) id⟩, fun k h => h.1⟩
  case h0 =>
    refine ⟨fun k => W.heap.size ≤ k ∧ k < w2.heap.size, HJ.out _ _ _ _ _ H0.out (Moves.of_below bW) (fun k h => ⟨.inr h.1, h.2⟩), ?_, fun k h => h.2, Y2, N2, fun k h => by omega⟩
    rintro k (h | h) <;> omega
  case assign =>
    rintro l x A K hK
    gi_wp2
    rfl
  case body =>
    rintro l2 X pre x A A' W1 hA hpx hAB hm hXn hXn1 hXlt ⟨Xo, hj, hsub, hlt, hy, hn, hne⟩
    have cy := hy.cell
    have cn := hn.cell
    have fn0 := hn.frozen
    have hlen : pre.length ≤ 1000001 := by
      have h1 := hpx.length_le
      have h2 := splitL_length 10 s.data.toList
      rw [List.length_append, List.length_singleton] at h1
      have h4 : s.data.toList.length = s.size := by simp
      have h5 := HS.out
      omega
    obtain ⟨q, hq⟩ : ∃ q : ByteArray, (⟨x.toArray⟩ : ByteArray) = q := ⟨_, rfl⟩
    have hsv : strV x = .string q := by rw [← hq]
    rw [hsv]
    have hXoY : Xo W.heap.size ∧ Xo (W.heap.size + 1) := ⟨hsub _ (.inr ⟨Nat.le_refl _, by omega⟩), hsub _ (.inr ⟨by omega, by omega⟩)⟩
    have hm2 : Moves (fun k => k = W.heap.size + 1) W1 (W1.setCell ⟨W.heap.size + 1, 0, none⟩ (.int .i64 ((pre.length : Nat) + 1))) := Moves.setCell rfl
    have hly := hy.lt
    have hln := hn.lt
    have hlt2 : ∀ k, Xo k → k < (W1.setCell ⟨W.heap.size + 1, 0, none⟩ (.int .i64 ((pre.length : Nat) + 1))).heap.size := fun k h => by have := hlt k h; have := hm2.size; omega
    have hj2 := HJ.out _ Xo _ _ _ hj (hm2.mono fun k h => by rw [h]; exact hXoY.2) (fun k h => ⟨.inl h, hlt2 k h⟩)
    have hy2 : Boxed (W1.setCell ⟨W.heap.size + 1, 0, none⟩ (.int .i64 ((pre.length : Nat) + 1))) W.heap.size 108 (.func (.yield l) #[] #[]) := row_keep hy hm2 (by omega)
    have hn2 : Boxed (W1.setCell ⟨W.heap.size + 1, 0, none⟩ (.int .i64 ((pre.length : Nat) + 1))) (W.heap.size + 1) 3 (.int .i64 ((pre.length : Nat) + 1)) := hn.set _
    have cy2 := hy2.cell
    have cn2 := hn2.cell
    have hpx2 : pre.zipIdx 1 ++ [(x, pre.length + 1)] <+: numL s.data.toList := by rw [← num_snoc]; exact num_prefix hpx
    obtain ⟨fn, tmps, assign, body, hyy, hR⟩ := yieldAt_any 2 (HY.out Xo (pre.zipIdx 1) (x, pre.length + 1) _ hpx2 hj2)
    replace hyy : (Instr.yield l #[.int .i64 ((pre.length : Nat) + 1), .string q]).run Tryz.prog (W1.setCell ⟨W.heap.size + 1, 0, none⟩ (.int .i64 ((pre.length : Nat) + 1))) = .ok (.round l fn tmps assign body) (W1.setCell ⟨W.heap.size + 1, 0, none⟩ (.int .i64 ((pre.length : Nat) + 1))) := by
      rw [← hq]
      exact hyy
    have hR2 := roundIn_in (l2 := l2) hR
    have HR := Lib.hid hR2
    have HM2 := Lib.hid hm2
    have HNE := Lib.hid hne
    have HSUB := Lib.hid hsub
    have HXO := Lib.hid hXoY
    have HLT2 := Lib.hid hlt2
    clear hR hR2 hm2 hne hsub hXoY hlt2 hj hj2 hpx2 hq hsv hlt
    gi_wp2
    refine HR.out.mono ?_
    have hfin : ∀ W3, Moves (fun k => ¬ Xo k ∧ ¬ k = B) (W1.setCell ⟨W.heap.size + 1, 0, none⟩ (.int .i64 ((pre.length : Nat) + 1))) W3 → Moves (fun k => ¬ X k ∧ ¬ DepS (W.heap.size + 1 + 1) k) W1 W3 := fun W3 h => (HM2.out.mono fun k e => by
        rw [e]
        exact ⟨fun h => (HNE.out _ h).2 rfl, by rintro (h | h | h) <;> omega⟩).trans (h.mono fun k e => ⟨fun h => e.1 (HSUB.out k (.inl h)), fun h => e.1 (HSUB.out k (.inr (by rcases h with h | h | h <;> omega)))⟩)
    rintro e W3 (⟨rfl, hJ4, hk4⟩ | ⟨rfl, hJx4, hk4⟩)
    · gi_wp2
      refine ⟨hfin _ hk4, Xo, ?_, HSUB.out, ?_, row_keep hy2 hk4 (fun h => h.1 HXO.out.1), ?_, HNE.out⟩
      · rw [num_snoc]; exact hJ4
      · intro k h; have := HLT2.out k h; have := hk4.size; omega
      · have h := row_keep hn2 hk4 (fun h => h.1 HXO.out.2)
        have e1 : (pre ++ [x]).length = pre.length + 1 := by simp
        rw [e1]
        exact h
    · gi_wp2
      refine ⟨hfin _ hk4, rfl, Xo, ?_, fun k h => HSUB.out k (.inl h), ?_⟩
      · rw [num_snoc]; exact hJx4
      · intro k h; have := HLT2.out k h; have := hk4.size; omega
  case done =>
    rintro X D W1 hD hXD ⟨Xo, hj, hsub, hlt, hy, hn, hne⟩ hX hK
    have hDl := (Array.getElem?_eq_some_iff.1 hK).1
    have hj2 := HJ.out _ Xo _ _ _ hj (Moves.putObj (w := W1) (o := .deferred none) (hsub D (.inl hXD))) (fun k h => ⟨.inl h, by rw [World.putObj_size]; exact hlt k h⟩)
    have HJ2 := Lib.hid hj2
    clear hj hj2 hsub hlt hne hX
    gi_wp2
    refine ⟨by simp, .inl ⟨_, _, rfl, run_takeDeferred hK, ?_⟩⟩
    exact ⟨_, results_none rfl _ _ _, ⟨_, rfl⟩, Xo, .inl HJ2.out⟩
  case stop =>
    rintro X D c pre W1 hD hXD hpre ⟨rfl, Xo, hj, hsub, hlt⟩ hX hK
    have hj2 := HJx.out _ Xo _ _ _ hj (Moves.putObj (w := W1) (o := .deferred none) (hsub D hXD)) (fun k h => ⟨.inl h, by rw [World.putObj_size]; exact hlt k h⟩)
    have HJ2 := Lib.hid hj2
    clear hj hj2 hsub hlt hX
    gi_wp2
    refine ⟨by simp, .inl ⟨_, _, rfl, run_takeDeferred hK, ?_⟩⟩
    exact ⟨_, results_none rfl _ _ _, ⟨_, rfl⟩, Xo, .inr ⟨_, num_prefix hpre, HJ2.out⟩⟩
end Go.Proofs.YtapbedefahbilaaGreatDoor
