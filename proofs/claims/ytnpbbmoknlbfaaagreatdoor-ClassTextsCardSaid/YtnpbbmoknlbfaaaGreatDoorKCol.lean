/- Collect over the classes of a set; Classes. -/
import Derived.Test.YtnpbbmoknlbfaaaGreatDoorKEach
import Derived.Test.YtnpbbmoknlbfaaaGreatDoorBaseF
namespace Go.Proofs.YtnpbbmoknlbfaaaGreatDoor
open Go.RowKit Go.Shelf Go.Maps
attribute [local go_sem] Oper.semAt_some
attribute [local go_sem ↓] app_hide

theorem code_ownK {W : World} {base k : Nat} {v : Value} {xs : List Value} (q : Nat) (ho : W.ownsRow base 3 1 v k xs) (hk : k ≤ 2000000) (hbase : base ≤ W.heap.size) :
    ∃ g cap w6, (appSem #[22, 22] 22 #[v, .slice (some ⟨W.heap.size, 0, none⟩) 1 1]).run Tryz.prog (W.alloc (.cells #[.int .i64 (q : Nat)] 3)) = .ok (.slice (some ⟨g, 0, none⟩) (k + 1) cap) w6 ∧
      w6.ownsRow base 3 1 (.slice (some ⟨g, 0, none⟩) (k + 1) cap) (k + 1) (xs ++ [intC q]) ∧ (W.alloc (.cells #[.int .i64 (q : Nat)] 3)).grownBy w6 v.ownBlock := by
  obtain ⟨i0, hi, hz0, hz1, hz2⟩ := info_parts infoInt
  have hb : Below W.heap.size W (W.alloc (.cells #[.int .i64 (q : Nat)] 3)) := (Below.refl _ _).alloc (Nat.le_refl _) _
  obtain ⟨v', w6, hr, h2, h3, h4⟩ := run_append_own (P := Tryz.prog) _ base 22 22 3 i0 (.int .i64 0) 1 8 Tryz.underlying22 hi hz0 hz1 hz2 rfl (by decide) v k xs (own_below ho hb) ⟨W.heap.size, 0, none⟩ 1 1 [intC q] rfl
    (cell_one_new _ _ _) (by simp [Value.oneCell']) (by unfold maxLen; omega) (by omega) (by simp; omega)
  obtain ⟨g, cap, rfl⟩ := ownsRow_succ h2
  exact ⟨g, cap, w6, hr, h2, h3⟩
/-- What Collect answers of a set's classes: a row of its own. -/
def ColPost (l : List Nat) (w : World) (e : Ending) (w' : World) : Prop := ∃ v, e = .returned v ∧ w'.ownsRow w.heap.size 3 1 v l.length (l.map intC) ∧ Below w.heap.size w w'
set_option maxRecDepth 100000 in
set_option maxHeartbeats 4000000 in
theorem appSeqK {B x n : Nat} (hn : n ≤ 32) (hx : x < 2 ^ 32) (w : World) (hB : w.heap[B]? = some (.cells #[.int .i64 (x : Nat), .int .i64 (n : Nat)] 63 (0, 0))) :
    Calls Tryz.prog 84 #[.slice none 0 0, .func (.func 85) #[] #[.pointer (some ⟨B, 0, none⟩)]] w (ColPost (classesN n x) w) := by
  refine (callsIn_wide (n := 5)).1 ?_
  have h1 : 1 ≤ 5 := by omega
  refine callsIn_of_wp_marks Tryz.func84 rfl trivial ?_ rfl
  simp only [Tryz.ntmps84, List.size_toArray, List.length_cons, List.length_nil, Nat.reduceAdd, Nat.reduceSub, Array.replicate_succ, Array.replicate_zero, List.push_toArray, List.append_toArray, List.nil_append, List.cons_append]
  have hBl := (Array.getElem?_eq_some_iff.1 hB).1
  obtain ⟨w0, hw0⟩ : ∃ w0, w.alloc (.cells #[.slice none 0 0] 22) = w0 := ⟨_, rfl⟩
  have B0 : Below w.heap.size w w0 := by rw [← hw0]; exact (Below.refl _ _).alloc (Nat.le_refl _) _
  have z0 : w0.heap.size = w.heap.size + 1 := by rw [← hw0]; simp
  have b0 : Boxed w0 w.heap.size 22 (.slice none 0 0) := by rw [← hw0]; exact Boxed.new _ _ _
  have HSEQ := Lib.hid (seqEach hn hx (row_below hB B0))
  have HW0 := Lib.hid hw0
  have HLE := Lib.hid (classesN_le n x)
  clear hw0 hB
  gi_wp2_with fail
  rw [HW0.out]
  refine wpIn_seq (n := 5) (Ow := fun _ => False) (Dep := fun k => k = B) (encs := encC) (all := classesN n x) (by omega) rfl (enters_of Tryz.func85 (by kernel_rfl) rfl) (fun x => rfl) HSEQ.out
    (fun k h => h.elim) (fun k h => by omega)
    (fun pre W => Below w.heap.size w W ∧ ∃ v, Boxed W w.heap.size 22 v ∧ W.ownsRow (w0.heap.size + 2) 3 1 v pre.length (pre.map intC))
    (fun _ _ _ => False)
    (fun A k => k = w.heap.size ∨ ∃ v, Boxed A w.heap.size 22 v ∧ v.ownBlock = some k) ?S1 ?S2 ?hI ?hIx ⟨B0, _, b0, World.ownsRow_nil _ _ _ _⟩
    (fun _ x => { tmps := #[.slice none 0 0, .func (.func 85) #[] #[.pointer (some ⟨B, 0, none⟩)], .pointer (some ⟨w.heap.size, 0, none⟩), undef, .slice none 0 0, .int .i64 (x : Nat), .func (.func 85) #[] #[.pointer (some ⟨B, 0, none⟩)], .int .i64 (x : Nat), undef, undef, undef, undef, undef], defers := [] })
    (fun A _ B => A = B) (fun A x B h => by rw [h]; exact Moves.refl _ _) ?assign ?body ?done ?stop
  case S1 =>
    rintro xs A k hA ⟨hB, v, hX, ho⟩ (rfl | ⟨v', hX', hv'⟩)
    · have := hX.lt
      exact ⟨this, by omega, by omega, by omega⟩
    · have := own_far hX ho ⟨v', hX', hv'⟩
      exact ⟨this.2, by omega, by omega, by omega⟩
  case S2 =>
    rintro xs A B k ⟨hB, v, hX, ho⟩ hm (rfl | ⟨v', hX', hv'⟩)
    · exact .inl rfl
    · have hXB : Boxed B w.heap.size 22 v := row_keep hX hm (by rintro (h | h | h) <;> first | exact h.elim | omega)
      obtain rfl := boxed_unique hXB hX'
      exact .inr ⟨_, hX, hv'⟩
  case hI =>
    rintro xs A B ⟨hB, v, hX, ho⟩ hm
    exact ⟨Moves.below hB hB.size hm (fun k h => by rcases h with h | h | h <;> first | exact h.elim | omega), v, row_keep hX hm (by rintro (h | h | h) <;> first | exact h.elim | omega), own_moves ho hm (fun k hk => by rintro (h | h | h) <;> first | exact h.elim | omega)⟩
  case hIx =>
    rintro c xs A B h
    exact h.elim
  case stop =>
    rintro D c pre W hD hpre h
    exact h.elim
  case assign =>
    rintro l x A K hK
    gi_wp2
    rfl
  case body =>
    rintro l pre y A A' W hA hpx hAB hm ⟨hB, v, hX, ho⟩
    have hlen : pre.length ≤ 40 := by
      have h1 := hpx.length_le
      have h2 := HLE.out
      rw [List.length_append, List.length_singleton] at h1
      omega
    have hWz := hB.size
    have hWz2 : w0.heap.size + 2 ≤ W.heap.size := by have := hm.size; rw [← hAB] at this; omega
    have hlX := hX.lt
    have hcX := hX.cell
    have HX := Lib.hid hX
    have gX : Boxed (W.alloc (.cells #[.int .i64 (y : Nat)] 3)) w.heap.size 22 v := hX.alloc _
    have hbW : Below W.heap.size W (W.alloc (.cells #[.int .i64 (y : Nat)] 3)) := (Below.refl _ _).alloc (Nat.le_refl _) _
    have ho2 := own_below ho hbW
    obtain ⟨g', cap', w6, hrun, hown', hgrow⟩ := code_ownK y ho (by omega) (by omega)
    obtain ⟨hv1, hv2, hr2, hm2⟩ := appended_plain gX (by decide) ho2 hown' hgrow
    have hc1 := hv1.cell
    have hf1 := hv1.frozen
    have hS : ∀ k, (k = w.heap.size ∨ ∃ u, Boxed (W.alloc (.cells #[.int .i64 (y : Nat)] 3)) w.heap.size 22 u ∧ u.ownBlock = some k) → (k = w.heap.size ∨ ∃ u, Boxed W w.heap.size 22 u ∧ u.ownBlock = some k) := fun k h => h.imp id fun ⟨u, hu, hk⟩ => ⟨_, HX.out, by rw [boxed_unique gX hu]; exact hk⟩
    have hfar : ∀ k, (k = w.heap.size ∨ ∃ u, Boxed (W.alloc (.cells #[.int .i64 (y : Nat)] 3)) w.heap.size 22 u ∧ u.ownBlock = some k) → k = w.heap.size ∨ w0.heap.size + 2 ≤ k := fun k h => h.imp id fun h => (own_far gX ho2 h).1
    have HR : Hid (seqEnd (fun A k => k = w.heap.size ∨ ∃ v, Boxed A w.heap.size 22 v ∧ v.ownBlock = some k) (fun pre W => Below w.heap.size w W ∧ ∃ v, Boxed W w.heap.size 22 v ∧ W.ownsRow (w0.heap.size + 2) 3 1 v pre.length (pre.map intC))
        (fun _ _ _ => False) (pre ++ [y]) W .normal ({ tmps := #[], defers := [] } : Act) (w6.setCell ⟨w.heap.size, 0, none⟩ (.slice (some ⟨g', 0, none⟩) (pre.length + 1) cap'))) := by
      have e1 : (pre ++ [y]).length = pre.length + 1 := by simp
      have e2 : (pre ++ [y]).map intC = pre.map intC ++ [intC y] := by simp
      refine Lib.hid ⟨((Moves.of_below hbW).trans (hm2.mono hS)), ?_, _, hv2, by rw [e1, e2]; exact hr2⟩
      exact Moves.below (hB.trans (hbW.mono hB.size)) (by have := hbW.size; omega) hm2 (fun k h => by have := hfar _ h; omega)
    obtain ⟨o, cap, rfl⟩ := own_form ho
    obtain ⟨m, hml⟩ : ∃ m, pre.length = m := ⟨_, rfl⟩
    rw [hml] at hrun HR hcX hc1 hlen
    clear ho ho2 hX hpx gX hbW hown' hgrow hv1 hv2 hr2 hm2 hS hfar
    gi_wp2
    exact HR.out
  case done =>
    rintro D W hD ⟨hB, v, hX, ho⟩ hK
    have hpost : ColPost (classesN n x) w (.returned v) (W.putObj D (.deferred none)) :=
      ⟨v, rfl, own_base (own_putdef (d' := none) ho rfl hK) (by omega), Moves.below hB hB.size (Moves.putObj (S := fun k => k = D) rfl) (fun k e => by omega)⟩
    have HP := Lib.hid hpost
    have hcX := hX.cell
    obtain ⟨o, cap, rfl⟩ := own_form ho
    clear hpost ho hX
    gi_wp2
    refine ⟨by simp, .inl ⟨_, _, rfl, run_takeDeferred hK, ?_⟩⟩
    exact ⟨_, results_tmp (t := 4) rfl _ _ _, HP.out⟩
theorem collectK {B x n : Nat} (hn : n ≤ 32) (hx : x < 2 ^ 32) (w : World) (hB : w.heap[B]? = some (.cells #[.int .i64 (x : Nat), .int .i64 (n : Nat)] 63 (0, 0))) :
    Calls Tryz.prog 58 #[.func (.func 85) #[] #[.pointer (some ⟨B, 0, none⟩)]] w (ColPost (classesN n x) w) := by
  have HC := Lib.hid (appSeqK hn hx w hB)
  clear hB
  go_enter Tryz.func58, Tryz.ntmps58
  go_wp2_with fail
  refine HC.out.mono ?_
  rintro e w1 ⟨v, rfl, h⟩
  have H := Lib.hid h
  obtain ⟨o, c, rfl⟩ := own_form h.1
  clear h HC
  go_wp2
  go_ret
  exact ⟨_, rfl, H.out⟩
theorem row_placeK {w : World} {base n cap : Nat} {o : Option Addr} {t : TypeId} {size : Nat} {cs : List Value} (ho : w.ownsRow base t size (.slice o n cap) n cs) (hn : 0 < n) : ∃ g, o = some ⟨g, 0, none⟩ ∧ ∀ i u, cs[i]? = some u → w.cell? ⟨g, i, none⟩ = some u := by
  rcases ho.2 with ⟨hv, h0⟩ | ⟨g, cap', cur, hv, _⟩
  · omega
  · cases hv
    refine ⟨g, rfl, fun i u hu => ?_⟩
    have := ho.cells (g := g) rfl i u hu
    have hadd : (⟨g, 0, none⟩ : Addr).add i = ⟨g, i, none⟩ := by unfold Addr.add; split <;> simp_all
    rwa [hadd] at this
/-- Where a list of numbers stands. -/
def NumsAt (w : World) (o : Option Addr) (l : List Int) : Prop := 0 < l.length → ∃ g off, o = some ⟨g, off, none⟩ ∧ ∀ (j : Nat) (x : Int), l[j]? = some x → w.cell? ⟨g, off + j, none⟩ = some (.int .i64 x)
theorem NumsAt.below {w w' : World} {o : Option Addr} {l : List Int} (h : NumsAt w o l) (hb : Below w.heap.size w w') : NumsAt w' o l := fun hn => by
  obtain ⟨g, off, ho, hc⟩ := h hn
  exact ⟨g, off, ho, fun j x hx => cell_keep hb (hc j x hx)⟩
theorem nums_own {w : World} {base cap : Nat} {o : Option Addr} {l : List Nat} (h : w.ownsRow base 3 1 (.slice o l.length cap) l.length (l.map intC)) : NumsAt w o (l.map fun c => ((c : Nat) : Int)) := fun hn => by
  rw [List.length_map] at hn
  obtain ⟨g, ho, hc⟩ := row_placeK h hn
  refine ⟨g, 0, ho, fun j x hx => ?_⟩
  rw [List.getElem?_map] at hx
  obtain ⟨y, hy, rfl⟩ := Option.map_eq_some_iff.1 hx
  have := hc j (intC y) (by rw [List.getElem?_map, hy]; rfl)
  rw [Nat.zero_add]
  exact this
theorem clipK (o : Option Addr) (n c : Nat) (h : n ≤ c) (hn : n < 1000000) (ho : o = none → n = 0) (w : World) : Calls Tryz.prog 57 #[.slice o n c] w fun e w' => e = .returned (.slice o n n) ∧ w = w' := by
  cases o with
  | none =>
    obtain rfl := ho rfl
    go_enter Tryz.func57, Tryz.ntmps57
    go_wp2
    go_ret
    exact ⟨rfl, rfl⟩
  | some a =>
    go_enter Tryz.func57, Tryz.ntmps57
    go_wp2
    go_ret
    exact ⟨rfl, rfl⟩
set_option maxHeartbeats 1000000 in
/-- Classes: a set's, in a row of its own. -/
theorem Classes_anyK (s : Int) (w : World) : Calls Tryz.prog 25 #[.int .i64 s] w fun e w' => ∃ o c, e = .returned (.slice o (classesZ s).length c) ∧ NumsAt w' o ((classesZ s).map fun c => ((c : Nat) : Int)) ∧ (classesZ s).length ≤ c ∧ Below w.heap.size w w' := by
  have H := Lib.hid (fun W => right_anyK s 32 W)
  have A0 : Below w.heap.size w (w.alloc (.cells #[.int .i64 s, .int .i64 32] 63)) := (Below.refl _ _).alloc (Nat.le_refl _) _
  have r0 : (w.alloc (.cells #[.int .i64 s, .int .i64 32] 63)).heap[w.heap.size]? = some (.cells #[.int .i64 s, .int .i64 32] 63 (0, 0)) := heap_alloc_new _ _
  have HA := Lib.hid A0
  have R0 := Lib.hid r0
  clear A0 r0
  cases hr : rightZ s 32 with
  | true =>
    obtain ⟨x, m, rfl, hm, h1, h2, hx⟩ := rightZ_of hr
    have h32 : m = 32 := by omega
    subst h32
    have e0 : classesZ ((x : Nat) : Int) = classesN 32 x := by unfold classesZ; rw [hr]; simp
    rw [e0]
    have K1 := Lib.hid (fun W => each_any ((x : Nat) : Int) 32 W)
    have K2 := Lib.hid (fun W B (hB : W.heap[B]? = some (.cells #[.int .i64 (x : Nat), .int .i64 32] 63 (0, 0))) => collectK (B := B) (x := x) (n := 32) (by omega) hx W hB)
    have HLE := Lib.hid (classesN_le 32 x)
    obtain ⟨l, hl⟩ : ∃ l, classesN 32 x = l := ⟨_, rfl⟩
    rw [hl] at K2 HLE ⊢
    rw [hr] at H
    clear hr hx hl hm e0
    go_enter Tryz.func25, Tryz.ntmps25
    go_wp2_with fail
    refine (H.out _).mono ?_
    rintro e w2 ⟨rfl, b2⟩
    have r2 := row_below R0.out b2
    have B2 := Lib.hid (HA.out.trans (b2.mono HA.out.size))
    obtain ⟨k0, k1⟩ := row_cells r2
    clear b2 r2
    go_wp2_with fail
    refine (K1.out _).mono ?_
    rintro e w3 ⟨rfl, h3⟩
    have r3 : w3.heap[w2.heap.size]? = some (.cells #[.int .i64 (x : Nat), .int .i64 32] 63 (0, 0)) := by rw [← h3]; exact heap_alloc_new _ _
    have B3 : Below w.heap.size w w3 := by rw [← h3]; exact B2.out.alloc B2.out.size _
    have C3 := Lib.hid (K2.out w3 _ r3)
    have HB3 := Lib.hid B3
    clear h3 r3 B3 K2 K1 k0 k1
    go_wp2_with fail
    refine C3.out.mono ?_
    rintro e w4 ⟨v, rfl, ho, b4⟩
    obtain ⟨o, cap, rfl⟩ := own_form ho
    have HN := Lib.hid (nums_own ho)
    have hc := own_cap ho
    have B4 := Lib.hid (HB3.out.trans (b4.mono HB3.out.size))
    have hnil : o = none → l.length = 0 := fun e => by
      subst e
      rcases ho.2 with ⟨_, hn⟩ | ⟨g, cap', cur, hv, _⟩
      · exact hn
      · cases hv
    have hll : l.length ≤ 32 := HLE.out
    clear ho b4 C3
    go_wp2_with fail
    refine (clipK o l.length cap hc (by omega) hnil w4).mono ?_
    rintro e w5 ⟨rfl, rfl⟩
    clear hc
    go_wp2
    go_ret
    exact ⟨o, _, rfl, HN.out, Nat.le_refl _, B4.out⟩
  | false =>
    have e0 : classesZ s = [] := by unfold classesZ; rw [hr]; rfl
    rw [e0]
    rw [hr] at H
    clear hr e0
    go_enter Tryz.func25, Tryz.ntmps25
    go_wp2_with fail
    refine (H.out _).mono ?_
    rintro e w2 ⟨rfl, b2⟩
    go_wp2
    go_ret
    exact ⟨none, 0, rfl, fun h => by simp at h, Nat.le_refl _, HA.out.trans (b2.mono HA.out.size)⟩
end Go.Proofs.YtnpbbmoknlbfaaaGreatDoor
