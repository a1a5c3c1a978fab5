/- ranges: the tight map of a trie. trie.Same; Ranges. shown, of the laws of trie. TrieTwo: two maps have the same trie just if their tries' ranges are the same. -/
import Derived.Test.YtlmkefmfhdjmmaaDoorBunA12
import Derived.BigQuiet
import Derived.ChangeKeysEq
import Derived.Test.YtlmkefmfhdjmmaaDoorBunA4
import Derived.Test.YtlmkefmfhdjmmaaDoorBunA10
import Derived.Test.YtlmkefmfhdjmmaaDoorBunN9
namespace Go.Proofs.YtlmkefmfhdjmmaaDoor
open Go.RowKit Go.Shelf Go.Maps
attribute [local go_sem] Oper.semAt_some
attribute [local go_sem ↓] app_hide ld_hide

theorem run_indexT {b : List Int} {j : Nat} {v : Int} (hj : b[j]? = some v) (h : j < 256) (w : World) : (Instr.index 78 (.agg (cellsI b)) (.int .i64 (j : Nat))).run Tryd.prog w = .ok (.int .i64 v) w := by
  have h1 := cellsI_get hj
  simp [Instr.index, run_underlying Tryd.underlying78, asIntOf, Sem.run_bind, Result.andThen_ok, h]
  exact run_part_plain w (by kernel_rfl) h1
/-- What holds between two rounds. -/
structure RngI (w : World) (B : Nat) (X : Nat → Prop) (W : World) (m : List Rng) : Prop where
  far : ∀ k, X k → B ≤ k
  size : B ≤ W.heap.size ∧ w.heap.size + 3 ≤ B
  kept : Below w.heap.size w W
  eb : Boxed W (w.heap.size + 2) 51 .nilIface
  mb : ∃ so cap, Boxed W (w.heap.size + 1) 22 (.slice so m.length cap) ∧ W.ownsRow B 49 3 (.slice so m.length cap) m.length (cellsR m) ∧ ∀ k, inB so k → ¬ X k
theorem RngI.moves {w : World} {B : Nat} {X X' : Nat → Prop} {A A' : World} {m : List Rng} (h : RngI w B X A m) (hm : Moves X A A') (hX : ∀ k, X' k → (X k ∨ A.heap.size ≤ k) ∧ k < A'.heap.size) : RngI w B X' A' m := by
  have hz := hm.size
  have hs := h.size
  obtain ⟨so, cap, hb, ho, hn⟩ := h.mb
  have hf : ∀ k, k < B → ¬ X k := fun k hk hx => by have := h.far k hx; omega
  refine ⟨fun k hk => ?_, by omega, Moves.below h.kept h.kept.size hm (fun k hk => by have := h.far k hk; omega), row_keep h.eb hm (hf _ (by omega)), so, cap, row_keep hb hm (hf _ (by omega)), own_moves1N ho hm (fun k hk => hn k (own_inB hk)), fun k hk hx => ?_⟩
  · rcases (hX k hk).1 with h1 | h1
    · exact h.far k h1
    · omega
  · rcases (hX k hx).1 with h1 | h1
    · exact hn k hk h1
    · obtain ⟨a, rfl, rfl⟩ := hk
      obtain ⟨_, h2, _⟩ := own_rowT ho (show (Value.slice (some a) m.length cap).ownBlock = some a.block from rfl)
      have := (Array.getElem?_eq_some_iff.1 h2).1
      omega
/-- A range more. -/
theorem rng_step {w W : World} {B : Nat} {X Dep : Nat → Prop} {m : List Rng} (h : RngI w B X W m) (hX : ∀ k, X k → k < W.heap.size) (hDep : ∀ k, Dep k → k < B ∧ k ≠ w.heap.size + 1) (x : Rng) (hb : ∀ y ∈ m, -1000000 ≤ y.2.1 ∧ y.2.1 ≤ 10000000) (hx : -1000000 ≤ x.1 ∧ x.1 ≤ 10000000) (hn : m.length ≤ 10000) :
    ∃ so cap, W.cell? ⟨w.heap.size + 1, 0, none⟩ = some (.slice so m.length cap) ∧ Calls Tryd.prog 50 #[.slice so m.length cap, rngV x] W fun e W' => ∃ (g c' : Nat), e = .returned (.slice (some ⟨g, 0, none⟩) (joinL m x).length c') ∧
      W'.cell? ⟨w.heap.size + 1, 0, none⟩ = some (.slice so m.length cap) ∧ W'.frozen? ⟨w.heap.size + 1, 0, none⟩ = false ∧ w.heap.size + 1 < W'.heap.size ∧
      RngI w B X (W'.setCell ⟨w.heap.size + 1, 0, none⟩ (.slice (some ⟨g, 0, none⟩) (joinL m x).length c')) (joinL m x) ∧ Moves (fun k => ¬ X k ∧ ¬ Dep k) W (W'.setCell ⟨w.heap.size + 1, 0, none⟩ (.slice (some ⟨g, 0, none⟩) (joinL m x).length c')) := by
  obtain ⟨so, cap, hbx, ho, hnx⟩ := h.mb
  have hsz := h.size
  have hf : ∀ k, k < B → ¬ X k := fun k hk hx => by have := h.far k hx; omega
  refine ⟨so, cap, hbx.cell, (joinT_any x W ho hb hx hn hsz.1).mono ?_⟩
  rintro e W' ⟨g, cap', rfl, ho', hm', hg'⟩
  have hown : ∀ k, (Value.slice so m.length cap).ownBlock = some k → B ≤ k ∧ k < W.heap.size ∧ ¬ X k := fun k hk => by
    obtain ⟨_, h2, h3⟩ := own_rowT ho hk
    exact ⟨h3, (Array.getElem?_eq_some_iff.1 h2).1, hnx k (own_inB hk)⟩
  have hB' : Boxed W' (w.heap.size + 1) 22 (.slice so m.length cap) := row_keep hbx hm' (fun hk => by have := hown _ hk; omega)
  have hm2 : Moves (fun k => (Value.slice so m.length cap).ownBlock = some k ∨ k = w.heap.size + 1) W (W'.setCell ⟨w.heap.size + 1, 0, none⟩ (.slice (some ⟨g, 0, none⟩) (joinL m x).length cap')) :=
    (hm'.mono fun k hk => .inl hk).trans (Moves.setCell (.inr rfl))
  refine ⟨g, cap', rfl, hB'.cell, hB'.frozen, hB'.lt, ⟨h.far, ⟨by have := hm2.size; omega, hsz.2⟩, Moves.below h.kept h.kept.size hm2 (fun k hk => ?_), row_keep h.eb hm2 (fun hk => ?_), some ⟨g, 0, none⟩, cap', hB'.set _, own_moves1N ho' (Moves.setCell (S := fun k => k = w.heap.size + 1) rfl) (fun k hk e => ?_), fun k hk hxk => ?_⟩, hm2.mono fun k hk => ⟨fun hxk => ?_, fun hd => ?_⟩⟩
  · rcases hk with hk | rfl
    · have := hown _ hk; omega
    · omega
  · rcases hk with hk | hk
    · have := hown _ hk; omega
    · omega
  · obtain ⟨_, _, h3⟩ := own_rowT ho' hk
    omega
  · obtain ⟨a, ha, rfl⟩ := hk
    cases ha
    rcases hg' with h1 | h1
    · exact (hown _ h1).2.2 hxk
    · have := hX _ hxk; simp only at this; omega
  · rcases hk with hk | rfl
    · exact (hown _ hk).2.2 hxk
    · exact hf _ (by omega) hxk
  · rcases hk with hk | rfl
    · have := hDep k hd; have := hown _ hk; omega
    · exact (hDep _ hd).2 rfl
/-- Where it has stopped. -/
structure RngX (w : World) (B : Nat) (aS : Addr) (X : Nat → Prop) (W : World) : Prop where
  far : ∀ k, X k → B ≤ k
  size : B ≤ W.heap.size ∧ w.heap.size + 3 ≤ B
  kept : Below w.heap.size w W
  eb : Boxed W (w.heap.size + 2) 51 (errV aS)
  mb : Boxed W (w.heap.size + 1) 22 (.slice none 0 0)
theorem RngX.moves {w : World} {B : Nat} {aS : Addr} {X X' : Nat → Prop} {A A' : World} (h : RngX w B aS X A) (hm : Moves X A A') (hX : ∀ k, X' k → (X k ∨ A.heap.size ≤ k) ∧ k < A'.heap.size) : RngX w B aS X' A' := by
  have hz := hm.size
  have hs := h.size
  have hf : ∀ k, k < B → ¬ X k := fun k hk hx => by have := h.far k hx; omega
  refine ⟨fun k hk => ?_, by omega, Moves.below h.kept h.kept.size hm (fun k hk => by have := h.far k hk; omega), row_keep h.eb hm (hf _ (by omega)), row_keep h.mb hm (hf _ (by omega))⟩
  rcases (hX k hk).1 with h1 | h1
  · exact h.far k h1
  · omega
theorem rows_pre {t : TrieD} (ht : rightT t) {pre : List (Nat × List Int)} {x : Nat × List Int} (h : pre ++ [x] <+: rowsZ t) : x.1 = pre.length ∧ pre.length < 4352 ∧ fitsL x.2 ∧ ∀ k, k < 256 → saysF t (256 * pre.length + k) = x.2.getD k 0 := by
  have hx : (rowsZ t)[pre.length]? = some x := by obtain ⟨u, hu⟩ := h; rw [← hu]; simp
  have hl : pre.length < 4352 := by have := (List.getElem?_eq_some_iff.1 hx).1; rwa [rowsZ_len, ht.1] at this
  obtain ⟨a, ha⟩ : ∃ a, t.1[pre.length]? = some a := ⟨_, List.getElem?_eq_getElem (by rw [ht.1]; exact hl)⟩
  have hra := ht.2.1 a (List.mem_of_getElem? ha)
  obtain ⟨b, hb⟩ : ∃ b, t.2[a.toNat]? = some b := ⟨_, List.getElem?_eq_getElem (by omega)⟩
  rw [rowsZ_get t ha hb] at hx
  cases hx
  exact ⟨rfl, hl, ht.2.2 b (List.mem_of_getElem? hb), fun k hk => saysF_row ha hb hk⟩
/-- What ranges answers. -/
def RngsQ (R : List Rng × Int) (aU aS : Addr) (w : World) (e : Ending) (w' : World) : Prop := ∃ o ev, e = .returned (.tuple #[.slice o R.1.length R.1.length, ev]) ∧ Below w.heap.size w w' ∧ AtR w' o R.1 ∧ ErrT aU aS ev R.2
set_option maxRecDepth 100000 in
set_option maxHeartbeats 4000000 in
theorem ranges_anyT (io bo : Option Addr) (t : TrieD) (ic bc : Nat) (hi : t.1.length ≤ 1000000) (hb : t.2.length ≤ 1000000) (hbb : ∀ b ∈ t.2, b.length ≤ 1000000) (w : World) {aU aS : Addr} (hG : Glob w aU aS) (hA : TrieT w io bo t) :
    Calls Tryd.prog 34 #[trieV io t.1.length ic bo t.2.length bc] w (RngsQ (rangesT t) aU aS w) := by
  refine (callsIn_wide (n := 6)).1 ?_
  have h1 : 1 ≤ 6 := by omega
  refine callsIn_of_wp_marks Tryd.func34 rfl trivial ?_ rfl
  simp only [Tryd.ntmps34, List.size_toArray, List.length_cons, List.length_nil, Nat.reduceAdd, Nat.reduceSub, Array.replicate_succ, Array.replicate_zero, List.push_toArray, List.append_toArray, List.nil_append, List.cons_append]
  obtain ⟨P, hP⟩ : ∃ P, RngsQ (rangesT t) aU aS w = P := ⟨_, rfl⟩
  have HP := Lib.hid hP
  rw [hP]
  obtain ⟨W, hW⟩ : ∃ W, ((w.alloc (trieO io t.1.length ic bo t.2.length bc)).alloc (.cells #[.slice none 0 0] 22)).alloc (.cells #[.nilIface] 51) = W := ⟨_, rfl⟩
  have A1 : Below w.heap.size w W := by rw [← hW]; exact (((Below.refl _ _).alloc (Nat.le_refl _) _).alloc (by simp) _).alloc (by simp; omega) _
  have z1 : W.heap.size = w.heap.size + 3 := by rw [← hW]; simp
  have r0 : W.heap[w.heap.size]? = some (trieO io t.1.length ic bo t.2.length bc) := by rw [← hW, Below.heap_alloc _ _ _ (by simp; omega), Below.heap_alloc _ _ _ (by simp)]; exact heap_alloc_new _ _
  have r1 : Boxed W (w.heap.size + 1) 22 (.slice none 0 0) := by
    rw [← hW]
    have := (Boxed.new (w.alloc (trieO io t.1.length ic bo t.2.length bc)) 22 (.slice none 0 0)).alloc (.cells #[.nilIface] 51)
    rwa [World.size_alloc] at this
  have r2 : Boxed W (w.heap.size + 2) 51 .nilIface := by
    rw [← hW]
    have := Boxed.new ((w.alloc (trieO io t.1.length ic bo t.2.length bc)).alloc (.cells #[.slice none 0 0] 22)) 51 .nilIface
    simpa using this
  have HC1 := Lib.hid (rightT_any io bo t ic bc hi hb hbb W (hA.below A1))
  have HD := Lib.hid (fun W1 => rows_any io bo t.1.length ic t.2.length bc W1)
  have HS := Lib.hid (fun (hr : rightT t) (w1 : World) (b1 : Below w.heap.size w w1) => (seqRows (io := io) (bo := bo) (ic := ic) (bc := bc) (t := t) (w0 := w) (w := w1.alloc (trieO io t.1.length ic bo t.2.length bc)) hr hb (heap_alloc_new _ _) hA (b1.alloc b1.size _)).encs (e2 := encF) fun x hx => by
    obtain ⟨j, hj⟩ := List.mem_iff_getElem?.1 hx
    have := (rows_pre hr (pre := (rowsZ t).take j) (x := x) (by rw [take_row hj]; exact List.take_prefix _ _)).2.2.1
    show encB x = encF x
    unfold encB encF
    rw [rowF_getD this.2])
  obtain ⟨D, hD⟩ : ∃ D, decide (rightT t) = D := ⟨_, rfl⟩
  rw [hD] at HC1
  have HDD := Lib.hid hD
  obtain ⟨n, hn⟩ : ∃ n, t.1.length = n := ⟨_, rfl⟩
  obtain ⟨q, hq⟩ : ∃ n, t.2.length = n := ⟨_, rfl⟩
  rw [hn, hq] at HC1 HD HS r0 hW ⊢
  have c0 : W.cell? ⟨w.heap.size, 0, none⟩ = some (.slice io n ic) := by rw [cell_of_row _ _ 0 _ _ _ r0]; rfl
  have c1 : W.cell? ⟨w.heap.size, 1, none⟩ = some (.slice bo q bc) := by rw [cell_of_row _ _ 1 _ _ _ r0]; rfl
  have HA1 := Lib.hid A1
  have HR1 := Lib.hid r1
  have HR2 := Lib.hid r2
  have HW := Lib.hid hW
  have HG := Lib.hid hG
  clear hP hW A1 r0 r1 r2 hD hn hq hA hbb hb hi hG
  gi_wp2_with fail
  refine wpIn_wide.2 (wp_scope_forth 0 rfl ((wpIn_wide (n := 6)).1 ?_))
  gi_wp2_with fail
  rw [HW.out]
  refine ⟨trivial, (callsIn_wide.2 HC1.out).mono ?_⟩
  rintro e w1 ⟨rfl, b1⟩
  have HB1 := Lib.hid (HA1.out.trans (b1.mono HA1.out.size))
  have HR1' : Hid (Boxed w1 (w.heap.size + 1) 22 (.slice none 0 0)) := Lib.hid (row_below HR1.out b1)
  have HR2' : Hid (Boxed w1 (w.heap.size + 2) 51 .nilIface) := Lib.hid (row_below HR2.out b1)
  have d0 := cell_keepT b1 c0
  have d1 := cell_keepT b1 c1
  have z2 := b1.size
  clear b1 HC1 c0 c1 HR1 HR2
  cases D with
  | false =>
    have hno : ¬ rightT t := of_decide_eq_false HDD.out
    have hg := cell_keepT HB1.out HG.out.utf
    have HPP : Hid (P (.returned (.tuple #[.slice none 0 0, errV aU])) w1.drew) := by
      rw [← HP.out]
      unfold rangesT
      rw [if_neg hno]
      exact Lib.hid ⟨none, _, rfl, HB1.out.drew, fun h => absurd h (Nat.lt_irrefl 0), .inr (.inr ⟨rfl, rfl⟩)⟩
    clear hno HD HS
    gi_wp2_with fail
    gi_region
    gi_wp2
    simp only [Exit.jump]
    exact ⟨_, results_tmp2 (t := 2) (u := 3) rfl _ _ _, HPP.out⟩
  | true =>
    have hr : rightT t := of_decide_eq_true HDD.out
    gi_wp2_with fail
    refine wpIn_label ?_
    gi_wp2_with fail
    refine ⟨trivial, (callsIn_wide.2 (HD.out w1)).mono ?_⟩
    rintro e w2 ⟨rfl, hw2⟩
    have hS := HS.out hr w1 HB1.out
    rw [hw2] at hS
    have HB2 : Hid (Below w.heap.size w w2) := by rw [← hw2]; exact Lib.hid (HB1.out.alloc HB1.out.size _)
    have z3 : w1.heap.size < w2.heap.size := by rw [← hw2]; simp
    have z4 : w.heap.size + 3 ≤ w2.heap.size := by omega
    have bb : Below w1.heap.size w1 w2 := by rw [← hw2]; exact (Below.refl _ _).alloc (Nat.le_refl _) _
    have I0 : RngI w w2.heap.size (fun _ => False) w2 [] := ⟨fun k h => h.elim, by omega, HB2.out, row_below HR2'.out bb, none, 0, row_below HR1'.out bb, World.ownsRow_nil _ _ _ _, fun k _ => id⟩
    have HI0 : Hid (RngI w w2.heap.size (fun _ => False) w2 (tghF (saysF t) (256 * ([] : List (Nat × List Int)).length)) ∧ (tghF (saysF t) (256 * ([] : List (Nat × List Int)).length)).length ≤ 600) := Lib.hid ⟨I0, Nat.zero_le _⟩
    have HSEQ := Lib.hid hS
    have HRT := Lib.hid hr
    clear hS hw2 HS HD bb I0 d0 d1 HR1' HR2' HDD hr
    gi_wp2_with fail
    refine wpIn_seqX (n := 6) (Ow := fun _ => False) (Dep := fun k => k < w.heap.size ∨ k = w1.heap.size) (encs := encF) (all := rowsZ t) (by omega) rfl (enters_of Tryd.func64 (by kernel_rfl) rfl) (fun x => rfl) HSEQ.out (fun k h => h.elim) (fun k h => by omega)
      (fun X pre W => RngI w w2.heap.size X W (tghF (saysF t) (256 * pre.length)) ∧ (tghF (saysF t) (256 * pre.length)).length ≤ 600)
      (fun c X pre W => c = .exit 0 ∧ RngX w w2.heap.size aS X W ∧ 600 < (tghF (saysF t) (256 * pre.length)).length) ?hI ?hIx HI0.out
      (fun b x => { tmps := #[trieV io n ic bo q bc, .pointer (some ⟨w.heap.size, 0, none⟩), .slice none 0 0, .nilIface, .pointer (some ⟨w.heap.size + 1, 0, none⟩), .pointer (some ⟨w.heap.size + 2, 0, none⟩), .int .i64 ((256 * x.1 : Nat) : Int), .pointer (some ⟨b, 0, none⟩), undef, undef, trieV io n ic bo q bc, .bool true, .bool false, undef, trieV io n ic bo q bc, .func (.func 64) #[] #[.pointer (some ⟨w1.heap.size, 0, none⟩)], .int .i64 ((256 * x.1 : Nat) : Int), .agg (cellsI (rowF fun p => x.2.getD p 0)), undef, undef, undef, undef, undef, undef, undef, undef, undef, undef, undef, undef, undef, undef, undef, undef, undef, undef, undef, undef, undef, undef, undef, undef, undef, undef, undef, undef, undef], defers := [] })
      (fun A x B => (A.alloc (.cells Tryd.zeroCells78 78)).setRow A.heap.size (cellsI (rowF fun p => x.2.getD p 0)) = B) (fun A x B h => by rw [← h]; exact Moves.of_below (below_setRow ((Below.refl _ _).alloc (Nat.le_refl _) _) (Nat.le_refl _) _)) ?assign ?body ?done ?stop
    case hI =>
      rintro X X' xs A B ⟨h, hl⟩ hm hX
      exact ⟨h.moves hm hX, hl⟩
    case hIx =>
      rintro c X X' xs A B ⟨hc, h, hl⟩ hm hX
      exact ⟨hc, h.moves hm hX, hl⟩
    case assign =>
      rintro l x A K hK
      obtain ⟨C, hC⟩ : ∃ C, cellsI (rowF fun p => x.2.getD p 0) = C := ⟨_, rfl⟩
      obtain ⟨q, hq⟩ : ∃ q, 256 * x.1 = q := ⟨_, rfl⟩
      have hCs : C.size = 256 := by rw [← hC, cellsI_size, rowF_len]
      have HI : Hid ((Tryd.prog.info? 78).map (·.size) = some C.size) := Lib.hid (by rw [hCs]; exact blk_info)
      have HOLD : Hid ((Tryd.zeroCells78).size = C.size) := Lib.hid (by rw [hCs, zero_row, cellsI_size, rowF_len])
      have HONE : Hid (C.all (·.oneCell') = true) := Lib.hid (by rw [← hC]; exact cellsI_one _)
      have HR2 := Lib.hid (heap_alloc_new A (.cells Tryd.zeroCells78 78))
      rw [hC, hq] at hK
      show Code.wpIn _ _ _ _ _ { tmps := (Array.zip #[16, 17] #[Value.int .i64 ((256 * x.1 : Nat) : Int), Value.agg (cellsI (rowF fun p => x.2.getD p 0))]).foldl _ _, defers := [] } _
      rw [hC, hq]
      have HK := Lib.hid (hK _ rfl)
      clear hK hC hq hCs
      gi_wp2_with (first | (refine wpListIn_storeT rfl 78 (.tmp 7) (.tmp 17) rfl A.heap.size C rfl rfl 78 _ HR2.out HI.out HOLD.out HONE.out rfl ?_) | fail)
      exact HK.out
    case body =>
      rintro lp X pre ⟨i, b⟩ A A' W1 hA1 hpx hAB hm hXn hXn1 hXlt ⟨hI, hlen⟩
      obtain ⟨hi, hi2, hfit, hsay⟩ := rows_pre HRT.out hpx
      simp only at hi hfit hsay
      subst hi
      have hb0 : (rowF fun p => b.getD p 0) = b := rowF_getD hfit.2
      have hxb : W1.heap[A.heap.size]? = some (blkO b) := by
        have := setRow_heap _ _ _ (cellsI (rowF fun p => b.getD p 0)) _ _ (heap_alloc_new A (.cells Tryd.zeroCells78 78))
        rw [hAB, hb0] at this
        exact row_keep this hm (by omega)
      have hXb : ∀ k, X k → k < W1.heap.size := fun k h => by have h1 := hXlt k h; have h2 := hm.size; rw [← hAB] at h2; simp at h2; omega
      have hlb := (Array.getElem?_eq_some_iff.1 hxb).1
      have hld : (ldB ⟨A.heap.size, 0, none⟩).run Tryd.prog W1 = .ok (.agg (cellsI b)) W1 := run_loadVar_row W1 A.heap.size 78 78 (cellsI b) (0, 0) _ hxb Tryd.underlying78 rfl (by rw [cellsI_size, hfit.2]; exact blk_info)
      obtain ⟨f, hf⟩ : ∃ f, 256 * pre.length = f := ⟨_, rfl⟩
      have hfb : f + 256 ≤ 1114112 := by omega
      have hend : 256 * (pre ++ [(pre.length, b)]).length = f + 256 := by rw [List.length_append, List.length_singleton]; omega
      have HEND := Lib.hid hend
      rw [hf] at hI hlen hsay
      obtain ⟨C, hC⟩ : ∃ C, cellsI b = C := ⟨_, rfl⟩
      simp only [hb0, hf]
      rw [hC] at hld ⊢
      have HC := Lib.hid hC
      have HI0 := Lib.hid hI
      have HLEN := Lib.hid hlen
      have HSAY := Lib.hid hsay
      have HFIT := Lib.hid hfit
      have HXB := Lib.hid hXb
      have HF := Lib.hid hf
      clear hI hlen hsay hb0 hxb hXb hXn hXn1 hXlt hm hAB hpx hend hC hfit hi2 hf HSEQ
      gi_wp2_with fail
      gi_loopg [19] 256 (fun k v wr => ∃ (j : Nat), v = .int .i64 (j : Nat) ∧ j ≤ 256 ∧ k = 256 - j ∧ Hid (RngI w w2.heap.size X wr (tghF (saysF t) (f + j))) ∧ Hid (Moves (fun k => ¬ X k ∧ ¬ (k < w.heap.size ∨ k = w1.heap.size)) W1 wr))
      case atStart => exact ⟨0, rfl, Nat.zero_le _, rfl, HI0, Lib.hid (Moves.refl _ _)⟩
      case round =>
        obtain ⟨j, rfl, hj, rfl, HI, HM⟩ := hrel
        have hIw := HI.out
        have hXw : ∀ k, X k → k < wr.heap.size := fun k hk => Nat.lt_of_lt_of_le (HXB.out k hk) HM.out.size
        have hml : (tghF (saysF t) (f + j)).length ≤ 10000 := by have := tghF_step_le (saysF t) f j; have := HLEN.out; omega
        rcases Nat.lt_or_ge j 256 with hlt | hge
        · obtain ⟨v, hv⟩ : ∃ v, b[j]? = some v := ⟨_, List.getElem?_eq_getElem (by rw [HFIT.out.2]; exact hlt)⟩
          have hsv : saysF t (f + j) = v := by rw [HSAY.out j hlt]; simp [List.getD, hv]
          have hvb := saysF_ok HRT.out (f + j)
          rw [hsv] at hvb
          have hidx : ∀ W : World, (Instr.index 78 (.agg C) (.int .i64 (j : Nat))).run Tryd.prog W = .ok (.int .i64 v) W := fun W => by rw [← HC.out]; exact run_indexT hv hlt W
          have hstep := tghF_step (saysF t) (f + j) hsv
          have h0j : ((j : Nat) : Int) < 256 := by omega
          have hwj : IntKind.i64.wrap (((j : Nat) : Int) + 1) = ((j + 1 : Nat) : Int) := by rw [show ((j : Nat) : Int) + 1 = ((j + 1 : Nat) : Int) from by omega]; exact wrap_id (by omega) (by omega)
          by_cases hv0 : v = 0
          · rw [if_pos hv0] at hstep
            have HIW : Hid (RngI w w2.heap.size X wr (tghF (saysF t) (f + (j + 1)))) := by rw [← Nat.add_assoc, hstep]; exact HI
            subst hv0
            clear hIw hXw hml hv hsv hvb hstep
            gi_wp2
            gi_roundg (256 - (j + 1))
            case measure => omega
            case rel => exact ⟨j + 1, rfl, by omega, rfl, HIW, HM⟩
          · rw [if_neg hv0] at hstep
            obtain ⟨so, cap, k0, CALL⟩ := rng_step (Dep := fun k => k < w.heap.size ∨ k = w1.heap.size) hIw hXw (fun k hk => by omega) (((f + j : Nat) : Int), ((f + j : Nat) : Int), v) (fun y hy => by have := tghF_le (saysF_ok HRT.out) (n := f + j) (by omega) y hy; omega) (by simp only; omega) hml
            rw [← hstep, Nat.add_assoc] at CALL
            have hw1 : IntKind.i64.wrap (((f : Nat) : Int) + ((j : Nat) : Int)) = ((f + j : Nat) : Int) := by rw [show ((f : Nat) : Int) + ((j : Nat) : Int) = ((f + j : Nat) : Int) from by omega]; exact wrap_id (by omega) (by omega)
            have hnv : (v != 0) = true := by simpa using hv0
            obtain ⟨ml, hml2⟩ : ∃ ml, (tghF (saysF t) (f + j)).length = ml := ⟨_, rfl⟩
            rw [hml2] at k0 CALL
            obtain ⟨fj, hfj⟩ : ∃ fj, f + j = fj := ⟨_, rfl⟩
            rw [hfj] at CALL hw1
            have HCALL := Lib.hid CALL
            have hkl := World.block_lt_of_cell? _ _ k0
            clear hIw hXw hml hv hsv hvb hstep CALL hv0 hml2 hfj
            gi_wp2_with fail
            refine ⟨trivial, CallsIn.inRound lp ((callsIn_wide.2 HCALL.out).mono ?_)⟩
            rintro e W' ⟨g, cc, rfl, c', f', l', hI', hM'⟩
            have HIW := Lib.hid hI'
            have HMW := Lib.hid (HM.out.trans hM')
            clear hI' hM' HCALL
            gi_wp2
            gi_roundg (256 - (j + 1))
            case measure => omega
            case rel => exact ⟨j + 1, rfl, by omega, rfl, HIW, HMW⟩
        · obtain rfl : j = 256 := by omega
          obtain ⟨so, cap, hbx, ho, hnx⟩ := hIw.mb
          have k0 := hbx.cell
          obtain ⟨m, hm⟩ : ∃ m, tghF (saysF t) (f + 256) = m := ⟨_, rfl⟩
          obtain ⟨ml, hml2⟩ : ∃ ml, m.length = ml := ⟨_, rfl⟩
          have HMM := Lib.hid hm
          rw [hm, hml2] at k0
          rw [hm] at hml
          have HML := Lib.hid hml2
          rcases Nat.lt_or_ge 600 ml with hgt | hle
          · have hgt2 : ((ml : Nat) : Int) > 600 := by omega
            have hge0 := cell_keepT hIw.kept HG.out.sca
            have hfol : Tryd.prog.follows .mixedOrders = true := by kernel_rfl
            have q1 := hbx.frozen
            have hsz := hIw.size
            have e9 : Boxed (wr.setCell ⟨w.heap.size + 1, 0, none⟩ (.slice none 0 0)) (w.heap.size + 2) 51 .nilIface := row_keep hIw.eb (Moves.setCell (S := fun k => k = w.heap.size + 1) rfl) (by omega)
            have b9 : Boxed (wr.setCell ⟨w.heap.size + 1, 0, none⟩ (.slice none 0 0)) (w.heap.size + 1) 22 (.slice none 0 0) := hbx.set _
            have m9 : Moves (fun k => k = w.heap.size + 1 ∨ k = w.heap.size + 2) wr (((wr.setCell ⟨w.heap.size + 1, 0, none⟩ (.slice none 0 0)).setCell ⟨w.heap.size + 2, 0, none⟩ (errV aS)).drew) := ((Moves.setCell (.inl rfl)).trans (Moves.setCell (.inr rfl))).drew
            have hf9 : ∀ k, k < w2.heap.size → ¬ X k := fun k hk hx => by have := hIw.far k hx; omega
            have HQ : Hid (Moves (fun k => ¬ X k ∧ ¬ (k < w.heap.size ∨ k = w1.heap.size)) W1 (((wr.setCell ⟨w.heap.size + 1, 0, none⟩ (.slice none 0 0)).setCell ⟨w.heap.size + 2, 0, none⟩ (errV aS)).drew) ∧
                (Code.exit 0 = Code.exit 0 ∧ RngX w w2.heap.size aS X (((wr.setCell ⟨w.heap.size + 1, 0, none⟩ (.slice none 0 0)).setCell ⟨w.heap.size + 2, 0, none⟩ (errV aS)).drew) ∧ 600 < (tghF (saysF t) (256 * (pre ++ [(pre.length, b)]).length)).length)) := by
              refine Lib.hid ⟨HM.out.trans (m9.mono fun k hk => ⟨hf9 k (by omega), by omega⟩), rfl, ⟨hIw.far, ⟨by have := m9.size; omega, hsz.2⟩, Moves.below hIw.kept hIw.kept.size m9 (fun k hk => by omega), ?_, ?_⟩, ?_⟩
              · exact e9.set _
              · exact row_keep b9 ((Moves.setCell (S := fun k => k = w.heap.size + 2) rfl).drew) (by omega)
              · rw [HEND.out, HMM.out, HML.out]; exact hgt
            have e0 := hIw.eb.cell
            have e1 := hIw.eb.frozen
            have l1 := hbx.lt
            have l2 := hIw.eb.lt
            have hg1 : ¬ w.heap.size + 1 = 0 := by have := HG.out.ltS; omega
            have hg2 : ¬ 0 = w.heap.size + 1 := fun h => hg1 h.symm
            have hg3 : ¬ w.heap.size + 2 = 0 := by have := HG.out.ltS; omega
            have hg4 : ¬ 0 = w.heap.size + 2 := fun h => hg3 h.symm
            clear hIw hXw ho hnx hm hml2 hml hbx e9 b9 m9 hf9
            gi_wp2_with fail
            gi_region
            all_goals
              gi_wp2_with fail
              exact ⟨HQ.out.1, rfl, HQ.out.2.2⟩
          · have hgt2 : ¬ ((ml : Nat) : Int) > 600 := by omega
            clear hIw hXw ho hnx hm hml2 hml hbx
            gi_wp2
            refine ⟨HM.out, ?_⟩
            show RngI _ _ _ _ (tghF _ (256 * (pre ++ [(pre.length, b)]).length)) ∧ (tghF _ (256 * (pre ++ [(pre.length, b)]).length)).length ≤ 600
            rw [HEND.out]
            exact ⟨HI.out, by rw [HMM.out, HML.out]; exact hle⟩
    case done =>
      rintro X D W5 hD hXD ⟨hI, hlen⟩ hX hK
      obtain ⟨so, cap, hbx, ho, hnx⟩ := hI.mb
      have hn : 256 * (rowsZ t).length = 1114112 := by rw [rowsZ_len, HRT.out.1]
      rw [hn] at hbx ho hlen
      obtain ⟨m, hm⟩ : ∃ m, tghF (saysF t) 1114112 = m := ⟨_, rfl⟩
      rw [hm] at hbx ho hlen
      have k0 := hbx.cell
      have e0 := hI.eb.cell
      have hcap := own_cap ho
      have hR : rangesT t = (m, 0) := by unfold rangesT; rw [if_pos HRT.out, hm, if_pos hlen]
      have hfar := hI.far D hXD
      have HPP : Hid (∀ q, P (.returned (.tuple #[.slice so m.length m.length, .nilIface])) ((W5.drewN q).putObj D (.deferred none))) := by
        rw [← HP.out, hR]
        refine Lib.hid fun q => ?_
        have m1 : Moves (fun k => k = D) W5 ((W5.drewN q).putObj D (.deferred none)) := ((moves_drewN1 W5 q).mono fun k h => h.elim).trans (Moves.putObj rfl)
        refine ⟨so, _, rfl, Moves.below hI.kept hI.kept.size m1 (fun k hk => by omega), (at_own ho).moves m1 fun hp k hk e => ?_, .inl ⟨rfl, rfl⟩⟩
        subst e
        exact hnx k hk hXD
      have HK := Lib.hid hK
      obtain ⟨ml, hml⟩ : ∃ ml, m.length = ml := ⟨_, rfl⟩
      rw [hml] at k0 hcap HPP
      clear hI hbx ho hnx hn hm hR hlen hX hK hml HSEQ HI0
      gi_wp2_with fail
      refine wpIn_wide.2 ?_
      go_quiet (fail)
      gi_wp2
      simp only [Exit.jump]
      refine ⟨by simp, .inl ⟨_, _, rfl, run_takeDeferred (show (W5.drewN nq).heap[D]? = _ from HK.out), ?_⟩⟩
      exact ⟨_, results_tmp2 (t := 2) (u := 3) rfl _ _ _, HPP.out nq⟩
    case stop =>
      rintro X D c pre W5 hD hXD hpre ⟨rfl, hI, hlen⟩ hX hK
      have k0 := hI.mb.cell
      have e0 := hI.eb.cell
      have hpl := hpre.length_le
      rw [rowsZ_len, HRT.out.1] at hpl
      have hmore := tghF_more (saysF t) (n := 256 * pre.length) (k := 1114112 - 256 * pre.length)
      rw [show 256 * pre.length + (1114112 - 256 * pre.length) = 1114112 by omega] at hmore
      have hR : rangesT t = ([], 22) := by unfold rangesT; rw [if_pos HRT.out, if_neg (by omega)]
      have hfar := hI.far D hXD
      have HPP : Hid (∀ q, P (.returned (.tuple #[.slice none 0 0, errV aS])) ((W5.drewN q).putObj D (.deferred none))) := by
        rw [← HP.out, hR]
        refine Lib.hid fun q => ?_
        have m1 : Moves (fun k => k = D) W5 ((W5.drewN q).putObj D (.deferred none)) := ((moves_drewN1 W5 q).mono fun k h => h.elim).trans (Moves.putObj rfl)
        exact ⟨none, _, rfl, Moves.below hI.kept hI.kept.size m1 (fun k hk => by omega), fun h => absurd h (Nat.lt_irrefl 0), .inr (.inl ⟨rfl, rfl⟩)⟩
      have HK := Lib.hid hK
      clear hI hR hlen hX hK hpl hmore hpre HSEQ HI0
      gi_wp2_with fail
      refine wpIn_wide.2 ?_
      go_quiet (fail)
      gi_wp2
      simp only [Exit.jump]
      refine ⟨by simp, .inl ⟨_, _, rfl, run_takeDeferred (show (W5.drewN nq).heap[D]? = _ from HK.out), ?_⟩⟩
      exact ⟨_, results_tmp2 (t := 2) (u := 3) rfl _ _ _, HPP.out nq⟩
end Go.Proofs.YtlmkefmfhdjmmaaDoor

namespace Go.Proofs.YtlmkefmfhdjmmaaDoor
open Go.RowKit Go.Shelf Go.Maps
attribute [local go_sem] Oper.semAt_some

set_option maxHeartbeats 2000000 in
theorem equalFuncT_any (o p : Option Addr) (l m : List (List Int)) (c d : Nat) (hl : l.length ≤ 1000000) (hbb : ∀ b ∈ l, b.length ≤ 1000000) (w : World) (hA : BlksT w o l) (hB : BlksT w p m) :
    Calls Tryd.prog 38 #[.slice o l.length c, .slice p m.length d, .func (.func 37) #[] #[]] w fun e w' => e = .returned (.bool (decide (l = m))) ∧ ∃ q, w' = w.drewN q := by
  obtain ⟨P, hP⟩ : ∃ P, (fun (e : Ending) (w' : World) => e = .returned (.bool (decide (l = m))) ∧ ∃ q, w' = w.drewN q) = P := ⟨_, rfl⟩
  have HP := Lib.hid hP
  rw [hP]
  obtain ⟨n, hnn⟩ : ∃ n, l.length = n := ⟨_, rfl⟩
  obtain ⟨k, hkk⟩ : ∃ n, m.length = n := ⟨_, rfl⟩
  have HN := Lib.hid hnn
  have HK := Lib.hid hkk
  have HA := Lib.hid hA
  have HB := Lib.hid hB
  have HBB := Lib.hid hbb
  rw [hnn] at hl ⊢
  rw [hkk]
  have ANS : Hid (∀ b, decide (l = m) = b → ∀ q, P (.returned (.bool b)) (w.drewN q)) := by
    rw [← HP.out]
    exact Lib.hid fun b h q => ⟨by rw [h], q, rfl⟩
  clear hP hnn hkk hA hB hbb
  go_enter Tryd.func38, Tryd.ntmps38
  by_cases hnk : n = k
  · subst hnk
    go_wp2_with fail
    go_loopg [17] n (fun d v wr => ∃ j q : Nat, v = .int .i64 (j : Nat) ∧ j ≤ n ∧ n - j = d ∧ Hid (l.take j = m.take j) ∧ wr = w.drewN q)
    case atStart => exact ⟨0, 0, rfl, Nat.zero_le _, rfl, Lib.hid rfl, rfl⟩
    case round =>
      obtain ⟨j, q, rfl, hj, rfl, HT, rfl⟩ := hrel
      have hwj : IntKind.i64.wrap (((j : Nat) : Int) + 1) = (j : Nat) + 1 := wrap_id (by omega) (by omega)
      rcases Nat.lt_or_ge j n with hlt | hge
      · have hj1 : j < 1000000 := by omega
        obtain ⟨x, hx⟩ : ∃ x, l[j]? = some x := ⟨_, List.getElem?_eq_getElem (by rw [HN.out]; exact hlt)⟩
        obtain ⟨y, hy⟩ : ∃ x, m[j]? = some x := ⟨_, List.getElem?_eq_getElem (by rw [HK.out]; exact hlt)⟩
        obtain ⟨g, off, rfl, hc⟩ := HA.out (by rw [HN.out]; omega)
        obtain ⟨g', off', rfl, hc'⟩ := HB.out (by rw [HK.out]; omega)
        obtain ⟨so, sc, k0, _, i0⟩ := hc j x hx
        obtain ⟨to, tc, k1, _, i1⟩ := hc' j y hy
        have hg := World.block_lt_of_cell? w _ k0
        have hg' := World.block_lt_of_cell? w _ k1
        have bq : Below w.heap.size w (w.drewN q) := below_drewN1 _ _
        have CALL := equalT_any so to x y sc tc (HBB.out x (List.mem_of_getElem? hx)) (w.drewN q) (i0.below bq) (i1.below bq)
        obtain ⟨xl, hxl⟩ : ∃ n, x.length = n := ⟨_, rfl⟩
        obtain ⟨yl, hyl⟩ : ∃ n, y.length = n := ⟨_, rfl⟩
        rw [hxl, hyl] at CALL
        rw [hxl] at k0
        rw [hyl] at k1
        by_cases hxy : x = y
        · have HT2 : Hid (l.take (j + 1) = m.take (j + 1)) := Lib.hid (by rw [List.take_add_one, List.take_add_one, HT.out, hx, hy, hxy])
          rw [decide_eq_true hxy] at CALL
          have HCALL := Lib.hid CALL
          clear hc hc' hx hy ANS hxy CALL i0 i1 hxl hyl bq
          go_wp2_with fail
          refine HCALL.out.mono ?_
          rintro e w' ⟨rfl, q2, rfl⟩
          go_wp2
          go_roundg (n - (j + 1))
          case measure => omega
          case rel => exact ⟨j + 1, q + q2, by simp, by omega, rfl, HT2, (World.drewN_drewN w q q2).symm ▸ rfl⟩
        · have HQ := Lib.hid (ANS.out false (decide_eq_false fun h => hxy (by rw [h, hy] at hx; exact (Option.some.inj hx).symm)))
          rw [decide_eq_false hxy] at CALL
          have HCALL := Lib.hid CALL
          clear hc hc' hx hy ANS hxy CALL i0 i1 hxl hyl bq
          go_wp2_with fail
          refine HCALL.out.mono ?_
          rintro e w' ⟨rfl, q2, rfl⟩
          go_wp2
          exact (World.drewN_drewN w q q2).symm ▸ HQ.out (q + q2)
      · obtain rfl : j = n := by omega
        have hT := HT.out
        rw [List.take_of_length_le (by rw [HN.out]; exact Nat.le_refl _), List.take_of_length_le (by rw [HK.out]; exact Nat.le_refl _)] at hT
        have HQ := Lib.hid (ANS.out true (decide_eq_true hT) q)
        clear hT HT ANS
        go_wp2
        exact HQ.out
  · have HQ := Lib.hid (ANS.out false (decide_eq_false fun h => hnk (by rw [← HN.out, h, HK.out])) 0)
    have hb : (((n : Nat) : Int) != ((k : Nat) : Int)) = true := by simp; omega
    clear ANS
    go_wp2_with fail
    exact HQ.out
theorem TrieT.drewN {w : World} {io bo : Option Addr} {t : TrieD} (h : TrieT w io bo t) (q : Nat) : TrieT (w.drewN q) io bo t := h.below (below_drewN1 _ _)
set_option maxRecDepth 100000 in
set_option maxHeartbeats 2000000 in
theorem SameT_any (io bo jo co : Option Addr) (s t : TrieD) (ic bc jc cc : Nat) (hi : s.1.length ≤ 1000000) (hb : s.2.length ≤ 1000000) (hbb : ∀ b ∈ s.2, b.length ≤ 1000000) (w : World) (hA : TrieT w io bo s) (hB : TrieT w jo co t) :
    Calls Tryd.prog 24 #[trieV io s.1.length ic bo s.2.length bc, trieV jo t.1.length jc co t.2.length cc] w fun e w' => e = .returned (.bool (decide (s = t))) ∧ Below w.heap.size w w' := by
  obtain ⟨P, hP⟩ : ∃ P, (fun (e : Ending) (w' : World) => e = .returned (.bool (decide (s = t))) ∧ Below w.heap.size w w') = P := ⟨_, rfl⟩
  have HP := Lib.hid hP
  rw [hP]
  obtain ⟨W, hW⟩ : ∃ W, (w.alloc (trieO io s.1.length ic bo s.2.length bc)).alloc (trieO jo t.1.length jc co t.2.length cc) = W := ⟨_, rfl⟩
  have A1 : Below w.heap.size w W := by rw [← hW]; exact ((Below.refl _ _).alloc (Nat.le_refl _) _).alloc (by simp) _
  have r0 : W.heap[w.heap.size]? = some (trieO io s.1.length ic bo s.2.length bc) := by rw [← hW, Below.heap_alloc _ _ _ (by simp)]; exact heap_alloc_new _ _
  have r1 : W.heap[w.heap.size + 1]? = some (trieO jo t.1.length jc co t.2.length cc) := by
    rw [← hW]
    have := heap_alloc_new (w.alloc (trieO io s.1.length ic bo s.2.length bc)) (trieO jo t.1.length jc co t.2.length cc)
    rwa [World.size_alloc] at this
  have hA1 := hA.below A1
  have hB1 := hB.below A1
  have HC1 := Lib.hid (equalT_any io jo s.1 t.1 ic jc hi W hA1.ix hB1.ix)
  have HC2 := Lib.hid (fun q => equalFuncT_any bo co s.2 t.2 bc cc hb hbb (W.drewN q) (hA1.drewN q).bl (hB1.drewN q).bl)
  have HE : Hid (decide (s = t) = (decide (s.1 = t.1) && decide (s.2 = t.2))) := Lib.hid (by
    by_cases e1 : s.1 = t.1 <;> by_cases e2 : s.2 = t.2 <;> simp [Prod.ext_iff, e1, e2])
  obtain ⟨d1, hd1⟩ : ∃ d, decide (s.1 = t.1) = d := ⟨_, rfl⟩
  obtain ⟨d2, hd2⟩ : ∃ d, decide (s.2 = t.2) = d := ⟨_, rfl⟩
  rw [hd1, hd2] at HE
  rw [hd1] at HC1
  rw [hd2] at HC2
  obtain ⟨n1, h1⟩ : ∃ n, s.1.length = n := ⟨_, rfl⟩
  obtain ⟨n2, h2⟩ : ∃ n, s.2.length = n := ⟨_, rfl⟩
  obtain ⟨m1, h3⟩ : ∃ n, t.1.length = n := ⟨_, rfl⟩
  obtain ⟨m2, h4⟩ : ∃ n, t.2.length = n := ⟨_, rfl⟩
  rw [h1, h2] at r0 hW ⊢
  rw [h3, h4] at r1 hW ⊢
  rw [h1, h3] at HC1
  rw [h2, h4] at HC2
  have c0 : W.cell? ⟨w.heap.size, 0, none⟩ = some (.slice io n1 ic) := by rw [cell_of_row _ _ 0 _ _ _ r0]; rfl
  have c1 : W.cell? ⟨w.heap.size, 1, none⟩ = some (.slice bo n2 bc) := by rw [cell_of_row _ _ 1 _ _ _ r0]; rfl
  have c2 : W.cell? ⟨w.heap.size + 1, 0, none⟩ = some (.slice jo m1 jc) := by rw [cell_of_row _ _ 0 _ _ _ r1]; rfl
  have c3 : W.cell? ⟨w.heap.size + 1, 1, none⟩ = some (.slice co m2 cc) := by rw [cell_of_row _ _ 1 _ _ _ r1]; rfl
  have l0 := World.block_lt_of_cell? _ _ c0
  have l1 := World.block_lt_of_cell? _ _ c2
  have HPP : Hid (∀ q, P (.returned (.bool (d1 && d2))) (W.drewN q)) := by
    rw [← HP.out, ← HE.out]
    exact Lib.hid fun q => ⟨rfl, A1.trans ((below_drewN1 W q).mono A1.size)⟩
  have HWW := Lib.hid hW
  clear hP hW A1 r0 r1 hA hB hA1 hB1 hd1 hd2 h1 h2 h3 h4 hi hb hbb HE
  go_enter Tryd.func24, Tryd.ntmps24
  go_wp2_with fail
  rw [HWW.out]
  refine HC1.out.mono ?_
  rintro e w1 ⟨rfl, q, rfl⟩
  cases d1 with
  | false =>
    have HQ := Lib.hid (HPP.out q)
    clear HPP HC2
    go_wp2_with fail
    exact HQ.out
  | true =>
    have HC3 := Lib.hid (HC2.out q)
    clear HC2
    go_wp2_with fail
    refine HC3.out.mono ?_
    rintro e w1 ⟨rfl, q2, rfl⟩
    have HQ := Lib.hid (HPP.out (q + q2))
    rw [Bool.true_and] at HQ
    clear HPP
    go_wp2_with fail
    exact HQ.out
/-- What Ranges answers. -/
def RngsR (R : List Rng × Int) (w : World) (e : Ending) (w' : World) : Prop := ∃ o, e = .returned (.tuple #[.slice o R.1.length R.1.length, .int .i64 R.2]) ∧ Below w.heap.size w w' ∧ AtR w' o R.1
set_option maxRecDepth 100000 in
set_option maxHeartbeats 2000000 in
theorem Ranges_anyT (io bo : Option Addr) (t : TrieD) (ic bc : Nat) (hi : t.1.length ≤ 1000000) (hb : t.2.length ≤ 1000000) (hbb : ∀ b ∈ t.2, b.length ≤ 1000000) (w : World) {aU aS : Addr} (hG : Glob w aU aS) (hA : TrieT w io bo t) :
    Calls Tryd.prog 17 #[trieV io t.1.length ic bo t.2.length bc] w (RngsR (rangesT t) w) := by
  obtain ⟨P, hP⟩ : ∃ P, RngsR (rangesT t) w = P := ⟨_, rfl⟩
  have HP := Lib.hid hP
  rw [hP]
  obtain ⟨W, hW⟩ : ∃ W, w.alloc (trieO io t.1.length ic bo t.2.length bc) = W := ⟨_, rfl⟩
  have A1 : Below w.heap.size w W := by rw [← hW]; exact (Below.refl _ _).alloc (Nat.le_refl _) _
  have r0 : W.heap[w.heap.size]? = some (trieO io t.1.length ic bo t.2.length bc) := by rw [← hW]; exact heap_alloc_new _ _
  have HC1 := Lib.hid (ranges_anyT io bo t ic bc hi hb hbb W (hG.below A1) (hA.below A1))
  obtain ⟨n, hn⟩ : ∃ n, t.1.length = n := ⟨_, rfl⟩
  obtain ⟨q, hq⟩ : ∃ n, t.2.length = n := ⟨_, rfl⟩
  rw [hn, hq] at HC1 r0 hW ⊢
  have c0 : W.cell? ⟨w.heap.size, 0, none⟩ = some (.slice io n ic) := by rw [cell_of_row _ _ 0 _ _ _ r0]; rfl
  have c1 : W.cell? ⟨w.heap.size, 1, none⟩ = some (.slice bo q bc) := by rw [cell_of_row _ _ 1 _ _ _ r0]; rfl
  have hw0 := World.block_lt_of_cell? _ _ c0
  have HA1 := Lib.hid A1
  have HW := Lib.hid hW
  have HG := Lib.hid hG
  clear hP hW A1 r0 hn hq hA hb hbb hi hG
  go_enter Tryd.func17, Tryd.ntmps17
  go_wp2_with fail
  rw [HW.out]
  refine HC1.out.mono ?_
  rintro e w1 ⟨o, ev, rfl, b1, hat, hev⟩
  obtain ⟨R, hR⟩ : ∃ R, rangesT t = R := ⟨_, rfl⟩
  rw [hR] at hat hev HP ⊢
  have B1 := HA1.out.trans (b1.mono HA1.out.size)
  have HNUM := Lib.hid (number_err hev (HG.out.below B1))
  have HPP : Hid (P (.returned (.tuple #[.slice o R.1.length R.1.length, .int .i64 R.2])) w1) := by
    rw [← HP.out]
    exact Lib.hid ⟨o, rfl, B1, hat⟩
  obtain ⟨m, hm⟩ : ∃ n, R.1.length = n := ⟨_, rfl⟩
  obtain ⟨c, hc⟩ : ∃ n, R.2 = n := ⟨_, rfl⟩
  rw [hm, hc] at HPP
  rw [hm]
  rw [hc] at HNUM
  clear hat hev b1 B1 hm hc hR HC1
  go_wp2_with fail
  refine HNUM.out.mono ?_
  rintro e w2 ⟨rfl, rfl⟩
  go_wp2_with fail
  exact HPP.out
end Go.Proofs.YtlmkefmfhdjmmaaDoor

namespace Go.Proofs.YtlmkefmfhdjmmaaDoor
open Go.RowKit Go.Shelf Go.Maps
attribute [local go_sem] Oper.semAt_some

set_option maxRecDepth 100000 in
set_option maxHeartbeats 4000000 in
theorem shownT_any (w : World) {aU aS : Addr} (hG : Glob w aU aS) :
    Calls Tryd.prog 9 #[] w fun e w' => e = .returned (.bool true) ∧ Below w.heap.size w w' := by
  obtain ⟨P, hP⟩ : ∃ P, (fun (e : Ending) (w' : World) => e = .returned (.bool true) ∧ Below w.heap.size w w') = P := ⟨_, rfl⟩
  have HP := Lib.hid hP
  rw [hP]
  obtain ⟨wa, hwa⟩ : ∃ wa, w.alloc (.cells #[.int .i64 768, .int .i64 879, .int .i64 1] 49) = wa := ⟨_, rfl⟩
  have ba : Below w.heap.size w wa := by rw [← hwa]; exact (Below.refl _ _).alloc (Nat.le_refl _) _
  have a1 : AtR wa (some ⟨w.heap.size, 0, none⟩) exL := by rw [← hwa]; exact at_lit w exL _ (by decide) rfl rfl
  have HC1 := Lib.hid (Build_any (some ⟨w.heap.size, 0, none⟩) exL 1 (by decide) (by decide) wa (hG.below ba) a1)
  have HBA := Lib.hid ba
  have HWA := Lib.hid hwa
  have HG := Lib.hid hG
  clear hP hwa ba a1 hG
  go_enter Tryd.func9, Tryd.ntmps9
  go_wp2_with fail
  rw [HWA.out]
  refine HC1.out.mono ?_
  rintro e w1 ⟨v, rfl, hE⟩
  obtain ⟨T, hTe, hl1, hl2, ht3, ht4, hfit, hv1, hv2, hrg⟩ := ex_facts
  rw [hTe] at hE ⊢
  obtain ⟨b1, io, bo, rfl, ht⟩ := hE
  have hT1 := ht w1 (Moves.refl _ _)
  have B1 := HBA.out.trans (b1.mono HBA.out.size)
  simp only [hl1, hl2]
  obtain ⟨w2, hw2⟩ : ∃ w2, w1.alloc (trieO io 4352 4352 bo 2 2) = w2 := ⟨_, rfl⟩
  have b2 : Below w1.heap.size w1 w2 := by rw [← hw2]; exact (Below.refl _ _).alloc (Nat.le_refl _) _
  have r2 : w2.heap[w1.heap.size]? = some (trieO io 4352 4352 bo 2 2) := by rw [← hw2]; exact heap_alloc_new _ _
  have B2 := B1.trans (b2.mono B1.size)
  have hT2 := hT1.below b2
  have CR := Ranges_anyT io bo T 4352 2 (by omega) (by omega) hfit w2 (HG.out.below B2) hT2
  rw [hrg, hl1, hl2] at CR
  have HCR := Lib.hid CR
  have HB2 := Lib.hid B2
  have HT2 := Lib.hid hT2
  have HW2 := Lib.hid hw2
  have HR2 := Lib.hid r2
  have HFIT := Lib.hid hfit
  have HL1 := Lib.hid hl1
  have HL2 := Lib.hid hl2
  have HT3 := Lib.hid ht3
  have HT4 := Lib.hid ht4
  have HV1 := Lib.hid hv1
  have HV2 := Lib.hid hv2
  have u0 : w2.cell? ⟨w1.heap.size, 0, none⟩ = some (.slice io 4352 4352) := by rw [cell_of_row _ _ 0 _ _ _ r2]; rfl
  have u1 : w2.cell? ⟨w1.heap.size, 1, none⟩ = some (.slice bo 2 2) := by rw [cell_of_row _ _ 1 _ _ _ r2]; rfl
  clear ht hT1 B1 b1 hw2 b2 r2 hT2 hfit CR hl1 hl2 B2 HC1 ht3 ht4 hv1 hv2 hrg hTe
  go_wp2_with fail
  rw [HW2.out]
  go_wp2_with fail
  refine HCR.out.mono ?_
  rintro e w3 ⟨o3, rfl, b3, at3⟩
  have HB3 := Lib.hid (HB2.out.trans (b3.mono HB2.out.size))
  have HD3 := Lib.hid b3
  have HAT3 := Lib.hid at3
  obtain ⟨w4, hw4⟩ : ∃ w4, w3.alloc (.cells #[.int .i64 2, .int .i64 1, .int .i64 0] 49) = w4 := ⟨_, rfl⟩
  have b4 : Below w3.heap.size w3 w4 := by rw [← hw4]; exact (Below.refl _ _).alloc (Nat.le_refl _) _
  have a4 : AtR w4 (some ⟨w3.heap.size, 0, none⟩) [(2, 1, 0)] := by rw [← hw4]; exact at_lit w3 [(2, 1, 0)] _ (by decide) rfl rfl
  have HB4 := Lib.hid (HB3.out.trans (b4.mono HB3.out.size))
  have HD4 := Lib.hid (HD3.out.trans (b4.mono HD3.out.size))
  have CB := Build_any (some ⟨w3.heap.size, 0, none⟩) [(2, 1, 0)] 1 (by decide) (by decide) w4 (HG.out.below HB4.out) a4
  rw [ex2_bad] at CB
  have HCB := Lib.hid CB
  have HW4 := Lib.hid hw4
  have HE4 := Lib.hid b4
  rw [show exL.length = 1 from rfl]
  clear b3 at3 hw4 b4 a4 CB HCR HB3
  go_wp2_with fail
  rw [HW4.out]
  refine HCB.out.mono ?_
  rintro e w5 ⟨v, rfl, hE⟩
  obtain ⟨b5, io5, bo5, rfl, _⟩ := hE
  have HB5 := Lib.hid (HB4.out.trans (b5.mono HB4.out.size))
  have HD5 := Lib.hid (HD4.out.trans (b5.mono HD4.out.size))
  obtain ⟨w6, hw6⟩ : ∃ w6, w5.alloc (trieO io5 0 0 bo5 0 0) = w6 := ⟨_, rfl⟩
  have b6 : Below w5.heap.size w5 w6 := by rw [← hw6]; exact (Below.refl _ _).alloc (Nat.le_refl _) _
  have HB6 := Lib.hid (HB5.out.trans (b6.mono HB5.out.size))
  have HD6 := Lib.hid (HD5.out.trans (b6.mono HD5.out.size))
  have HAT6 := Lib.hid (HAT3.out.below (HE4.out.trans ((b5.trans (b6.mono b5.size)).mono HE4.out.size)))
  have HT6 := Lib.hid (HT2.out.below HD6.out)
  have v0 := cell_keepT HD6.out u0
  have v1 := cell_keepT HD6.out u1
  obtain ⟨gi, oi, rfl, hci⟩ := HT6.out.ix (by rw [HL1.out]; omega)
  have k3 := hci 3 1 HT3.out
  have k4 := hci 4 0 HT4.out
  have CV1 := value_any (some ⟨gi, oi, none⟩) bo T 4352 2 879 (by rw [HL1.out]; omega) (by rw [HL2.out]; omega) HFIT.out w6 HT6.out
  rw [HL1.out, HL2.out, HV1.out] at CV1
  have HCV1 := Lib.hid CV1
  have HW6 := Lib.hid hw6
  have l1 := World.block_lt_of_cell? _ _ v0
  have l2 := World.block_lt_of_cell? _ _ k3
  have HK := Lib.hid (show w6.cell? ⟨w1.heap.size, 0, none⟩ = some (.slice (some ⟨gi, oi, none⟩) 4352 4352) ∧ w6.cell? ⟨w1.heap.size, 1, none⟩ = some (.slice bo 2 2) ∧ w1.heap.size < w6.heap.size from ⟨v0, v1, l1⟩)
  rw [← hw6] at v0 v1 k3 k4 l1 l2
  clear b5 hw6 b6 CV1 hci HCB HB5 HD5 u0 u1
  go_wp2_with fail
  rw [HW6.out]
  refine HCV1.out.mono ?_
  rintro e w7 ⟨rfl, b7⟩
  obtain ⟨x0, x1, _⟩ := HK.out
  have y0 := cell_keepT b7 x0
  have y1 := cell_keepT b7 x1
  have y2 := World.block_lt_of_cell? _ _ y0
  have CV2 := value_any (some ⟨gi, oi, none⟩) bo T 4352 2 880 (by rw [HL1.out]; omega) (by rw [HL2.out]; omega) HFIT.out w7 (HT6.out.below b7)
  rw [HL1.out, HL2.out, HV2.out] at CV2
  have HCV2 := Lib.hid CV2
  have HB7 := Lib.hid (HB6.out.trans (b7.mono HB6.out.size))
  have HAT7 := Lib.hid (HAT6.out.below b7)
  clear CV2 b7 x0 x1 v0 v1 k3 k4 l1 l2 HCV1
  go_wp2_with fail
  refine HCV2.out.mono ?_
  rintro e w8 ⟨rfl, b8⟩
  have HB8 := Lib.hid (HB7.out.trans (b8.mono HB7.out.size))
  have HAT8 := Lib.hid (HAT7.out.below b8)
  obtain ⟨w9, hw9⟩ : ∃ w9, w8.alloc (.cells #[.int .i64 768, .int .i64 879, .int .i64 1] 49) = w9 := ⟨_, rfl⟩
  have b9 : Below w8.heap.size w8 w9 := by rw [← hw9]; exact (Below.refl _ _).alloc (Nat.le_refl _) _
  have a9 : AtR w9 (some ⟨w8.heap.size, 0, none⟩) exL := by rw [← hw9]; exact at_lit w8 exL _ (by decide) rfl rfl
  have HRS := Lib.hid ((refSame_any o3 (some ⟨w8.heap.size, 0, none⟩) exL exL 1 1 (by decide) w9 (HAT8.out.below b9) a9).mono fun e w' h => (⟨h.1.trans (by simp), h.2⟩ : e = .returned (.bool true) ∧ Below w9.heap.size w9 w'))
  rw [show exL.length = 1 from rfl] at HRS
  have HB9 := Lib.hid (HB8.out.trans (b9.mono HB8.out.size))
  have HW9 := Lib.hid hw9
  clear b8 hw9 b9 a9 HCV2 y0 y1 y2
  go_wp2_with fail
  rw [HW9.out]
  refine HRS.out.mono ?_
  rintro e w10 ⟨rfl, b10⟩
  have HPP : Hid (P (.returned (.bool true)) w10) := by
    rw [← HP.out]
    exact Lib.hid ⟨rfl, HB9.out.trans (b10.mono HB9.out.size)⟩
  clear b10
  go_wp2_with fail
  exact HPP.out
end Go.Proofs.YtlmkefmfhdjmmaaDoor

namespace Go.Proofs.YtlmkefmfhdjmmaaDoor
open Go.RowKit Go.Shelf Go.Maps
attribute [local go_sem] Oper.semAt_some

theorem buildR_of (A : List Rng) : (¬ rightL A ∧ buildR A = (([], []), 22)) ∨ (rightL A ∧ ∃ T, buildT A = T ∧ buildR A = (T, 0) ∧ rightT T ∧ T.1.length = 4352 ∧ T.2.length ≤ 1000000 ∧ ∀ b ∈ T.2, b.length ≤ 1000000) := by
  by_cases h : rightL A
  · refine .inr ⟨h, _, rfl, by unfold buildR; rw [if_pos h], buildT_right h.1, (buildT_right h.1).1, ?_, fun b hb => by rw [((buildT_right h.1).2.2 b hb).2]; omega⟩
    have := leastT_le ((List.range 4352).map (rowM A))
    rw [List.length_map, List.length_range] at this
    unfold buildT
    omega
  · exact .inl ⟨h, by unfold buildR; rw [if_neg h]⟩
/-- A trie that Build answered, in a cell. -/
theorem trie_box {T : TrieD} {c : Int} {w w1 : World} {e : Ending} (h : TrieR (T, c) w e w1) : ∃ io bo, e = .returned (.tuple #[trieV io T.1.length T.1.length bo T.2.length T.2.length, .int .i64 c]) ∧ Below w.heap.size w w1 ∧ TrieT w1 io bo T := by
  obtain ⟨v, rfl, hb, io, bo, rfl, ht⟩ := h
  exact ⟨io, bo, rfl, hb, ht w1 (Moves.refl _ _)⟩
theorem box_at {w1 w2 : World} {io bo : Option Addr} {n m : Nat} (h : w1.alloc (trieO io n n bo m m) = w2) : Below w1.heap.size w1 w2 ∧ w2.cell? ⟨w1.heap.size, 0, none⟩ = some (.slice io n n) ∧ w2.cell? ⟨w1.heap.size, 1, none⟩ = some (.slice bo m m) ∧ w1.heap.size < w2.heap.size := by
  have r2 : w2.heap[w1.heap.size]? = some (trieO io n n bo m m) := by rw [← h]; exact heap_alloc_new _ _
  have u0 : w2.cell? ⟨w1.heap.size, 0, none⟩ = some (.slice io n n) := by rw [cell_of_row _ _ 0 _ _ _ r2]; rfl
  exact ⟨by rw [← h]; exact (Below.refl _ _).alloc (Nat.le_refl _) _, u0, by rw [cell_of_row _ _ 1 _ _ _ r2]; rfl, World.block_lt_of_cell? _ _ u0⟩
set_option maxRecDepth 100000 in
set_option maxHeartbeats 4000000 in
theorem two_anyT (o o2 : Option Addr) (l l2 : List Rng) (cap cap2 : Nat) (hc : l.length ≤ cap) (hc2 : l2.length ≤ cap2) (w : World) (hA : AtR w o l) (hA2 : AtR w o2 l2) {aU aS : Addr} (hG : Glob w aU aS) :
    Calls Tryd.prog 8 #[.slice o l.length cap, .slice o2 l2.length cap2] w fun e w' => e = .returned (.bool true) ∧ Below w.heap.size w w' := by
  have HS := Lib.hid (shownT_any w hG)
  have F1 := Lib.hid (few20_any o l cap hc)
  have F2 := Lib.hid (few20_any o2 l2 cap2 hc2)
  have HA := Lib.hid (hA.take 20)
  have HA2 := Lib.hid (hA2.take 20)
  have la : (l.take 20).length ≤ 20 ∧ (l.take 20).length ≤ cap := by rw [List.length_take]; omega
  have lb : (l2.take 20).length ≤ 20 ∧ (l2.take 20).length ≤ cap2 := by rw [List.length_take]; omega
  obtain ⟨na, hna⟩ : ∃ n, l.length = n := ⟨_, rfl⟩
  obtain ⟨nb, hnb⟩ : ∃ n, l2.length = n := ⟨_, rfl⟩
  rw [hna] at F1 ⊢
  rw [hnb] at F2 ⊢
  obtain ⟨A, hAA⟩ : ∃ A, l.take 20 = A := ⟨_, rfl⟩
  obtain ⟨B, hBB⟩ : ∃ A, l2.take 20 = A := ⟨_, rfl⟩
  rw [hAA] at F1 HA la
  rw [hBB] at F2 HA2 lb
  have HG := Lib.hid hG
  have CA := Lib.hid (fun W (bb : Below w.heap.size w W) => Build_any o A cap (by omega) la.2 W (HG.out.below bb) (HA.out.below bb))
  have CB := Lib.hid (fun W (bb : Below w.heap.size w W) => Build_any o2 B cap2 (by omega) lb.2 W (HG.out.below bb) (HA2.out.below bb))
  obtain ⟨P, hP⟩ : ∃ P, (fun (e : Ending) w' => e = .returned (.bool true) ∧ Below w.heap.size w w') = P := ⟨_, rfl⟩
  have HP := Lib.hid hP
  rw [hP]
  have HLA := Lib.hid la
  have HLB := Lib.hid lb
  clear hA hA2 hc hc2 hna hnb hAA hBB hG hP la lb
  go_enter Tryd.func8, Tryd.ntmps8
  go_wp2_with fail
  refine HS.out.mono ?_
  rintro e w1 ⟨rfl, b1⟩
  have B1 := Lib.hid b1
  clear b1 HS
  go_wp2_with fail
  refine (F1.out w1).mono ?_
  rintro e w1' ⟨rfl, rfl⟩
  have CA1 := Lib.hid (CA.out w1 B1.out)
  obtain ⟨ka, hka⟩ : ∃ n, A.length = n := ⟨_, rfl⟩
  rw [hka] at CA1 ⊢
  clear F1 CA
  go_wp2_with fail
  refine CA1.out.mono ?_
  rintro e w2 h
  rcases buildR_of A with ⟨hn, hR⟩ | ⟨rA, T, hTA, hR, hrT, hT1, hT2, hT3⟩
  · rw [hR] at h
    obtain ⟨io, bo, rfl, b2, _⟩ := trie_box h
    have B2 := Lib.hid (B1.out.trans (b2.mono B1.out.size))
    simp only [List.length_nil]
    obtain ⟨w3, hw3⟩ : ∃ w3, w2.alloc (trieO io 0 0 bo 0 0) = w3 := ⟨_, rfl⟩
    have B3 := Lib.hid (B2.out.trans ((box_at hw3).1.mono B2.out.size))
    have HW3 := Lib.hid hw3
    have CB1 := Lib.hid (CB.out w3 B3.out)
    obtain ⟨kb, hkb⟩ : ∃ n, B.length = n := ⟨_, rfl⟩
    rw [hkb] at CB1 F2
    clear h b2 hw3 hR hn CB CA1
    go_wp2_with fail
    rw [HW3.out]
    refine (F2.out w3).mono ?_
    rintro e w3' ⟨rfl, rfl⟩
    go_wp2_with fail
    refine CB1.out.mono ?_
    rintro e w4 h
    obtain ⟨v, rfl, hE⟩ := h
    obtain ⟨b4, io4, bo4, rfl, _⟩ := hE
    obtain ⟨p, hp⟩ : ∃ n, (buildR B).1.1.length = n := ⟨_, rfl⟩
    obtain ⟨q, hq⟩ : ∃ n, (buildR B).1.2.length = n := ⟨_, rfl⟩
    obtain ⟨c, hcc⟩ : ∃ n, (buildR B).2 = n := ⟨_, rfl⟩
    rw [hp, hq, hcc]
    have HPP : Hid (P (.returned (.bool true)) (w4.alloc (trieO io4 p p bo4 q q))) := by
      rw [← HP.out]
      exact Lib.hid ⟨rfl, (B3.out.trans (b4.mono B3.out.size)).alloc (B3.out.trans (b4.mono B3.out.size)).size _⟩
    clear b4 hp hq hcc
    go_wp2_with fail
    exact HPP.out
  · rw [hR] at h
    obtain ⟨io, bo, rfl, b2, ht⟩ := trie_box h
    have B2 := Lib.hid (B1.out.trans (b2.mono B1.out.size))
    obtain ⟨n1, h1⟩ : ∃ n, T.1.length = n := ⟨_, rfl⟩
    obtain ⟨n2, h2⟩ : ∃ n, T.2.length = n := ⟨_, rfl⟩
    simp only [h1, h2]
    obtain ⟨w3, hw3⟩ : ∃ w3, w2.alloc (trieO io n1 n1 bo n2 n2) = w3 := ⟨_, rfl⟩
    obtain ⟨b3, u0, u1, u2⟩ := box_at hw3
    have B3 := Lib.hid (B2.out.trans (b3.mono B2.out.size))
    have HT3 := Lib.hid (ht.below b3)
    have HW3 := Lib.hid hw3
    have CB1 := Lib.hid (CB.out w3 B3.out)
    have HRG := Lib.hid (fun W (bb : Below w3.heap.size w3 W) => Ranges_anyT io bo T n1 n2 (by omega) hT2 hT3 W (HG.out.below (B3.out.trans (bb.mono B3.out.size))) (HT3.out.below bb))
    have HSM := Lib.hid (fun W (bb : Below w3.heap.size w3 W) (jo co : Option Addr) (t : TrieD) (jc cc : Nat) (hB : TrieT W jo co t) => SameT_any io bo jo co T t n1 n2 jc cc (by omega) hT2 hT3 W (HT3.out.below bb) hB)
    rw [show rangesT T = (tghF (sayF A) 1114112, 0) from by rw [← hTA]; exact rangesT_build rA.1 (by have := HLA.out; omega)] at HRG
    rw [h1, h2] at HRG HSM
    obtain ⟨MA, hMA⟩ : ∃ M, tghF (sayF A) 1114112 = M := ⟨_, rfl⟩
    rw [hMA] at HRG
    have hMAl : MA.length ≤ 1000 := by rw [← hMA]; have := tgh_length rA.1; have := HLA.out; omega
    obtain ⟨kb, hkb⟩ : ∃ n, B.length = n := ⟨_, rfl⟩
    rw [hkb] at CB1 F2
    have HRA := Lib.hid rA
    have HTA := Lib.hid hTA
    have HMA := Lib.hid hMA
    have HHL := Lib.hid hMAl
    clear h b2 hw3 hR CB CA1 hT1 hT2 hT3 h1 h2 b3 ht rA hTA hMA hMAl hrT
    go_wp2_with fail
    rw [HW3.out]
    refine (F2.out w3).mono ?_
    rintro e w3' ⟨rfl, rfl⟩
    go_wp2_with fail
    refine CB1.out.mono ?_
    rintro e w4 h
    rcases buildR_of B with ⟨hn, hR⟩ | ⟨rB, T2, hTB, hR, hrT, hT1, hT2, hT3⟩
    · rw [hR] at h
      obtain ⟨io4, bo4, rfl, b4, _⟩ := trie_box h
      simp only [List.length_nil]
      have HPP : Hid (P (.returned (.bool true)) (w4.alloc (trieO io4 0 0 bo4 0 0))) := by
        rw [← HP.out]
        exact Lib.hid ⟨rfl, (B3.out.trans (b4.mono B3.out.size)).alloc (B3.out.trans (b4.mono B3.out.size)).size _⟩
      clear b4 h hR hn
      go_wp2_with fail
      exact HPP.out
    · rw [hR] at h
      obtain ⟨io4, bo4, rfl, b4, ht⟩ := trie_box h
      obtain ⟨m1, h1⟩ : ∃ n, T2.1.length = n := ⟨_, rfl⟩
      obtain ⟨m2, h2⟩ : ∃ n, T2.2.length = n := ⟨_, rfl⟩
      simp only [h1, h2]
      obtain ⟨w5, hw5⟩ : ∃ w5, w4.alloc (trieO io4 m1 m1 bo4 m2 m2) = w5 := ⟨_, rfl⟩
      obtain ⟨b5, v0, v1, v2⟩ := box_at hw5
      have B4 := B3.out.trans (b4.mono B3.out.size)
      have B5 := Lib.hid (B4.trans (b5.mono B4.size))
      have D5 := b4.trans (b5.mono b4.size)
      have s0 := cell_keepT D5 u0
      have s1 := cell_keepT D5 u1
      have s2 := World.block_lt_of_cell? _ _ s0
      have HT5 := Lib.hid (ht.below b5)
      have HW5 := Lib.hid hw5
      have HD5 := Lib.hid D5
      have CR1 := Lib.hid (HRG.out w5 D5)
      have HRG2 := Lib.hid (fun W (bb : Below w5.heap.size w5 W) => Ranges_anyT io4 bo4 T2 m1 m2 (by omega) hT2 hT3 W (HG.out.below (B5.out.trans (bb.mono B5.out.size))) (HT5.out.below bb))
      rw [show rangesT T2 = (tghF (sayF B) 1114112, 0) from by rw [← hTB]; exact rangesT_build rB.1 (by have := HLB.out; omega)] at HRG2
      rw [h1, h2] at HRG2
      obtain ⟨MB, hMB⟩ : ∃ M, tghF (sayF B) 1114112 = M := ⟨_, rfl⟩
      rw [hMB] at HRG2
      have HEQ : Hid ((T = T2) ↔ (MA = MB)) := Lib.hid (by rw [← HTA.out, ← hTB, ← HMA.out, ← hMB]; exact build_two HRA.out.1 rB.1)
      have HH1 := Lib.hid h1
      have HH2 := Lib.hid h2
      have HSS := Lib.hid (show w5.cell? ⟨w2.heap.size, 0, none⟩ = some (.slice io n1 n1) ∧ w5.cell? ⟨w2.heap.size, 1, none⟩ = some (.slice bo n2 n2) ∧ w5.cell? ⟨w4.heap.size, 0, none⟩ = some (.slice io4 m1 m1) ∧ w5.cell? ⟨w4.heap.size, 1, none⟩ = some (.slice bo4 m2 m2) from ⟨s0, s1, v0, v1⟩)
      rw [← hw5] at s0 s1 s2 v0 v1 v2
      clear h b4 hw5 hR hT1 hT2 hT3 h1 h2 b5 ht rB hTB hMB hrT CB1 HRG B4 D5 u0 u1 u2
      go_wp2_with fail
      rw [HW5.out]
      refine CR1.out.mono ?_
      rintro e w6 ⟨o6, rfl, b6, at6⟩
      have HB6 := Lib.hid (B5.out.trans (b6.mono B5.out.size))
      have HD6 := Lib.hid (HD5.out.trans (b6.mono HD5.out.size))
      have CR2 := Lib.hid (HRG2.out w6 b6)
      have HAT6 := Lib.hid at6
      have HT6 := Lib.hid (HT5.out.below b6)
      clear v0 v1 v2 s0 s1 s2
      obtain ⟨s0, s1, v0, v1⟩ := HSS.out
      have v0' := cell_keepT b6 v0
      have v1' := cell_keepT b6 v1
      have v2' := World.block_lt_of_cell? _ _ v0'
      have s0' := cell_keepT b6 s0
      have s1' := cell_keepT b6 s1
      have s2' := World.block_lt_of_cell? _ _ s0'
      obtain ⟨xa, hxa⟩ : ∃ n, MA.length = n := ⟨_, rfl⟩
      rw [hxa]
      have HXA := Lib.hid hxa
      clear b6 at6 hxa CR1 HRG2 v0 v1 s0 s1 HSS
      go_wp2_with fail
      refine CR2.out.mono ?_
      rintro e w7 ⟨o7, rfl, b7, at7⟩
      have HB7 := Lib.hid (HB6.out.trans (b7.mono HB6.out.size))
      have HD7 := Lib.hid (HD6.out.trans (b7.mono HD6.out.size))
      have v0 := cell_keepT b7 v0'
      have v1 := cell_keepT b7 v1'
      have v2 := World.block_lt_of_cell? _ _ v0
      have s0 := cell_keepT b7 s0'
      have s1 := cell_keepT b7 s1'
      have s2 := World.block_lt_of_cell? _ _ s0
      have CS1 := HSM.out w7 HD7.out io4 bo4 T2 m1 m2 (HT6.out.below b7)
      rw [HH1.out, HH2.out] at CS1
      have HCS1 := Lib.hid CS1
      have HAT7 := Lib.hid at7
      have HAT7' := Lib.hid (HAT6.out.below b7)
      obtain ⟨xb, hxb⟩ : ∃ n, MB.length = n := ⟨_, rfl⟩
      rw [hxb]
      have HXB := Lib.hid hxb
      obtain ⟨d1, hd1⟩ : ∃ d, decide (T = T2) = d := ⟨_, rfl⟩
      have HDD1 := Lib.hid hd1
      rw [hd1] at HCS1
      clear b7 at7 hxb CR2 v0' v1' v2' s0' s1' s2' CS1 hd1
      go_wp2_with fail
      refine HCS1.out.mono ?_
      rintro e w8 ⟨rfl, b8⟩
      have HB8 := Lib.hid (HB7.out.trans (b8.mono HB7.out.size))
      have CS2 := Same_any o6 o7 MA MB MA.length MB.length (by have := HHL.out; omega) w8 (HAT7'.out.below b8) (HAT7.out.below b8)
      rw [HXA.out, HXB.out] at CS2
      have HCS2 := Lib.hid CS2
      have HDD2 : Hid (decide (MA = MB) = d1) := Lib.hid (by rw [← HDD1.out]; by_cases h : T = T2; { rw [decide_eq_true h, decide_eq_true (HEQ.out.1 h)] }; { rw [decide_eq_false h, decide_eq_false fun h' => h (HEQ.out.2 h')] })
      clear b8 CS2
      go_wp2_with fail
      refine HCS2.out.mono ?_
      rintro e w9 ⟨rfl, b9⟩
      rw [HDD2.out]
      have HPP : Hid (P (.returned (.bool true)) w9) := by
        rw [← HP.out]
        exact Lib.hid ⟨rfl, HB8.out.trans (b9.mono HB8.out.size)⟩
      have hdd : (d1 == d1) = true := by simp
      clear b9
      go_wp2_with fail
      exact HPP.out
end Go.Proofs.YtlmkefmfhdjmmaaDoor
