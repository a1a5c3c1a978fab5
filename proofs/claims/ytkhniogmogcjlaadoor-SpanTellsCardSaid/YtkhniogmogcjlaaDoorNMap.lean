/- ascends, isMap, count: whether ranges are a map, and how many numbers it has. -/
import Derived.Test.YtkhniogmogcjlaaDoorNChart
import Derived.Test.YtkhniogmogcjlaaDoorNQuiet
namespace Go.Proofs.YtkhniogmogcjlaaDoor
open Go.RowKit Go.Shelf
attribute [local go_sem] Oper.semAt_some

theorem results_cell1 {P : Program} {fn : Func} {p : Tmp} {ty : TypeId} (h : fn.results = #[.cell p ty]) (tmps : Array Value) (w : World) (a : Addr) (d : TypeDesc) (v : Value)
    (hp : tmps.getD p undef = .pointer (some a)) (hu : P.underlying ty = some d) (hd : (match d with | .struct _ | .array _ _ => true | _ => false) = false) (hc : w.cell? a = some v) :
    (results fn tmps).run P w = .ok v w := by
  have hp' : tmps[p]?.getD undef = .pointer (some a) := by simpa using hp
  cases d <;> simp at hd <;> simp [results, h, hp', asAddr, loadVar, isAgg, underlying, hu, hc, Result.andThen]
def adjL (l : List Rng) : Prop := ∀ (i : Nat) (x y : Rng), l[i]? = some x → l[i + 1]? = some y → x.2.1 < y.1
theorem adj_map {l : List Rng} (h : ∀ x ∈ l, okR x) : adjL l ↔ l.Pairwise (fun x y => x.2.1 < y.1) := by
  constructor
  · intro ha
    induction l with
    | nil => exact List.Pairwise.nil
    | cons x t ih =>
      have ht := ih (fun y hy => h y (List.mem_cons_of_mem _ hy)) (fun i a b h1 h2 => ha (i + 1) a b (by simpa using h1) (by simpa using h2))
      refine List.pairwise_cons.2 ⟨fun y hy => ?_, ht⟩
      cases t with
      | nil => simp at hy
      | cons z t' =>
        have h1 := ha 0 x z rfl rfl
        rcases List.mem_cons.1 hy with rfl | hy'
        · exact h1
        · have h2 := (List.pairwise_cons.1 ht).1 y hy'
          have h3 := h z (List.mem_cons_of_mem _ List.mem_cons_self)
          unfold okR at h3
          omega
  · intro hp i x y h1 h2
    obtain ⟨l1, e1⟩ := List.getElem?_eq_some_iff.1 h1
    obtain ⟨l2, e2⟩ := List.getElem?_eq_some_iff.1 h2
    have := List.pairwise_iff_getElem.1 hp i (i + 1) l1 l2 (by omega)
    rw [e1, e2] at this
    exact this
theorem adj_snoc {l : List Rng} {j : Nat} {x : Rng} (hx : l[j]? = some x) (h : adjL (l.take j)) (hy : ∀ i y, j = i + 1 → l[i]? = some y → y.2.1 < x.1) : adjL (l.take (j + 1)) := by
  intro i a b h1 h2
  have hlt := (List.getElem?_eq_some_iff.1 h2).1
  rw [List.length_take] at hlt
  rw [List.getElem?_take_of_lt (by omega)] at h1 h2
  rcases Nat.lt_or_ge (i + 1) j with h3 | h3
  · exact h i a b (by rw [List.getElem?_take_of_lt (by omega)]; exact h1) (by rw [List.getElem?_take_of_lt (by omega)]; exact h2)
  · obtain rfl : i + 1 = j := by omega
    rw [hx] at h2
    cases h2
    exact hy i a rfl h1
theorem moves_drewN (S : Nat → Prop) (w : World) (q : Nat) : Moves S w (w.drewN q) := by
  induction q with
  | zero => exact Moves.refl _ _
  | succ q ih => exact ih.drew
structure AscInv (w : World) (o : Option Addr) (n cap : Nat) (X : Nat → Prop) (W : World) (B : Bool) : Prop where
  kept : Kept w 2 X W
  ch : W.heap[w.heap.size]? = some (chartO o n cap)
  bb : Boxed W (w.heap.size + 1) 4 (.bool B)
theorem AscInv.moves {w : World} {o : Option Addr} {n cap : Nat} {X X' : Nat → Prop} {A B : World} {s : Bool} (h : AscInv w o n cap X A s) (hm : Moves X A B) (hX : ∀ k, X' k → (X k ∨ A.heap.size ≤ k) ∧ k < B.heap.size) : AscInv w o n cap X' B s :=
  ⟨h.kept.moves hm hX, h.kept.row hm (by omega) h.ch, h.kept.row hm (by omega) h.bb⟩
set_option maxRecDepth 100000 in
set_option maxHeartbeats 2000000 in
theorem ascends_any (o : Option Addr) (l : List Rng) (cap : Nat) (hn : l.length ≤ 1000000) (w : World) (hA : AtR w o l) :
    Calls Tryd.prog 40 #[chartV o l.length cap] w fun e w' => (∃ B, e = .returned (.bool B) ∧ (B = true ↔ adjL l)) ∧ Below w.heap.size w w' := by
  refine (callsIn_wide (n := 6)).1 ?_
  have h1 : 1 ≤ 6 := by omega
  refine callsIn_of_wp_marks Tryd.func40 rfl trivial ?_ rfl
  simp only [Tryd.ntmps40, List.size_toArray, List.length_cons, List.length_nil, Nat.reduceAdd, Nat.reduceSub, Array.replicate_succ, Array.replicate_zero, List.push_toArray, List.append_toArray, List.nil_append, List.cons_append]
  obtain ⟨P, hP⟩ : ∃ P, (fun (e : Ending) w' => (∃ B, e = .returned (.bool B) ∧ (B = true ↔ adjL l)) ∧ Below w.heap.size w w') = P := ⟨_, rfl⟩
  have HP := Lib.hid hP
  rw [hP]
  clear hP
  obtain ⟨n, hnn⟩ : ∃ n, l.length = n := ⟨_, rfl⟩
  have HN := Lib.hid hnn
  rw [hnn] at hn ⊢
  have HA := Lib.hid hA
  clear hA hnn
  gi_wp2_with fail
  refine ⟨trivial, (callsIn_wide.2 (ranges_any o n cap _)).mono ?_⟩
  rintro e w2 ⟨rfl, hw2⟩
  simp only [World.size_alloc] at hw2 ⊢
  have BW : Below w.heap.size w w2 := by rw [← hw2]; exact (((Below.refl _ _).alloc (Nat.le_refl _) _).alloc (by simp) _).alloc (by simp; omega) _
  have z2 : w2.heap.size = w.heap.size + 3 := by rw [← hw2]; simp
  have C2 : w2.heap[w.heap.size]? = some (chartO o n cap) := by
    rw [← hw2, Below.heap_alloc _ _ _ (by simp; omega), Below.heap_alloc _ _ _ (by simp)]
    exact heap_alloc_new _ _
  have E2 : Boxed w2 (w.heap.size + 1) 4 (.bool false) := by
    rw [← hw2]
    have := Boxed.new (w.alloc (chartO o n cap)) 4 (.bool false)
    rw [World.size_alloc] at this
    exact this.alloc _
  have hb : w2.heap[w.heap.size + 1 + 1]? = some (chartO o n cap) := by
    rw [← hw2]
    have := heap_alloc_new ((w.alloc (chartO o n cap)).alloc (.cells #[.bool false] 4)) (chartO o n cap)
    simpa using this
  have A2 := HA.out.below BW
  have hlt : ∀ k, 0 < l.length → inB o k → k < w.heap.size := fun k h0 hk => HA.out.lt h0 hk
  clear hw2
  gi_wp2_with fail
  refine wpIn_seqX (n := 6) (Ow := fun _ => False) (Dep := DepR (w.heap.size + 1 + 1) o l) (encs := encR) (all := l.zipIdx) (by omega) rfl (enters_of Tryd.func48 (by kernel_rfl) rfl) (fun x => rfl) (seqRanges (by rw [HN.out]; exact hn) (by rw [HN.out]; exact hb) A2)
    (fun k h => h.elim) (fun k h => by rcases h with h | ⟨h0, h⟩; { omega }; { have := hlt k h0 h; omega })
    (fun X pre W => AscInv w o n cap X W false ∧ adjL (l.take pre.length)) (fun c X pre W => c = .ret ∧ AscInv w o n cap X W false ∧ ¬ adjL l) ?hI ?hIx ?h0
    (fun b x => { tmps := #[chartV o n cap, .pointer (some ⟨w.heap.size, 0, none⟩), .pointer (some ⟨w.heap.size + 1, 0, none⟩), .int .i64 (x.2 : Nat), .pointer (some ⟨b, 0, none⟩), chartV o n cap, .func (.func 48) #[] #[.pointer (some ⟨w.heap.size + 1 + 1, 0, none⟩)], .int .i64 (x.2 : Nat), rngV x.1, undef, undef, undef, undef, undef, undef, undef, undef, undef, undef, undef, undef, undef, undef], defers := [] })
    (fun A x B => A.alloc (rngO x.1) = B) (fun A x B h => by rw [← h]; exact Moves.of_below ((Below.refl _ _).alloc (Nat.le_refl _) _)) ?assign ?body ?done ?stop
  case hI =>
    rintro X X' xs A B ⟨h, hf⟩ hm hX
    exact ⟨h.moves hm hX, hf⟩
  case hIx =>
    rintro c X X' xs A B ⟨rfl, h, hf⟩ hm hX
    exact ⟨rfl, h.moves hm hX, hf⟩
  case h0 => exact ⟨⟨⟨fun k h => h.elim, BW, by omega⟩, C2, E2⟩, fun i x y hx => by simp at hx⟩
  case assign =>
    rintro l x A K hK
    gi_wp2
    rfl
  case body =>
    rintro lp X pre ⟨x, j⟩ A A' W1 hA1 hpx hAB hm hXn hXn1 hXlt ⟨hI, hf⟩
    obtain ⟨hj, hx, -⟩ := zip_pre hpx
    have hxb : W1.heap[A.heap.size]? = some (rngO x) := by
      have := heap_alloc_new A (rngO x)
      rw [hAB] at this
      exact row_keep this hm (by omega)
    obtain ⟨q0, q1, q2, _⟩ := rng_cells hxb
    have nB := hI.kept.free (o := o) (l := l) (cb := w.heap.size + 1 + 1) (by omega) hlt
    have ce := hI.bb.cell
    have fe := hI.bb.frozen
    have cc : W1.cell? ⟨w.heap.size, 0, none⟩ = some (.slice o n cap) := by rw [cell_of_row _ _ 0 _ _ _ hI.ch]; rfl
    have hAW := HA.out.below hI.kept.below
    have hz := hI.kept.size
    have hjl : j < 1000000 := by have := (List.getElem?_eq_some_iff.1 hx).1; rw [HN.out] at this; omega
    have hjn : j < n := by have := (List.getElem?_eq_some_iff.1 hx).1; rwa [HN.out] at this
    rw [← hj] at hf
    have HI := Lib.hid hI
    have HX := Lib.hid hx
    have HF := Lib.hid hf
    have HNB := Lib.hid nB
    have HJ := Lib.hid hj
    have HAW := Lib.hid hAW
    obtain ⟨a, b, v⟩ := x
    have good : (∀ i y, j = i + 1 → l[i]? = some y → y.2.1 < a) → ∀ q, Hid (seqEndX (DepR (w.heap.size + 1 + 1) o l) X (fun X pre W => AscInv w o n cap X W false ∧ adjL (l.take pre.length)) (fun c X pre W => c = .ret ∧ AscInv w o n cap X W false ∧ ¬ adjL l) (pre ++ [((a, b, v), j)]) W1 .normal ({ tmps := #[], defers := [] } : Act) (W1.drewN q)) := fun h q => by
      refine Lib.hid ⟨moves_drewN _ _ _, ⟨HI.out.kept.turn (moves_drewN (fun _ => False) W1 q) (fun k h => h.elim), HI.out.ch, HI.out.bb⟩, ?_⟩
      rw [List.length_append, ← HJ.out]
      exact adj_snoc HX.out HF.out h
    simp only at q0 q1 q2
    clear hI hx hf nB hpx hm hXlt hXn hXn1 hxb hAB hA1 hAW hj
    cases j with
    | zero =>
      have HR := good (fun i y h => by omega)
      clear good
      gi_wp2_with fail
      refine wpIn_quiet_round lp (by kernel_rfl) (by kernel_rfl) (by kernel_rfl) ?_
      repeat (gi_big_quiet_step (fail))
      refine wpQuietIn_nil ?_
      rintro _ ⟨nq, rfl⟩
      gi_wp2
      exact (HR _).out
    | succ k =>
      obtain ⟨y, hy⟩ : ∃ y, l[k]? = some y := ⟨_, List.getElem?_eq_getElem (by rw [HN.out]; omega)⟩
      obtain ⟨g, off, rfl, hc⟩ := HAW.out (by rw [HN.out]; omega)
      obtain ⟨_, k1, _⟩ := hc k y hy
      have hg := World.block_lt_of_cell? W1 _ k1
      have hw1 : IntKind.i64.wrap (((k : Nat) : Int) + 1 - 1) = (k : Nat) := by rw [show ((k : Nat) : Int) + 1 - 1 = (k : Nat) from by omega]; exact wrap_id (by omega) (by omega)
      have hw2 : IntKind.i64.wrap ((k : Nat) : Int) = (k : Nat) := wrap_id (by omega) (by omega)
      have hkn : k < n := by omega
      have bad : ¬ y.2.1 < a → ∀ q, Hid (seqEndX (DepR (w.heap.size + 1 + 1) (some ⟨g, off, none⟩) l) X (fun X pre W => AscInv w (some ⟨g, off, none⟩) n cap X W false ∧ adjL (l.take pre.length)) (fun c X pre W => c = .ret ∧ AscInv w (some ⟨g, off, none⟩) n cap X W false ∧ ¬ adjL l) (pre ++ [((a, b, v), k + 1)]) W1 .ret ({ tmps := #[], defers := [] } : Act) ((W1.drewN q).setCell ⟨w.heap.size + 1, 0, none⟩ (.bool false))) := fun h q => by
        have hm4 : Moves (fun k => k = w.heap.size + 1) W1 ((W1.drewN q).setCell ⟨w.heap.size + 1, 0, none⟩ (.bool false)) := (moves_drewN _ _ q).trans (Moves.setCell rfl)
        refine Lib.hid ⟨hm4.mono fun k h => HNB.out k (by omega) (by omega), rfl, ⟨HI.out.kept.turn hm4 (fun k h => by omega), row_keep HI.out.ch hm4 (by omega), ?_⟩, fun ha => h (ha k y _ hy HX.out)⟩
        exact (show Boxed (W1.drewN q) (w.heap.size + 1) 4 (.bool false) from HI.out.bb).set _
      have HG := Lib.hid good
      have HBD := Lib.hid bad
      have HY := Lib.hid hy
      obtain ⟨ya, yb, yv⟩ := y
      simp only at k1
      clear good bad hy hc
      by_cases hlt2 : yb < a
      · have HR := HG.out (fun i z h1 h2 => by
          obtain rfl : k = i := by omega
          rw [HY.out] at h2
          cases h2
          exact hlt2)
        have hd : ¬ a ≤ yb := by omega
        clear hlt2
        gi_wp2_with fail
        refine wpIn_quiet_round lp (by kernel_rfl) (by kernel_rfl) (by kernel_rfl) ?_
        repeat (gi_big_quiet_step (fail))
        refine wpQuietIn_nil ?_
        rintro _ ⟨nq, rfl⟩
        gi_wp2
        exact (HR _).out
      · have HR := HBD.out hlt2
        have hd : a ≤ yb := by omega
        clear hlt2
        gi_wp2_with fail
        refine wpIn_quiet_round lp (by kernel_rfl) (by kernel_rfl) (by kernel_rfl) ?_
        repeat (gi_big_quiet_step (fail))
        refine wpQuietIn_nil ?_
        rintro _ ⟨nq, rfl⟩
        gi_wp2
        exact (HR _).out
  case done =>
    rintro X D W hD hXD ⟨hI, hf⟩ hX hK
    rw [List.length_zipIdx, List.take_length] at hf
    have hfe := hI.bb.frozen
    have hce := hI.bb.cell
    have hm1 : Moves (fun k => k = w.heap.size + 1) W (W.setCell ⟨w.heap.size + 1, 0, none⟩ (.bool true)) := Moves.setCell rfl
    have hb1 : Boxed (W.setCell ⟨w.heap.size + 1, 0, none⟩ (.bool true)) (w.heap.size + 1) 4 (.bool true) := hI.bb.set _
    have hne : ¬ D = w.heap.size + 1 := by
      rintro rfl
      have := hI.bb
      unfold Boxed at this
      rw [hK] at this
      cases this
    have hK2 : (W.setCell ⟨w.heap.size + 1, 0, none⟩ (.bool true)).heap[D]? = some (.deferred (some [])) := row_keep hK hm1 hne
    have hb2 : Boxed ((W.setCell ⟨w.heap.size + 1, 0, none⟩ (.bool true)).putObj D (.deferred none)) (w.heap.size + 1) 4 (.bool true) := row_keep hb1 (Moves.putObj (S := fun k => k = D) rfl) (fun h => hne h.symm)
    have hpost : P (.returned (.bool true)) ((W.setCell ⟨w.heap.size + 1, 0, none⟩ (.bool true)).putObj D (.deferred none)) := by
      rw [← HP.out]
      exact ⟨⟨true, rfl, by simp [hf]⟩, Moves.below hI.kept.below hI.kept.below.size (hm1.mono (T := fun k => w.heap.size ≤ k) (fun k h => by omega) |>.trans (Moves.putObj (show w.heap.size ≤ D by omega))) (fun k h => h)⟩
    have HPP := Lib.hid hpost
    have hb2c := hb2.cell
    clear hpost hI hm1 hf hb1
    gi_wp2
    refine ⟨by simp, .inl ⟨_, _, rfl, run_takeDeferred hK2, ?_⟩⟩
    exact ⟨_, results_cell1 rfl _ _ _ _ _ rfl Tryd.underlying4 rfl hb2c, HPP.out⟩
  case stop =>
    rintro X D c pre W hD hXD hpre ⟨rfl, hI, hf⟩ hX hK
    have hm : Moves (fun k => k = D) W (W.putObj D (.deferred none)) := Moves.putObj rfl
    have hne : ¬ D = w.heap.size + 1 := by
      rintro rfl
      have := hI.bb
      unfold Boxed at this
      rw [hK] at this
      cases this
    have hb2c : (W.putObj D (.deferred none)).cell? ⟨w.heap.size + 1, 0, none⟩ = some (.bool false) := (show Boxed (W.putObj D (.deferred none)) (w.heap.size + 1) 4 (.bool false) from row_keep hI.bb hm (fun h => hne h.symm)).cell
    have hpost : P (.returned (.bool false)) (W.putObj D (.deferred none)) := by
      rw [← HP.out]
      exact ⟨⟨false, rfl, by simp [hf]⟩, Moves.below hI.kept.below hI.kept.below.size hm (fun k h => by omega)⟩
    have HPP := Lib.hid hpost
    have hK2 := hK
    clear hpost hI hm
    gi_wp2
    refine ⟨by simp, .inl ⟨_, _, rfl, run_takeDeferred hK2, ?_⟩⟩
    exact ⟨_, results_cell1 rfl _ _ _ _ _ rfl Tryd.underlying4 rfl hb2c, HPP.out⟩
/-- Ranges are a map. -/
def rightL (l : List Rng) : Prop := mapL l ∧ l.length ≤ 600
instance rightL_dec (l : List Rng) : Decidable (rightL l) := by unfold rightL; infer_instance
theorem isMap_any (o : Option Addr) (l : List Rng) (cap : Nat) (hn : l.length ≤ 1000000) (w : World) (hA : AtR w o l) :
    Calls Tryd.prog 28 #[chartV o l.length cap] w fun e w' => e = .returned (.bool (decide (rightL l))) ∧ Below w.heap.size w w' := by
  have A0 : Below w.heap.size w (w.alloc (chartO o l.length cap)) := (Below.refl _ _).alloc (Nat.le_refl _) _
  have hchk := checked_any o l cap hn _ (hA.below A0)
  have hq : chartO o l.length cap = .cells #[.slice o l.length cap] 42 (0, 0) := rfl
  have q0 : (w.alloc (chartO o l.length cap)).heap[w.heap.size]? = some (chartO o l.length cap) := heap_alloc_new _ _
  have HASC := Lib.hid fun (W : World) (hb : Below (w.alloc (chartO o l.length cap)).heap.size (w.alloc (chartO o l.length cap)) W) => ascends_any o l cap hn W ((hA.below A0).below hb)
  obtain ⟨D, hD⟩ : ∃ D, decide (rightL l) = D := ⟨_, rfl⟩
  rw [hD]
  have HD := Lib.hid hD
  obtain ⟨E, hE⟩ : ∃ E, errC (chkL l) = E := ⟨_, rfl⟩
  rw [hE] at hchk
  have HE := Lib.hid hE
  have HCHK := Lib.hid hchk
  have HA0 := Lib.hid A0
  have HQ0 := Lib.hid q0
  obtain ⟨n, hnn⟩ : ∃ n, l.length = n := ⟨_, rfl⟩
  rw [hnn] at HCHK HASC HA0 HQ0 ⊢
  have HN := Lib.hid hnn
  clear hchk hD hE q0 A0 hA hq hnn
  go_enter Tryd.func28, Tryd.ntmps28
  go_wp2_with fail
  refine HCHK.out.mono ?_
  rintro e w1 ⟨rfl, b1⟩
  have c1 : w1.cell? ⟨w.heap.size, 0, none⟩ = some (.slice o n cap) := by rw [cell_of_row _ _ 0 _ _ _ (row_below HQ0.out b1)]; rfl
  have HB1 := Lib.hid b1
  clear b1
  have hee := HE.out
  cases hc : chkL l with
  | none =>
    rw [hc] at hee
    have hE0 : E = .nilIface := by rw [← hee]; rfl
    subst hE0
    have hm := chk_ok.1 hc
    clear hee hc
    have HM := Lib.hid hm
    clear hm
    go_wp2_with fail
    refine (HASC.out w1 HB1.out).mono ?_
    rintro e w2 ⟨⟨B, rfl, hB⟩, b2⟩
    have hDB : D = B := by
      rw [← HD.out, Bool.eq_iff_iff, hB, decide_eq_true_eq]
      exact ⟨fun h => (adj_map HM.out.1).2 h.1.2, fun h => ⟨⟨HM.out.1, (adj_map HM.out.1).1 h⟩, HM.out.2⟩⟩
    subst hDB
    have BB := Lib.hid ((HA0.out.trans (HB1.out.mono (by simp))).trans (b2.mono (by have := HB1.out.size; simp at this; omega)))
    clear b2
    go_wp2
    go_ret
    exact ⟨rfl, BB.out⟩
  | some i =>
    rw [hc] at hee
    have hE0 : E = faultV 22 (i : Nat) := by rw [← hee]; rfl
    subst hE0
    have hDf : D = false := by
      rw [← HD.out]
      refine decide_eq_false fun h => ?_
      have := chk_ok.2 ⟨h.1.1, h.2⟩
      rw [hc] at this
      cases this
    subst hDf
    clear hee hc
    have BB := Lib.hid (HA0.out.trans (HB1.out.mono (by simp)))
    go_wp2
    go_ret
    exact ⟨rfl, BB.out⟩
end Go.Proofs.YtkhniogmogcjlaaDoor
