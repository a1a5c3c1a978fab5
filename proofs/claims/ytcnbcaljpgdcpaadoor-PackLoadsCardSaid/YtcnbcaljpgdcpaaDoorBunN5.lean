/- ascends, isMap, count: whether ranges are a map, and how many numbers it has. reach: the place of the first range that ends at a number or behind it; says: what a map says. turns: the numbers at which another thing may be said than of the number ahead. laid: what the topmost layer says that says something. laid: the closure. The keys of a map of the call's ownN, sorted. stretches: what is between turns, from place to place. layerOf, laid, stretches: what lay stands on. Rows of ranges that the call owns: one behind them, one between them; copy from row to row. slices.Insert of one range into a row of ranges that the call owns. put: a range at its place, unless it laps. join: a range behind a tight map. lay: the tight map of maps. -/
import Derived.Test.YtcnbcaljpgdcpaaDoorBunN3
import Derived.Sort.AtCall
import Derived.Maps.OwnIn
import Derived.Maps.Keyed
import Derived.Maps.Views
import Derived.Lib.SlKeysI
import Derived.WideMake
import Derived.Test.YtcnbcaljpgdcpaaDoorShelf
import Derived.Maps.AppendAt
import Derived.Lib.AppendZerosOnto
import Derived.Lib.Overlaps
import Derived.Laws.CopyRow
namespace Go.Proofs.YtcnbcaljpgdcpaaDoor
open Go.RowKit Go.Shelf
attribute [local go_sem] Oper.semAt_some

theorem results_cell1 {P : Program} {fn : Func} {p : Tmp} {ty : TypeId} (h : fn.results = #[.cell p ty]) (tmps : Array Value) (w : World) (a : Addr) (d : TypeDesc) (v : Value)
    (hp : tmps.getD p undef = .pointer (some a)) (hu : P.underlying ty = some d) (hd : (match d with | .struct _ | .array _ _ => true | _ => false) = false) (hc : w.cell? a = some v) :
    (results fn tmps).run P w = .ok v w := by
  have hp' : tmps[p]?.getD undef = .pointer (some a) := by simpa using hp
  cases d <;> simp at hd <;> simp [results, h, hp', asAddr, loadVar, isAgg, underlying, hu, hc, Result.andThen]
def adjL (l : List Rng) : Prop := ∀ (i : Nat) (x y : Rng), l[i]? = some x → l[i + 1]? = some y → x.2.1 < y.1
theorem adj_map {l : List Rng} (h : ∀ x ∈ l, okR x) : adjL l ↔ l.Pairwise (fun x y => x.2.1 < y.1) := by
  constructor
  · intro ha
    induction l with
    | nil => exact List.Pairwise.nil
    | cons x t ih =>
      have ht := ih (fun y hy => h y (List.mem_cons_of_mem _ hy)) (fun i a b h1 h2 => ha (i + 1) a b (by simpa using h1) (by simpa using h2))
      refine List.pairwise_cons.2 ⟨fun y hy => ?_, ht⟩
      cases t with
      | nil => simp at hy
      | cons z t' =>
        have h1 := ha 0 x z rfl rfl
        rcases List.mem_cons.1 hy with rfl | hy'
        · exact h1
        · have h2 := (List.pairwise_cons.1 ht).1 y hy'
          have h3 := h z (List.mem_cons_of_mem _ List.mem_cons_self)
          unfold okR at h3
          omega
  · intro hp i x y h1 h2
    obtain ⟨l1, e1⟩ := List.getElem?_eq_some_iff.1 h1
    obtain ⟨l2, e2⟩ := List.getElem?_eq_some_iff.1 h2
    have := List.pairwise_iff_getElem.1 hp i (i + 1) l1 l2 (by omega)
    rw [e1, e2] at this
    exact this
theorem adj_snoc {l : List Rng} {j : Nat} {x : Rng} (hx : l[j]? = some x) (h : adjL (l.take j)) (hy : ∀ i y, j = i + 1 → l[i]? = some y → y.2.1 < x.1) : adjL (l.take (j + 1)) := by
  intro i a b h1 h2
  have hlt := (List.getElem?_eq_some_iff.1 h2).1
  rw [List.length_take] at hlt
  rw [List.getElem?_take_of_lt (by omega)] at h1 h2
  rcases Nat.lt_or_ge (i + 1) j with h3 | h3
  · exact h i a b (by rw [List.getElem?_take_of_lt (by omega)]; exact h1) (by rw [List.getElem?_take_of_lt (by omega)]; exact h2)
  · obtain rfl : i + 1 = j := by omega
    rw [hx] at h2
    cases h2
    exact hy i a rfl h1
theorem moves_drewN (S : Nat → Prop) (w : World) (q : Nat) : Moves S w (w.drewN q) := by
  induction q with
  | zero => exact Moves.refl _ _
  | succ q ih => exact ih.drew
structure AscInv (w : World) (o : Option Addr) (n cap : Nat) (X : Nat → Prop) (W : World) (B : Bool) : Prop where
  kept : Kept w 2 X W
  ch : W.heap[w.heap.size]? = some (chartO o n cap)
  bb : Boxed W (w.heap.size + 1) 4 (.bool B)
theorem AscInv.moves {w : World} {o : Option Addr} {n cap : Nat} {X X' : Nat → Prop} {A B : World} {s : Bool} (h : AscInv w o n cap X A s) (hm : Moves X A B) (hX : ∀ k, X' k → (X k ∨ A.heap.size ≤ k) ∧ k < B.heap.size) : AscInv w o n cap X' B s :=
  ⟨h.kept.moves hm hX, h.kept.row hm (by omega) h.ch, h.kept.row hm (by omega) h.bb⟩
set_option maxRecDepth 100000 in
set_option maxHeartbeats 2000000 in
theorem ascends_any (o : Option Addr) (l : List Rng) (cap : Nat) (hn : l.length ≤ 1000000) (w : World) (hA : AtR w o l) :
    Calls Tryd.prog 90 #[chartV o l.length cap] w fun e w' => (∃ B, e = .returned (.bool B) ∧ (B = true ↔ adjL l)) ∧ Below w.heap.size w w' := by
  refine (callsIn_wide (n := 6)).1 ?_
  have h1 : 1 ≤ 6 := by omega
  refine callsIn_of_wp_marks Tryd.func90 rfl trivial ?_ rfl
  simp only [Tryd.ntmps90, List.size_toArray, List.length_cons, List.length_nil, Nat.reduceAdd, Nat.reduceSub, Array.replicate_succ, Array.replicate_zero, List.push_toArray, List.append_toArray, List.nil_append, List.cons_append]
  obtain ⟨P, hP⟩ : ∃ P, (fun (e : Ending) w' => (∃ B, e = .returned (.bool B) ∧ (B = true ↔ adjL l)) ∧ Below w.heap.size w w') = P := ⟨_, rfl⟩
  have HP := Lib.hid hP
  rw [hP]
  clear hP
  obtain ⟨n, hnn⟩ : ∃ n, l.length = n := ⟨_, rfl⟩
  have HN := Lib.hid hnn
  rw [hnn] at hn ⊢
  have HA := Lib.hid hA
  clear hA hnn
  gi_wp2_with fail
  refine ⟨trivial, (callsIn_wide.2 (ranges_any o n cap _)).mono ?_⟩
  rintro e w2 ⟨rfl, hw2⟩
  simp only [World.size_alloc] at hw2 ⊢
  have BW : Below w.heap.size w w2 := by rw [← hw2]; exact (((Below.refl _ _).alloc (Nat.le_refl _) _).alloc (by simp) _).alloc (by simp; omega) _
  have z2 : w2.heap.size = w.heap.size + 3 := by rw [← hw2]; simp
  have C2 : w2.heap[w.heap.size]? = some (chartO o n cap) := by
    rw [← hw2, Below.heap_alloc _ _ _ (by simp; omega), Below.heap_alloc _ _ _ (by simp)]
    exact heap_alloc_new _ _
  have E2 : Boxed w2 (w.heap.size + 1) 4 (.bool false) := by
    rw [← hw2]
    have := Boxed.new (w.alloc (chartO o n cap)) 4 (.bool false)
    rw [World.size_alloc] at this
    exact this.alloc _
  have hb : w2.heap[w.heap.size + 1 + 1]? = some (chartO o n cap) := by
    rw [← hw2]
    have := heap_alloc_new ((w.alloc (chartO o n cap)).alloc (.cells #[.bool false] 4)) (chartO o n cap)
    simpa using this
  have A2 := HA.out.below BW
  have hlt : ∀ k, 0 < l.length → inB o k → k < w.heap.size := fun k h0 hk => HA.out.lt h0 hk
  clear hw2
  gi_wp2_with fail
  refine wpIn_seqX (n := 6) (Ow := fun _ => False) (Dep := DepR (w.heap.size + 1 + 1) o l) (encs := encR) (all := l.zipIdx) (by omega) rfl (enters_of Tryd.func94 (by kernel_rfl) rfl) (fun x => rfl) (seqRanges (by rw [HN.out]; exact hn) (by rw [HN.out]; exact hb) A2)
    (fun k h => h.elim) (fun k h => by rcases h with h | ⟨h0, h⟩; { omega }; { have := hlt k h0 h; omega })
    (fun X pre W => AscInv w o n cap X W false ∧ adjL (l.take pre.length)) (fun c X pre W => c = .ret ∧ AscInv w o n cap X W false ∧ ¬ adjL l) ?hI ?hIx ?h0
    (fun b x => { tmps := #[chartV o n cap, .pointer (some ⟨w.heap.size, 0, none⟩), .pointer (some ⟨w.heap.size + 1, 0, none⟩), .int .i64 (x.2 : Nat), .pointer (some ⟨b, 0, none⟩), chartV o n cap, .func (.func 94) #[] #[.pointer (some ⟨w.heap.size + 1 + 1, 0, none⟩)], .int .i64 (x.2 : Nat), rngV x.1, undef, undef, undef, undef, undef, undef, undef, undef, undef, undef, undef, undef, undef, undef], defers := [] })
    (fun A x B => A.alloc (rngO x.1) = B) (fun A x B h => by rw [← h]; exact Moves.of_below ((Below.refl _ _).alloc (Nat.le_refl _) _)) ?assign ?body ?done ?stop
  case hI =>
    rintro X X' xs A B ⟨h, hf⟩ hm hX
    exact ⟨h.moves hm hX, hf⟩
  case hIx =>
    rintro c X X' xs A B ⟨rfl, h, hf⟩ hm hX
    exact ⟨rfl, h.moves hm hX, hf⟩
  case h0 => exact ⟨⟨⟨fun k h => h.elim, BW, by omega⟩, C2, E2⟩, fun i x y hx => by simp at hx⟩
  case assign =>
    rintro l x A K hK
    gi_wp2
    rfl
  case body =>
    rintro lp X pre ⟨x, j⟩ A A' W1 hA1 hpx hAB hm hXn hXn1 hXlt ⟨hI, hf⟩
    obtain ⟨hj, hx, -⟩ := zip_pre hpx
    have hxb : W1.heap[A.heap.size]? = some (rngO x) := by
      have := heap_alloc_new A (rngO x)
      rw [hAB] at this
      exact row_keep this hm (by omega)
    obtain ⟨q0, q1, q2, _⟩ := rng_cells hxb
    have nB := hI.kept.free (o := o) (l := l) (cb := w.heap.size + 1 + 1) (by omega) hlt
    have ce := hI.bb.cell
    have fe := hI.bb.frozen
    have cc : W1.cell? ⟨w.heap.size, 0, none⟩ = some (.slice o n cap) := by rw [cell_of_row _ _ 0 _ _ _ hI.ch]; rfl
    have hAW := HA.out.below hI.kept.below
    have hz := hI.kept.size
    have hjl : j < 1000000 := by have := (List.getElem?_eq_some_iff.1 hx).1; rw [HN.out] at this; omega
    have hjn : j < n := by have := (List.getElem?_eq_some_iff.1 hx).1; rwa [HN.out] at this
    rw [← hj] at hf
    have HI := Lib.hid hI
    have HX := Lib.hid hx
    have HF := Lib.hid hf
    have HNB := Lib.hid nB
    have HJ := Lib.hid hj
    have HAW := Lib.hid hAW
    obtain ⟨a, b, v⟩ := x
    have good : (∀ i y, j = i + 1 → l[i]? = some y → y.2.1 < a) → ∀ q, Hid (seqEndX (DepR (w.heap.size + 1 + 1) o l) X (fun X pre W => AscInv w o n cap X W false ∧ adjL (l.take pre.length)) (fun c X pre W => c = .ret ∧ AscInv w o n cap X W false ∧ ¬ adjL l) (pre ++ [((a, b, v), j)]) W1 .normal ({ tmps := #[], defers := [] } : Act) (W1.drewN q)) := fun h q => by
      refine Lib.hid ⟨moves_drewN _ _ _, ⟨HI.out.kept.turn (moves_drewN (fun _ => False) W1 q) (fun k h => h.elim), HI.out.ch, HI.out.bb⟩, ?_⟩
      rw [List.length_append, ← HJ.out]
      exact adj_snoc HX.out HF.out h
    simp only at q0 q1 q2
    clear hI hx hf nB hpx hm hXlt hXn hXn1 hxb hAB hA1 hAW hj
    cases j with
    | zero =>
      have HR := good (fun i y h => by omega)
      clear good
      gi_wp2_with fail
      refine wpIn_quiet_round lp (by kernel_rfl) (by kernel_rfl) (by kernel_rfl) ?_
      repeat (gi_big_quiet_step (fail))
      refine wpQuietIn_nil ?_
      rintro _ ⟨nq, rfl⟩
      gi_wp2
      exact (HR _).out
    | succ k =>
      obtain ⟨y, hy⟩ : ∃ y, l[k]? = some y := ⟨_, List.getElem?_eq_getElem (by rw [HN.out]; omega)⟩
      obtain ⟨g, off, rfl, hc⟩ := HAW.out (by rw [HN.out]; omega)
      obtain ⟨_, k1, _⟩ := hc k y hy
      have hg := World.block_lt_of_cell? W1 _ k1
      have hw1 : IntKind.i64.wrap (((k : Nat) : Int) + 1 - 1) = (k : Nat) := by rw [show ((k : Nat) : Int) + 1 - 1 = (k : Nat) from by omega]; exact wrap_id (by omega) (by omega)
      have hw2 : IntKind.i64.wrap ((k : Nat) : Int) = (k : Nat) := wrap_id (by omega) (by omega)
      have hkn : k < n := by omega
      have bad : ¬ y.2.1 < a → ∀ q, Hid (seqEndX (DepR (w.heap.size + 1 + 1) (some ⟨g, off, none⟩) l) X (fun X pre W => AscInv w (some ⟨g, off, none⟩) n cap X W false ∧ adjL (l.take pre.length)) (fun c X pre W => c = .ret ∧ AscInv w (some ⟨g, off, none⟩) n cap X W false ∧ ¬ adjL l) (pre ++ [((a, b, v), k + 1)]) W1 .ret ({ tmps := #[], defers := [] } : Act) ((W1.drewN q).setCell ⟨w.heap.size + 1, 0, none⟩ (.bool false))) := fun h q => by
        have hm4 : Moves (fun k => k = w.heap.size + 1) W1 ((W1.drewN q).setCell ⟨w.heap.size + 1, 0, none⟩ (.bool false)) := (moves_drewN _ _ q).trans (Moves.setCell rfl)
        refine Lib.hid ⟨hm4.mono fun k h => HNB.out k (by omega) (by omega), rfl, ⟨HI.out.kept.turn hm4 (fun k h => by omega), row_keep HI.out.ch hm4 (by omega), ?_⟩, fun ha => h (ha k y _ hy HX.out)⟩
        exact (show Boxed (W1.drewN q) (w.heap.size + 1) 4 (.bool false) from HI.out.bb).set _
      have HG := Lib.hid good
      have HBD := Lib.hid bad
      have HY := Lib.hid hy
      obtain ⟨ya, yb, yv⟩ := y
      simp only at k1
      clear good bad hy hc
      by_cases hlt2 : yb < a
      · have HR := HG.out (fun i z h1 h2 => by
          obtain rfl : k = i := by omega
          rw [HY.out] at h2
          cases h2
          exact hlt2)
        have hd : ¬ a ≤ yb := by omega
        clear hlt2
        gi_wp2_with fail
        refine wpIn_quiet_round lp (by kernel_rfl) (by kernel_rfl) (by kernel_rfl) ?_
        repeat (gi_big_quiet_step (fail))
        refine wpQuietIn_nil ?_
        rintro _ ⟨nq, rfl⟩
        gi_wp2
        exact (HR _).out
      · have HR := HBD.out hlt2
        have hd : a ≤ yb := by omega
        clear hlt2
        gi_wp2_with fail
        refine wpIn_quiet_round lp (by kernel_rfl) (by kernel_rfl) (by kernel_rfl) ?_
        repeat (gi_big_quiet_step (fail))
        refine wpQuietIn_nil ?_
        rintro _ ⟨nq, rfl⟩
        gi_wp2
        exact (HR _).out
  case done =>
    rintro X D W hD hXD ⟨hI, hf⟩ hX hK
    rw [List.length_zipIdx, List.take_length] at hf
    have hfe := hI.bb.frozen
    have hce := hI.bb.cell
    have hm1 : Moves (fun k => k = w.heap.size + 1) W (W.setCell ⟨w.heap.size + 1, 0, none⟩ (.bool true)) := Moves.setCell rfl
    have hb1 : Boxed (W.setCell ⟨w.heap.size + 1, 0, none⟩ (.bool true)) (w.heap.size + 1) 4 (.bool true) := hI.bb.set _
    have hne : ¬ D = w.heap.size + 1 := by
      rintro rfl
      have := hI.bb
      unfold Boxed at this
      rw [hK] at this
      cases this
    have hK2 : (W.setCell ⟨w.heap.size + 1, 0, none⟩ (.bool true)).heap[D]? = some (.deferred (some [])) := row_keep hK hm1 hne
    have hb2 : Boxed ((W.setCell ⟨w.heap.size + 1, 0, none⟩ (.bool true)).putObj D (.deferred none)) (w.heap.size + 1) 4 (.bool true) := row_keep hb1 (Moves.putObj (S := fun k => k = D) rfl) (fun h => hne h.symm)
    have hpost : P (.returned (.bool true)) ((W.setCell ⟨w.heap.size + 1, 0, none⟩ (.bool true)).putObj D (.deferred none)) := by
      rw [← HP.out]
      exact ⟨⟨true, rfl, by simp [hf]⟩, Moves.below hI.kept.below hI.kept.below.size (hm1.mono (T := fun k => w.heap.size ≤ k) (fun k h => by omega) |>.trans (Moves.putObj (show w.heap.size ≤ D by omega))) (fun k h => h)⟩
    have HPP := Lib.hid hpost
    have hb2c := hb2.cell
    clear hpost hI hm1 hf hb1
    gi_wp2
    refine ⟨by simp, .inl ⟨_, _, rfl, run_takeDeferred hK2, ?_⟩⟩
    exact ⟨_, results_cell1 rfl _ _ _ _ _ rfl Tryd.underlying4 rfl hb2c, HPP.out⟩
  case stop =>
    rintro X D c pre W hD hXD hpre ⟨rfl, hI, hf⟩ hX hK
    have hm : Moves (fun k => k = D) W (W.putObj D (.deferred none)) := Moves.putObj rfl
    have hne : ¬ D = w.heap.size + 1 := by
      rintro rfl
      have := hI.bb
      unfold Boxed at this
      rw [hK] at this
      cases this
    have hb2c : (W.putObj D (.deferred none)).cell? ⟨w.heap.size + 1, 0, none⟩ = some (.bool false) := (show Boxed (W.putObj D (.deferred none)) (w.heap.size + 1) 4 (.bool false) from row_keep hI.bb hm (fun h => hne h.symm)).cell
    have hpost : P (.returned (.bool false)) (W.putObj D (.deferred none)) := by
      rw [← HP.out]
      exact ⟨⟨false, rfl, by simp [hf]⟩, Moves.below hI.kept.below hI.kept.below.size hm (fun k h => by omega)⟩
    have HPP := Lib.hid hpost
    have hK2 := hK
    clear hpost hI hm
    gi_wp2
    refine ⟨by simp, .inl ⟨_, _, rfl, run_takeDeferred hK2, ?_⟩⟩
    exact ⟨_, results_cell1 rfl _ _ _ _ _ rfl Tryd.underlying4 rfl hb2c, HPP.out⟩
/-- Ranges are a map. -/
def rightL (l : List Rng) : Prop := mapL l ∧ l.length ≤ 600
instance rightL_dec (l : List Rng) : Decidable (rightL l) := by unfold rightL; infer_instance
theorem isMap_any (o : Option Addr) (l : List Rng) (cap : Nat) (hn : l.length ≤ 1000000) (w : World) (hA : AtR w o l) :
    Calls Tryd.prog 79 #[chartV o l.length cap] w fun e w' => e = .returned (.bool (decide (rightL l))) ∧ Below w.heap.size w w' := by
  have A0 : Below w.heap.size w (w.alloc (chartO o l.length cap)) := (Below.refl _ _).alloc (Nat.le_refl _) _
  have hchk := checked_any o l cap hn _ (hA.below A0)
  have hq : chartO o l.length cap = .cells #[.slice o l.length cap] 134 (0, 0) := rfl
  have q0 : (w.alloc (chartO o l.length cap)).heap[w.heap.size]? = some (chartO o l.length cap) := heap_alloc_new _ _
  have HASC := Lib.hid fun (W : World) (hb : Below (w.alloc (chartO o l.length cap)).heap.size (w.alloc (chartO o l.length cap)) W) => ascends_any o l cap hn W ((hA.below A0).below hb)
  obtain ⟨D, hD⟩ : ∃ D, decide (rightL l) = D := ⟨_, rfl⟩
  rw [hD]
  have HD := Lib.hid hD
  obtain ⟨E, hE⟩ : ∃ E, errC (chkL l) = E := ⟨_, rfl⟩
  rw [hE] at hchk
  have HE := Lib.hid hE
  have HCHK := Lib.hid hchk
  have HA0 := Lib.hid A0
  have HQ0 := Lib.hid q0
  obtain ⟨n, hnn⟩ : ∃ n, l.length = n := ⟨_, rfl⟩
  rw [hnn] at HCHK HASC HA0 HQ0 ⊢
  have HN := Lib.hid hnn
  clear hchk hD hE q0 A0 hA hq hnn
  go_enter Tryd.func79, Tryd.ntmps79
  go_wp2_with fail
  refine HCHK.out.mono ?_
  rintro e w1 ⟨rfl, b1⟩
  have c1 : w1.cell? ⟨w.heap.size, 0, none⟩ = some (.slice o n cap) := by rw [cell_of_row _ _ 0 _ _ _ (row_below HQ0.out b1)]; rfl
  have HB1 := Lib.hid b1
  clear b1
  have hee := HE.out
  cases hc : chkL l with
  | none =>
    rw [hc] at hee
    have hE0 : E = .nilIface := by rw [← hee]; rfl
    subst hE0
    have hm := chk_ok.1 hc
    clear hee hc
    have HM := Lib.hid hm
    clear hm
    go_wp2_with fail
    refine (HASC.out w1 HB1.out).mono ?_
    rintro e w2 ⟨⟨B, rfl, hB⟩, b2⟩
    have hDB : D = B := by
      rw [← HD.out, Bool.eq_iff_iff, hB, decide_eq_true_eq]
      exact ⟨fun h => (adj_map HM.out.1).2 h.1.2, fun h => ⟨⟨HM.out.1, (adj_map HM.out.1).1 h⟩, HM.out.2⟩⟩
    subst hDB
    have BB := Lib.hid ((HA0.out.trans (HB1.out.mono (by simp))).trans (b2.mono (by have := HB1.out.size; simp at this; omega)))
    clear b2
    go_wp2
    go_ret
    exact ⟨rfl, BB.out⟩
  | some i =>
    rw [hc] at hee
    have hE0 : E = faultV 22 (i : Nat) := by rw [← hee]; rfl
    subst hE0
    have hDf : D = false := by
      rw [← HD.out]
      refine decide_eq_false fun h => ?_
      have := chk_ok.2 ⟨h.1.1, h.2⟩
      rw [hc] at this
      cases this
    subst hDf
    clear hee hc
    have BB := Lib.hid (HA0.out.trans (HB1.out.mono (by simp)))
    go_wp2
    go_ret
    exact ⟨rfl, BB.out⟩
end Go.Proofs.YtcnbcaljpgdcpaaDoor

namespace Go.Proofs.YtcnbcaljpgdcpaaDoor
open Go.RowKit Go.Shelf

/-- How many ranges, from the first on, end ahead of r. -/
def reachL (l : List Rng) (r : Int) : Nat := (l.takeWhile fun x => decide (x.2.1 < r)).length
abbrev layerV (o : Option Addr) (n cap : Nat) : Value := .agg #[.slice o n cap]
theorem reach_le (l : List Rng) (r : Int) : reachL l r ≤ l.length := by
  unfold reachL
  exact (List.takeWhile_prefix _).length_le
theorem reach_lt : ∀ {l : List Rng} {r : Int} {i : Nat} {x : Rng}, i < reachL l r → l[i]? = some x → x.2.1 < r
  | [], r, i, x, hi, hx => by simp at hx
  | y :: t, r, i, x, hi, hx => by
    unfold reachL at hi
    rw [List.takeWhile_cons] at hi
    split at hi
    · rename_i h
      cases i with
      | zero =>
        have : y = x := by simpa using hx
        subst this
        simpa using h
      | succ i =>
        exact reach_lt (l := t) (i := i) (by unfold reachL; simpa using hi) (by simpa using hx)
    · simp at hi
theorem reach_at {l : List Rng} {r : Int} {x : Rng} (hx : l[reachL l r]? = some x) : ¬ x.2.1 < r := by
  unfold reachL at hx
  induction l with
  | nil => simp at hx
  | cons y t ih =>
    rw [List.takeWhile_cons] at hx
    split at hx
    · exact ih (by simpa using hx)
    · rename_i h
      have : y = x := by simpa using hx
      subst this
      simpa using h
/-- The ends ascend. -/
theorem ends_asc {l : List Rng} (h : l.Pairwise (fun x y => x.2.1 < y.1)) (hok : ∀ x ∈ l, x.1 ≤ x.2.1) {i j : Nat} {x y : Rng} (hij : i ≤ j) (hx : l[i]? = some x) (hy : l[j]? = some y) : x.2.1 ≤ y.2.1 := by
  obtain ⟨hi, ex⟩ := List.getElem?_eq_some_iff.1 hx
  obtain ⟨hj, ey⟩ := List.getElem?_eq_some_iff.1 hy
  rcases Nat.lt_or_ge i j with h1 | h1
  · have := List.pairwise_iff_getElem.1 h i j hi hj h1
    rw [ex, ey] at this
    have := hok y (List.mem_of_getElem? hy)
    omega
  · obtain rfl : i = j := by omega
    rw [hx] at hy
    cases hy
    omega
theorem moves_drewN1 (w : World) (q : Nat) : Moves (fun _ => False) w (w.drewN q) := by
  induction q with
  | zero => exact Moves.refl _ _
  | succ q ih => exact ih.drew
def endsAt (l : List Rng) (r : Int) (i : Nat) : Bool := match l[i]? with
  | some x => !decide (x.2.1 < r)
  | none => true
theorem find_reach : ∀ {l : List Rng} {r : Int}, mapL l → findL l r = match l[reachL l r]? with
    | none => none
    | some x => if r < x.1 then none else some x.2.2
  | [], r, _ => rfl
  | y :: t, r, h => by
    obtain ⟨ht, hy, hlt⟩ := mapL_tail h
    unfold okR at hy
    by_cases h1 : y.2.1 < r
    · have hr : reachL (y :: t) r = reachL t r + 1 := by unfold reachL; rw [List.takeWhile_cons, if_pos (by simpa using h1)]; rfl
      rw [hr, findL, if_neg (by omega), List.getElem?_cons_succ]
      exact find_reach ht
    · have hr : reachL (y :: t) r = 0 := by unfold reachL; rw [List.takeWhile_cons, if_neg (by simpa using h1)]; rfl
      rw [hr, findL]
      show _ = if r < y.1 then none else some y.2.2
      by_cases h2 : r < y.1
      · rw [if_neg (by omega), if_pos h2]
        exact findL_none' fun z hz => by have := hlt z hz; omega
      · rw [if_pos (by omega), if_neg h2]
end Go.Proofs.YtcnbcaljpgdcpaaDoor

namespace Go.Proofs.YtcnbcaljpgdcpaaDoor
open Go.RowKit Go.Shelf Go.Maps
attribute [local go_sem] Oper.semAt_some

theorem keyLaw : Keyed Tryd.prog 3 := int_keyed Tryd.underlying3
/-- A map of the call's ownN, of which the keys are known. -/
def SetOf (W : World) (b n : Nat) (T : List Int) : Prop := ∃ D : DataW Unit, W.ownsMap Tryd.prog 3 (plainElem Tryd.prog 4) b n D ∧ ∀ x : Int, has D (.int .i64 x) = true ↔ x ∈ T
theorem SetOf.made (w : World) : SetOf (w.alloc (.map #[] 0)) w.heap.size 0 [] :=
  ⟨.map [], World.ownsMap_made _ _ _ _, fun x => by simp [has_eq]⟩
theorem SetOf.row {W W' : World} {b n : Nat} {T : List Int} (h : SetOf W b n T) (hb : W'.heap[b]? = W.heap[b]?) : SetOf W' b n T := by
  obtain ⟨D, ⟨es, clock, h1, h2⟩, hT⟩ := h
  exact ⟨D, ⟨es, clock, hb.trans h1, h2⟩, hT⟩
theorem SetOf.lt {W : World} {b n : Nat} {T : List Int} (h : SetOf W b n T) : b < W.heap.size := by
  obtain ⟨D, ⟨es, clock, h1, _⟩, _⟩ := h
  exact (Array.getElem?_eq_some_iff.1 h1).1
theorem has_put_iff {D : DataW Unit} {T : List Int} {x : Int} {d : DataW Unit} (hD : IsMap D) (hT : ∀ x : Int, has D (.int .i64 x) = true ↔ x ∈ T) : ∀ y : Int, has (D.put (.int .i64 x) d) (.int .i64 y) = true ↔ y ∈ T ++ [x] := fun y => by
  by_cases hxy : y = x
  · subst hxy
    rw [has_put_same hD (by trivial)]
    simp
  · rw [has_put_other (fun e => hxy (by simpa using e)), hT]
    simp [hxy]
theorem own_isMap {W : World} {b n : Nat} {D : DataW Unit} (hown : W.ownsMap Tryd.prog 3 (plainElem Tryd.prog 4) b n D) : IsMap D := by
  obtain ⟨es, clock, _, _, _, hD⟩ := hown
  exact ⟨_, hD⟩
theorem key_int {x : Int} (h1 : 0 ≤ x) (h2 : x ≤ 1114112) : keyOf Tryd.prog 3 (.int .i64 x) = some (.int .i64 x) := by
  refine keyOf_int_mk Tryd.underlying3 ?_
  simp only [Lit.wf, Bool.and_eq_true, decide_eq_true_eq]
  have e1 : IntKind.i64.min = -(2 ^ 63) := by decide
  have e2 : IntKind.i64.max = 2 ^ 63 - 1 := by decide
  rw [e1, e2]
  omega
theorem elem_true : plainElem (H := Unit) Tryd.prog 4 (.bool true) = some (.lit (.bool true), []) := by
  unfold plainElem
  rw [Tryd.underlying4]
/-- Layers in a row: a slice each. -/
abbrev LayX := Option Addr × List Rng × Nat
def LaysAt (w : World) (g off : Nat) (ls : List LayX) : Prop := ∀ (j : Nat) (x : LayX), ls[j]? = some x → w.cell? ⟨g, off + j, none⟩ = some (.slice x.1 x.2.1.length x.2.2) ∧ AtR w x.1 x.2.1 ∧ mapL x.2.1 ∧ x.2.1.length ≤ 1000
theorem turnsOf_snoc {l : List Rng} {j : Nat} {x : Rng} (h : l[j]? = some x) : turnsOf (l.take (j + 1)) = turnsOf (l.take j) ++ [x.1] ++ [x.2.1 + 1] := by
  unfold turnsOf
  rw [List.take_add_one, h, List.flatMap_append]
  simp
def dfr (ds : List Nat) : List Deferred := ds.map fun D => { target := .collected D, args := #[] }
/-- A body's end, where ranges over functions have left marks. -/
theorem leaves_many {P : Program} {n : Nat} {fn : Func} {tmps : Array Value} {R : Ending → World → Prop} : ∀ (ds : List Nat) (W : World), (∀ D ∈ ds, W.heap[D]? = some (.deferred (some []))) → ds.Nodup →
    (∀ W', Moves (fun k => k ∈ ds) W W' → ∃ v, (results fn tmps).run P W' = .ok v W' ∧ R (.returned v) W') → LeavesInM Fence.wide n P fn tmps R (dfr ds) .returning W
  | [], W, _, _, hR => hR W (Moves.refl _ _)
  | D :: ds, W, hD, hnd, hR => by
    obtain ⟨hn, hnd'⟩ := List.nodup_cons.1 hnd
    refine ⟨by simp, .inl ⟨_, _, rfl, run_takeDeferred (hD D List.mem_cons_self), ?_⟩⟩
    refine leaves_many ds _ (fun E hE => ?_) hnd' fun W' hm => hR W' (((Moves.putObj (List.mem_cons_self)).trans (hm.mono fun k hk => List.mem_cons_of_mem _ hk)))
    exact (World.putObj_heap_other (by rintro rfl; exact hn hE)).trans (hD E (List.mem_cons_of_mem _ hE))
theorem moves_grown {w w' : World} {row : Option Nat} (h : w.grownBy w' row) : Moves (fun k => some k = row) w w' := ⟨h.os, h.tape, h.output, h.size, fun k hk hr => h.block k hk hr⟩
/-- The marks that ranges over functions have left. -/
def Marks (w : World) (ds : List Nat) (X : Nat → Prop) (W : World) : Prop := ds.Nodup ∧ ∀ D ∈ ds, w.heap.size + 2 ≤ D ∧ W.heap[D]? = some (.deferred (some [])) ∧ ¬ X D
theorem Marks.moves {w : World} {ds : List Nat} {X X' : Nat → Prop} {A B : World} (h : Marks w ds X A) (hm : Moves X A B) (hX : ∀ k, X' k → (X k ∨ A.heap.size ≤ k) ∧ k < B.heap.size) : Marks w ds X' B := by
  refine ⟨h.1, fun D hD => ?_⟩
  obtain ⟨h1, h2, h3⟩ := h.2 D hD
  have hlt := (Array.getElem?_eq_some_iff.1 h2).1
  exact ⟨h1, row_keep h2 hm h3, fun hx => by rcases (hX D hx).1 with h | h; { exact h3 h }; { omega }⟩
theorem Marks.turn {w : World} {ds : List Nat} {X S : Nat → Prop} {A B : World} (h : Marks w ds X A) (hm : Moves S A B) (hS : ∀ D ∈ ds, ¬ S D) : Marks w ds X B := by
  refine ⟨h.1, fun D hD => ?_⟩
  obtain ⟨h1, h2, h3⟩ := h.2 D hD
  exact ⟨h1, row_keep h2 hm (hS D hD), h3⟩
def listsOf (ls : List LayX) : List (List Rng) := ls.map fun x => x.2.1
def turnsFrame (w : World) (S : Value) (k j : Nat) (u5 u12 u13 u14 u15 u16 u17 u27 : Value) (ds : List Nat) : Act :=
  { tmps := #[S, undef, .map none, .pointer (some ⟨w.heap.size + 1, 0, none⟩), undef, u5, undef, undef, .map (some w.heap.size), S, .int .i64 (k : Nat), .int .i64 (j : Nat), u12, u13, u14, u15, u16, u17, undef, undef, undef, undef, undef, undef, undef, undef, undef, u27, undef], defers := dfr ds }
end Go.Proofs.YtcnbcaljpgdcpaaDoor

namespace Go.Proofs.YtcnbcaljpgdcpaaDoor
open Go.RowKit Go.Shelf Go.Maps
attribute [local go_sem] Oper.semAt_some

abbrev encL (x : LayX × Nat) : Array Value := #[.int .i64 (x.2 : Nat), .agg #[.slice x.1.1 x.1.2.1.length x.1.2.2]]
theorem rev_get {α : Type} {l : List α} {p q : Nat} {x : α} (hx : l[q]? = some x) (hpq : p + (q + 1) = l.length) : (l.zipIdx.reverse)[p]? = some (x, q) := by
  rw [List.getElem?_reverse (by rw [List.length_zipIdx]; omega), List.length_zipIdx, show l.length - 1 - p = q from by omega, List.getElem?_zipIdx, hx]
  simp
theorem take_one {α : Type} {l : List α} {i : Nat} {x : α} (h : l[i]? = some x) : l.take i ++ [x] = l.take (i + 1) := by
  rw [List.take_add_one, h]; rfl
theorem saidL_append : ∀ (a b : List (List Rng)) (r : Int), saidL (a ++ b) r = (saidL b r).or (saidL a r)
  | [], b, r => by simp [saidL]
  | x :: a, b, r => by
    rw [List.cons_append, saidL, saidL, saidL_append a b r, Option.or_assoc]
abbrev DepL (cb g : Nat) (k : Nat) : Prop := k = cb ∨ k = g
theorem run_loadVar_cell {P : Program} {ty : TypeId} {d : TypeDesc} {a : Addr} {v : Value} {w : World} (hu : P.underlying ty = some d) (hd : (match d with | .struct _ | .array _ _ => true | _ => false) = false) (hc : w.cell? a = some v) : (loadVar ty a).run P w = .ok v w := by
  cases d <;> simp at hd <;> simp [loadVar, isAgg, underlying, hu, hc, Result.andThen]
theorem results_cells2 {P : Program} {fn : Func} {p q : Tmp} {ty tz : TypeId} (h : fn.results = #[.cell p ty, .cell q tz]) (tmps : Array Value) (w : World) (a b : Addr) (u v : Value)
    (hp : tmps.getD p undef = .pointer (some a)) (hq : tmps.getD q undef = .pointer (some b)) (hu : (loadVar ty a).run P w = .ok u w) (hv : (loadVar tz b).run P w = .ok v w) :
    (results fn tmps).run P w = .ok (.tuple #[u, v]) w := by
  have hp' : tmps[p]?.getD undef = .pointer (some a) := by simpa using hp
  have hq' : tmps[q]?.getD undef = .pointer (some b) := by simpa using hq
  simp [results, h, hp', hq', asAddr, hu, hv, Result.andThen]
end Go.Proofs.YtcnbcaljpgdcpaaDoor

namespace Go.Proofs.YtcnbcaljpgdcpaaDoor
open Go.RowKit Go.Shelf Go.Maps
attribute [local go_sem] Oper.semAt_some

structure LaidInv (w : World) (r : Int) (X : Nat → Prop) (W : World) (s : Option Int) : Prop where
  kept : Kept w 3 X W
  rb : Boxed W w.heap.size 3 (.int .i64 r)
  vb : Boxed W (w.heap.size + 1) 3 (.int .i64 (s.getD 0))
  fb : Boxed W (w.heap.size + 2) 4 (.bool s.isSome)
theorem LaidInv.moves {w : World} {r : Int} {X X' : Nat → Prop} {A B : World} {s : Option Int} (h : LaidInv w r X A s) (hm : Moves X A B) (hX : ∀ k, X' k → (X k ∨ A.heap.size ≤ k) ∧ k < B.heap.size) : LaidInv w r X' B s :=
  ⟨h.kept.moves hm hX, h.kept.row hm (by omega) h.rb, h.kept.row hm (by omega) h.vb, h.kept.row hm (by omega) h.fb⟩
theorem LaidInv.below {w : World} {r : Int} {X : Nat → Prop} {A B : World} {s : Option Int} (h : LaidInv w r X A s) (hb : Below A.heap.size A B) : LaidInv w r X B s := by
  have hm : Moves (fun _ => False) A B := Moves.of_below hb
  exact ⟨h.kept.turn hm (fun k h => h.elim), row_keep h.rb hm id, row_keep h.vb hm id, row_keep h.fb hm id⟩
/-- What the layers from behind say. -/
def saidFrom (ls : List LayX) (p : Nat) (r : Int) : Option Int := saidL (listsOf (ls.drop (ls.length - p))) r
theorem saidFrom_step {ls : List LayX} {p q : Nat} {x : LayX} {r : Int} (hx : ls[q]? = some x) (hpq : p + (q + 1) = ls.length) : saidFrom ls (p + 1) r = (saidFrom ls p r).or (findL x.2.1 r) := by
  have hlt := (List.getElem?_eq_some_iff.1 hx).1
  unfold saidFrom
  rw [show ls.length - (p + 1) = q from by omega, show ls.length - p = q + 1 from by omega, List.drop_eq_getElem_cons hlt, (List.getElem?_eq_some_iff.1 hx).2]
  rfl
theorem saidFrom_some {ls : List LayX} {p : Nat} {r v : Int} (h : saidFrom ls p r = some v) : saidL (listsOf ls) r = some v := by
  have e : ls = ls.take (ls.length - p) ++ ls.drop (ls.length - p) := (List.take_append_drop _ _).symm
  have e2 : listsOf ls = listsOf (ls.take (ls.length - p)) ++ listsOf (ls.drop (ls.length - p)) := by
    unfold listsOf
    rw [← List.map_append, List.take_append_drop]
  rw [e2, saidL_append]
  unfold saidFrom at h
  rw [h]
  rfl
theorem rev_pre {α : Type} {l : List α} {pre : List (α × Nat)} {x : α} {n : Nat} (h : pre ++ [(x, n)] <+: l.zipIdx.reverse) : pre.length + (n + 1) = l.length ∧ l[n]? = some x := by
  obtain ⟨t, ht⟩ := h
  have h1 : (l.zipIdx.reverse)[pre.length]? = some (x, n) := by rw [← ht]; simp
  have hlt : pre.length < l.length := by have := (List.getElem?_eq_some_iff.1 h1).1; simpa using this
  rw [List.getElem?_reverse (by simpa using hlt), List.length_zipIdx, List.getElem?_zipIdx] at h1
  cases hx : l[l.length - 1 - pre.length]? with
  | none => rw [hx] at h1; cases h1
  | some y =>
    rw [hx] at h1
    simp at h1
    obtain ⟨rfl, rfl⟩ := h1
    exact ⟨by omega, hx⟩
end Go.Proofs.YtcnbcaljpgdcpaaDoor

namespace Go.Proofs.YtcnbcaljpgdcpaaDoor
open Go.RowKit Go.Shelf Go.Maps

/-- Numbers that rise. -/
def risesL (ps : List Int) : Prop := ps.Pairwise (fun x y => x < y)
theorem rises_of {ss : List Int} (hn : ss.Nodup) : risesL (ss.mergeSort fun x y => decide (x ≤ y)) := by
  have hs : (ss.mergeSort fun x y => decide (x ≤ y)).Pairwise (fun a b => decide (a ≤ b) = true) :=
    List.pairwise_mergeSort (fun a b c h1 h2 => by simp at *; omega) (fun a b => by simp; omega) ss
  have hnd : (ss.mergeSort fun x y => decide (x ≤ y)).Nodup := (List.mergeSort_perm ss _).nodup_iff.2 hn
  refine (hs.and hnd).imp fun {a b} h => ?_
  have h1 : a ≤ b := by simpa using h.1
  have h2 : a ≠ b := h.2
  omega
/-- Each number once. -/
def onceL : List Int → List Int
  | [] => []
  | x :: l => if x ∈ onceL l then onceL l else x :: onceL l
theorem once_mem : ∀ (l : List Int) (x : Int), x ∈ onceL l ↔ x ∈ l
  | [], x => by simp [onceL]
  | y :: l, x => by
    unfold onceL
    split
    · rename_i h
      rw [once_mem l x, List.mem_cons]
      constructor
      · exact .inr
      · rintro (rfl | h2)
        · exact (once_mem l _).1 h
        · exact h2
    · rw [List.mem_cons, List.mem_cons, once_mem l x]
theorem once_nodup : ∀ l : List Int, (onceL l).Nodup
  | [] => List.nodup_nil
  | y :: l => by
    unfold onceL
    split
    · exact once_nodup l
    · rename_i h
      exact List.nodup_cons.2 ⟨h, once_nodup l⟩
theorem keys_of {W : World} {b n : Nat} {T : List Int} {D : DataW Unit} (hown : W.ownsMap Tryd.prog 3 (plainElem Tryd.prog 4) b n D) (hT : ∀ x : Int, has D (.int .i64 x) = true ↔ x ∈ T) {ss : List Int} (hp : ss.Perm (intKeys D)) :
    ss.Nodup ∧ ∀ x, x ∈ ss ↔ x ∈ T := by
  have hc : CollectedI D (fun _ => false) (onceL T) := ⟨once_nodup T, fun x => by rw [once_mem, ← hT x]; simp⟩
  have hq := hp.trans (hc.perm hown keyLaw Tryd.underlying3 (fun _ => rfl)).symm
  exact ⟨hq.nodup_iff.2 (once_nodup T), fun x => by rw [hq.mem_iff, once_mem]⟩
end Go.Proofs.YtcnbcaljpgdcpaaDoor

namespace Go.Proofs.YtcnbcaljpgdcpaaDoor
open Go.RowKit Go.Shelf Go.Maps
attribute [local go_sem] Oper.semAt_some

def placesL (T : List Int) : List Int := (onceL T).mergeSort fun x y => decide (x ≤ y)
theorem places_rise (T : List Int) : risesL (placesL T) := rises_of (once_nodup T)
theorem places_mem (T : List Int) (x : Int) : x ∈ placesL T ↔ x ∈ T := by
  unfold placesL
  rw [(List.mergeSort_perm _ _).mem_iff, once_mem]
theorem once_length : ∀ l : List Int, (onceL l).length ≤ l.length
  | [] => Nat.le_refl _
  | y :: l => by
    have := once_length l
    unfold onceL
    split <;> simp <;> omega
theorem places_length (T : List Int) : (placesL T).length ≤ T.length := by
  unfold placesL
  rw [List.length_mergeSort]
  exact once_length T
/-- From each place to right ahead of the next one. -/
def strL : List Int → List (Int × Int)
  | x :: y :: l => (x, y - 1) :: strL (y :: l)
  | _ => []
theorem strL_get : ∀ {ps : List Int} {i : Nat} {x y : Int}, ps[i]? = some x → ps[i + 1]? = some y → (strL ps)[i]? = some (x, y - 1)
  | [], i, x, y, h, _ => by simp at h
  | [a], i, x, y, _, h => by simp at h
  | a :: b :: l, 0, x, y, h1, h2 => by
    simp at h1 h2
    subst h1 h2
    rfl
  | a :: b :: l, i + 1, x, y, h1, h2 => by
    unfold strL
    rw [List.getElem?_cons_succ]
    exact strL_get (by simpa using h1) (by simpa using h2)
theorem strL_length : ∀ ps : List Int, (strL ps).length = ps.length - 1
  | [] => rfl
  | [a] => rfl
  | a :: b :: l => by
    have := strL_length (b :: l)
    unfold strL
    simp only [List.length_cons] at this ⊢
    omega
theorem size_le {W : World} {b n : Nat} {D : DataW Unit} (hown : W.ownsMap Tryd.prog 3 (plainElem Tryd.prog 4) b n D) : Maps.size D ≤ n := by
  obtain ⟨es, clock, _, _, hs, rfl⟩ := hown
  rw [size_eq, length_sorted]
  simpa using hs
abbrev encP (x : Int × Int) : Array Value := #[.int .i64 x.1, .int .i64 x.2]
theorem own_ints {w : World} {base : Nat} {v : Value} {ps : List Int} (h : w.ownsRow base 3 1 v ps.length (ps.map encZ)) (hn : 0 < ps.length) : ∃ g cap, v = .slice (some ⟨g, 0, none⟩) ps.length cap ∧ base ≤ g ∧ g < w.heap.size ∧ ∀ (i : Nat) (x : Int), ps[i]? = some x → w.cell? ⟨g, i, none⟩ = some (.int .i64 x) := by
  rcases h.2 with ⟨_, h0⟩ | ⟨g, cap, cur, rfl, hb, hg, _, _, _, htake⟩
  · omega
  · refine ⟨g, cap, rfl, hb, (Array.getElem?_eq_some_iff.1 hg).1, fun i x hx => ?_⟩
    rw [cell_of_row _ _ i _ _ _ hg]
    have h1 : (ps.map encZ)[i]? = some (encZ x) := by rw [List.getElem?_map, hx]; rfl
    rw [← htake, List.getElem?_take] at h1
    split at h1
    · simpa using h1
    · cases h1
theorem pre_snoc {α : Type} {l : List α} {i : Nat} {x : α} (h : l[i]? = some x) : l.take i ++ [x] = l.take (i + 1) := by
  rw [List.take_add_one, h]; rfl
end Go.Proofs.YtcnbcaljpgdcpaaDoor

namespace Go.Proofs.YtcnbcaljpgdcpaaDoor
open Go.RowKit Go.Shelf Go.Maps

def layerR (o : Option Addr) (l : List Rng) : Value := if rightL l then .tuple #[layerV o l.length l.length, .nilIface] else .tuple #[layerV none 0 0, faultV 22 0]
end Go.Proofs.YtcnbcaljpgdcpaaDoor

namespace Go.Proofs.YtcnbcaljpgdcpaaDoor
open Go.RowKit Go.Shelf Go.Maps

theorem infoRng : (Tryd.prog.info? 106).map (fun i => (i.zero, i.size, i.bytes)) = some (some (rngV (0, 0, 0)), 3, 24) := by kernel_rfl
theorem cellsR_append (a b : List Rng) : cellsR (a ++ b) = cellsR a ++ cellsR b := by unfold cellsR; rw [List.flatMap_append]
theorem cellsR_one (x : Rng) : cellsR [x] = [.int .i64 x.1, .int .i64 x.2.1, .int .i64 x.2.2] := rfl
theorem cellsR_length : ∀ l : List Rng, (cellsR l).length = l.length * 3
  | [] => rfl
  | x :: l => by
    have := cellsR_length l
    unfold cellsR at this ⊢
    rw [List.flatMap_cons, List.length_append, this]
    simp
    omega
theorem cellsR_one' (l : List Rng) : ∀ u ∈ cellsR l, u.oneCell' = true := by
  intro u hu
  unfold cellsR at hu
  obtain ⟨x, _, hu⟩ := List.mem_flatMap.1 hu
  simp only [List.mem_cons, List.not_mem_nil, or_false] at hu
  rcases hu with rfl | rfl | rfl <;> rfl
theorem cellsR_get : ∀ {l : List Rng} {j : Nat} {x : Rng}, l[j]? = some x → (cellsR l)[j * 3]? = some (.int .i64 x.1) ∧ (cellsR l)[j * 3 + 1]? = some (.int .i64 x.2.1) ∧ (cellsR l)[j * 3 + 2]? = some (.int .i64 x.2.2)
  | [], j, x, h => by simp at h
  | y :: l, 0, x, h => by
    obtain rfl : y = x := by simpa using h
    exact ⟨rfl, rfl, rfl⟩
  | y :: l, j + 1, x, h => by
    have := cellsR_get (l := l) (j := j) (x := x) (by simpa using h)
    unfold cellsR at this ⊢
    rw [List.flatMap_cons]
    rw [show (j + 1) * 3 = j * 3 + 3 from by omega]
    simpa using this
theorem addr_atN (g i : Nat) : (⟨g, 0, none⟩ : Addr).add i = ⟨g, i, none⟩ := by unfold Addr.add; split <;> simp_all
/-- Of an ownN row each range is at its place. -/
theorem at_own {w : World} {base : Nat} {o : Option Addr} {l : List Rng} {cap : Nat} (h : w.ownsRow base 106 3 (.slice o l.length cap) l.length (cellsR l)) : AtR w o l := fun hn => by
  rcases h.2 with ⟨_, h0⟩ | ⟨g, cap', cur, e, _, hg, _, _, _, htake⟩
  · omega
  · obtain ⟨rfl, rfl⟩ : o = some ⟨g, 0, none⟩ ∧ cap = cap' := by simpa using e
    have key : ∀ i u, (cellsR l)[i]? = some u → w.cell? ⟨g, i, none⟩ = some u := fun i u hu => by
      rw [cell_of_row _ _ i _ _ _ hg]
      rw [← htake, List.getElem?_take] at hu
      split at hu
      · rwa [Array.getElem?_toList] at hu
      · cases hu
    refine ⟨g, 0, rfl, fun j x hx => ?_⟩
    obtain ⟨h0, h1, h2⟩ := cellsR_get hx
    rw [Nat.zero_add]
    exact ⟨key _ _ h0, key _ _ h1, key _ _ h2⟩
theorem own_capR {w : World} {base : Nat} {o : Option Addr} {l : List Rng} {cap : Nat} (h : w.ownsRow base 106 3 (.slice o l.length cap) l.length (cellsR l)) : l.length ≤ cap := own_cap h
/-- append of one range. -/
theorem rng_own {W : World} {base k : Nat} {v : Value} {xs : List Value} (x : Rng) (ho : W.ownsRow base 106 3 v k xs) (hk : k ≤ 100000) (hbase : base ≤ W.heap.size) {e : Nat} (he : W.heap[e]? = some (rngO x)) :
    ∃ g cap w6, (appSem #[44, 44] 44 #[v, .slice (some ⟨e, 0, none⟩) 1 1]).run Tryd.prog W = .ok (.slice (some ⟨g, 0, none⟩) (k + 1) cap) w6 ∧
      w6.ownsRow base 106 3 (.slice (some ⟨g, 0, none⟩) (k + 1) cap) (k + 1) (xs ++ cellsR [x]) ∧ W.grownBy w6 v.ownBlock ∧ (∀ j, (Value.slice (some ⟨g, 0, none⟩) (k + 1) cap).ownBlock = some j → v.ownBlock = some j ∨ j = W.heap.size) := by
  obtain ⟨i0, hi, hz0, hz1, hz2⟩ := info_parts infoRng
  obtain ⟨c0, c1, c2, _⟩ := rng_cells he
  obtain ⟨v', w6, hr, h2, h3, h4, h5⟩ := run_append_own_at (P := Tryd.prog) W base 44 44 106 i0 (rngV (0, 0, 0)) 3 24 Tryd.underlying44 hi hz0 hz1 hz2 rfl (by decide) v k xs ho ⟨e, 0, none⟩ 1 1 (cellsR [x]) rfl
    (fun j u hj => by
      match j, hj with
      | 0, hj => cases hj; exact c0
      | 1, hj => cases hj; exact c1
      | 2, hj => cases hj; exact c2) (cellsR_one' _) (by unfold maxLen; omega) (by omega) hbase
  obtain ⟨g, cap, rfl⟩ := ownsRow_succ h2
  exact ⟨g, cap, w6, hr, h2, h3, fun j hj => h5.imp (fun h => h.symm.trans hj) (fun h => by rw [h] at hj; cases hj; rfl)⟩
/-- copy behind a name that the walk does not open. -/
def copSem (ats : Array TypeId) (ty : TypeId) (args : Array Value) : Sem Value := Builtin.copy_ ats ty args
theorem cop_hide (ats : Array TypeId) (ty : TypeId) (args : Array Value) : Builtin.copy_ ats ty args = copSem ats ty args := rfl
theorem run_copyR (w : World) (ty : TypeId) (g o dLen dCap : Nat) (a : Addr) (sLen sCap : Nat) (cur : List Value) (t : TypeId) (cs : List Value) (k : Nat) (hk : Nat.min sLen dLen = k)
    (hg : w.heap[g]? = some (.cells cur.toArray t (0, 0))) (hn : cs.length = k * 3) (hsrc : ∀ j v, cs[j]? = some v → w.cell? (a.add j) = some v) (hfit : o + cs.length ≤ cur.length) (h1 : ∀ v ∈ cs, v.oneCell' = true) :
    (copSem #[44, 44] ty #[.slice (some ⟨g, o, none⟩) dLen dCap, .slice (some a) sLen sCap]).run Tryd.prog w =
      .ok (goInt k) (w.setRow g (cur.take o ++ cs ++ cur.drop (o + cs.length)).toArray) := by
  obtain ⟨i0, hi, hz0, hz1, hz2⟩ := info_parts infoRng
  have hl := run_loadCells_list (P := Tryd.prog) w a cs hsrc
  rw [hn] at hl
  have hst := run_storeCells_at Tryd.prog g o t cs 0 cur.toArray w hg (by simpa using hfit) h1
  simp [copSem, Builtin.copy_, run_underlying Tryd.underlying44, Builtin.lenOf, Builtin.firstCells, sizeOf, typeInfo, hi, hz1, hk, hl, hst]
/-- A row into which cells have been put between others. -/
theorem put_shift {α : Type} (L A X B : List α) (hA : L.take A.length = A) (hL : A.length + X.length + B.length ≤ L.length) :
    let L1 := L.take (A.length + X.length) ++ B ++ L.drop (A.length + X.length + B.length)
    ∃ R, L1.take A.length ++ X ++ L1.drop (A.length + X.length) = A ++ X ++ B ++ R ∧ (A ++ X ++ B ++ R).length = L.length := by
  intro L1
  refine ⟨L.drop (A.length + X.length + B.length), ?_, by simp; omega⟩
  have h1 : L1.take A.length = A := by
    show (L.take (A.length + X.length) ++ B ++ L.drop (A.length + X.length + B.length)).take A.length = A
    rw [List.append_assoc, List.take_append_of_le_length (by rw [List.length_take]; omega), List.take_take, Nat.min_eq_left (by omega), hA]
  have h2 : L1.drop (A.length + X.length) = B ++ L.drop (A.length + X.length + B.length) := by
    show (L.take (A.length + X.length) ++ B ++ L.drop (A.length + X.length + B.length)).drop (A.length + X.length) = _
    have hl : (L.take (A.length + X.length)).length = A.length + X.length := by rw [List.length_take]; omega
    have := List.drop_left (l₁ := L.take (A.length + X.length)) (l₂ := B ++ L.drop (A.length + X.length + B.length))
    rw [hl] at this
    rw [List.append_assoc]
    exact this
  rw [h1, h2]
  simp
theorem put_fresh {α : Type} (L A X B : List α) (hA : L.take A.length = A) (hL : A.length + X.length + B.length ≤ L.length) :
    let L1 := L.take A.length ++ X ++ L.drop (A.length + X.length)
    ∃ R, L1.take (A.length + X.length) ++ B ++ L1.drop (A.length + X.length + B.length) = A ++ X ++ B ++ R ∧ (A ++ X ++ B ++ R).length = L.length := by
  intro L1
  have e : L1 = (A ++ X) ++ L.drop (A.length + X.length) := by show L.take A.length ++ X ++ _ = _; rw [hA]
  have hl : (A ++ X).length = A.length + X.length := List.length_append
  refine ⟨L1.drop (A.length + X.length + B.length), ?_, ?_⟩
  · have h1 : L1.take (A.length + X.length) = A ++ X := by rw [e, ← hl, List.take_left]
    rw [h1]
  · have : L1.length = L.length := by rw [e, List.length_append, hl, List.length_drop]; omega
    rw [List.length_append, List.length_append, hl, List.length_drop, this]
    omega
end Go.Proofs.YtcnbcaljpgdcpaaDoor

namespace Go.Proofs.YtcnbcaljpgdcpaaDoor
open Go.RowKit Go.Shelf Go.Maps
attribute [local go_sem ↓] app_hide cop_hide

theorem own_of_row {W : World} {base g cap : Nat} {l : List Rng} {cur : List Value} (hg : W.heap[g]? = some (.cells cur.toArray 106 (0, 0))) (hb : base ≤ g) (hc : l.length ≤ cap) (hm : cap ≤ maxLen) (hs : cur.length = cap * 3) (ht : cur.take (l.length * 3) = cellsR l) :
    W.ownsRow base 106 3 (.slice (some ⟨g, 0, none⟩) l.length cap) l.length (cellsR l) :=
  ⟨cellsR_length l, .inr ⟨g, cap, _, rfl, hb, hg, hc, hm, by simpa using hs, by simpa using ht⟩⟩
def insAt (l : List Rng) (i : Nat) (x : Rng) : List Rng := l.take i ++ [x] ++ l.drop i
theorem insAt_length {l : List Rng} {i : Nat} (hi : i ≤ l.length) (x : Rng) : (insAt l i x).length = l.length + 1 := by unfold insAt; simp; omega
/-- What Insert leaves. -/
def InsPost (l : List Rng) (i : Nat) (x : Rng) (base : Nat) (v : Value) (w : World) (e : Ending) (w' : World) : Prop :=
  ∃ g cap, e = .returned (.slice (some ⟨g, 0, none⟩) (l.length + 1) cap) ∧ w'.ownsRow base 106 3 (.slice (some ⟨g, 0, none⟩) (l.length + 1) cap) (l.length + 1) (cellsR (insAt l i x)) ∧ w.grownBy w' v.ownBlock ∧ (v.ownBlock = some g ∨ w.heap.size ≤ g)
end Go.Proofs.YtcnbcaljpgdcpaaDoor

namespace Go.Proofs.YtcnbcaljpgdcpaaDoor
open Go.RowKit Go.Shelf Go.Maps

theorem Moves.of_grownN {w w' : World} {row : Option Nat} (h : w.grownBy w' row) : Moves (fun k => some k = row) w w' := ⟨h.os, h.tape, h.output, h.size, fun k hk hr => h.block k hk hr⟩
theorem own_moves1N {A B : World} {base : Nat} {e : TypeId} {size : Nat} {v : Value} {n : Nat} {xs : List Value} {S : Nat → Prop} (h : A.ownsRow base e size v n xs) (hm : Moves S A B) (hS : ∀ k, v.ownBlock = some k → ¬ S k) : B.ownsRow base e size v n xs := by
  refine ⟨h.1, ?_⟩
  rcases h.2 with hn | ⟨g, cap, cur, rfl, hg, hh, rest⟩
  · exact .inl hn
  · exact .inr ⟨g, cap, cur, rfl, hg, (hm.block _ (Array.getElem?_eq_some_iff.1 hh).1 (hS g (by simp [Value.ownBlock]))).trans hh, rest⟩
/-- Some range has a number that x has. -/
def lapL (l : List Rng) (x : Rng) : Prop := ∃ y ∈ l, y.1 ≤ x.2.1 ∧ x.1 ≤ y.2.1
theorem lap_at {l : List Rng} {x : Rng} (hl : mapL l) : (∃ z, l[reachL l x.1]? = some z ∧ z.1 ≤ x.2.1) ↔ lapL l x := by
  constructor
  · rintro ⟨z, hz, h1⟩
    have := reach_at hz
    exact ⟨z, List.mem_of_getElem? hz, h1, by omega⟩
  · rintro ⟨y, hy, h1, h2⟩
    obtain ⟨j, hj⟩ := List.mem_iff_getElem?.1 hy
    have hjr : reachL l x.1 ≤ j := by
      rcases Nat.lt_or_ge j (reachL l x.1) with h | h
      · have := reach_lt h hj; omega
      · exact h
    have hlt := (List.getElem?_eq_some_iff.1 hj).1
    obtain ⟨z, hz⟩ : ∃ z, l[reachL l x.1]? = some z := ⟨_, List.getElem?_eq_getElem (by omega)⟩
    refine ⟨z, hz, ?_⟩
    rcases Nat.lt_or_ge (reachL l x.1) j with h | h
    · obtain ⟨i1, e1⟩ := List.getElem?_eq_some_iff.1 hz
      obtain ⟨i2, e2⟩ := List.getElem?_eq_some_iff.1 hj
      have h3 := List.pairwise_iff_getElem.1 hl.2 _ _ i1 i2 h
      rw [e1, e2] at h3
      have h4 := hl.1 z (List.mem_of_getElem? hz)
      unfold okR at h4
      omega
    · obtain rfl : reachL l x.1 = j := by omega
      rw [hz] at hj
      cases hj
      exact h1
def putAt (l : List Rng) (x : Rng) : List Rng := insAt l (reachL l x.1) x
end Go.Proofs.YtcnbcaljpgdcpaaDoor

namespace Go.Proofs.YtcnbcaljpgdcpaaDoor
open Go.RowKit Go.Shelf Go.Maps
attribute [local go_sem ↓] app_hide

def JoinPost (m : List Rng) (x : Rng) (base : Nat) (v : Value) (w : World) (e : Ending) (w' : World) : Prop :=
  ∃ g cap, e = .returned (.slice (some ⟨g, 0, none⟩) (joinL m x).length cap) ∧ w'.ownsRow base 106 3 (.slice (some ⟨g, 0, none⟩) (joinL m x).length cap) (joinL m x).length (cellsR (joinL m x)) ∧
    Moves (fun k => v.ownBlock = some k) w w' ∧ (v.ownBlock = some g ∨ w.heap.size ≤ g)
theorem cells_set (d : List Rng) (y : Rng) (t : Int) : (cellsR (d ++ [y])).set (d.length * 3 + 1) (.int .i64 t) = cellsR (d ++ [(y.1, t, y.2.2)]) := by
  rw [cellsR_append, cellsR_append, List.set_append_right _ _ (by rw [cellsR_length]; omega), cellsR_length, show d.length * 3 + 1 - d.length * 3 = 1 from by omega]
  rfl
theorem own_set {w : World} {base g cap : Nat} {d : List Rng} {y : Rng} (t : Int) (h : w.ownsRow base 106 3 (.slice (some ⟨g, 0, none⟩) (d.length + 1) cap) (d.length + 1) (cellsR (d ++ [y]))) :
    (w.setCell ⟨g, d.length * 3 + 1, none⟩ (.int .i64 t)).ownsRow base 106 3 (.slice (some ⟨g, 0, none⟩) (d.length + 1) cap) (d.length + 1) (cellsR (d ++ [(y.1, t, y.2.2)])) := by
  obtain ⟨g', cap', cur, hv, hbg, hg, hnc, hcm, hcs, htake⟩ := (show _ from h.2.resolve_left (fun h => by have := h.2; omega) : ∃ g' cap' cur, _)
  obtain ⟨rfl, rfl⟩ : g = g' ∧ cap = cap' := by simpa using hv
  refine ⟨by rw [cellsR_length]; simp, .inr ⟨g, cap, cur.setIfInBounds (d.length * 3 + 1) (.int .i64 t), rfl, hbg, ?_, hnc, hcm, by simpa using hcs, ?_⟩⟩
  · exact heap_setCell_same _ _ _ _ _ _ hg
  · rw [Array.toList_setIfInBounds, ← cells_set, ← htake, List.take_set]
theorem own_at {w : World} {base g cap : Nat} {l : List Rng} (h : w.ownsRow base 106 3 (.slice (some ⟨g, 0, none⟩) l.length cap) l.length (cellsR l)) {j : Nat} {x : Rng} (hx : l[j]? = some x) :
    w.cell? ⟨g, j * 3, none⟩ = some (.int .i64 x.1) ∧ w.cell? ⟨g, j * 3 + 1, none⟩ = some (.int .i64 x.2.1) ∧ w.cell? ⟨g, j * 3 + 2, none⟩ = some (.int .i64 x.2.2) ∧ w.frozen? ⟨g, j * 3 + 1, none⟩ = false := by
  have hlt := (List.getElem?_eq_some_iff.1 hx).1
  obtain ⟨g', cap', cur, hv, hbg, hg, hnc, hcm, hcs, htake⟩ := (show _ from h.2.resolve_left (fun h => by have := h.2; omega) : ∃ g' cap' cur, _)
  obtain ⟨rfl, rfl⟩ : g = g' ∧ cap = cap' := by simpa using hv
  have hat := at_own h (by omega)
  obtain ⟨g2, off, e, hc⟩ := hat
  obtain ⟨rfl, rfl⟩ : g = g2 ∧ 0 = off := by simpa using e
  obtain ⟨h0, h1, h2⟩ := hc j x hx
  rw [Nat.zero_add] at h0 h1 h2
  exact ⟨h0, h1, h2, frozen_of_row _ _ _ _ _ hg⟩
end Go.Proofs.YtcnbcaljpgdcpaaDoor

namespace Go.Proofs.YtcnbcaljpgdcpaaDoor
open Go.RowKit Go.Shelf Go.Maps
attribute [local go_sem] Oper.semAt_some
attribute [local go_sem ↓] app_hide

section
variable {P : Program} (w : World) (a : Addr) (m : Mode)
@[go_sem] theorem run_store_func (f : Fn) (r c : Array Value) : (store a (.func f r c) m).run P w = stored P w a (.func f r c) m := run_store P w a _ m rfl
end
theorem lay_next {ls : List (List Rng)} {m : List Rng} {j : Nat} {x y : Int} (h : LayUpto ls m ((placesL (turnsL ls)).getD j 0)) (hls : ∀ a ∈ ls, ∀ x ∈ a, okR x) (hx : (placesL (turnsL ls))[j]? = some x) (hy : (placesL (turnsL ls))[j + 1]? = some y) :
    LayUpto ls (layStep ls x y m) ((placesL (turnsL ls)).getD (j + 1) 0) := by
  have hr := places_rise (turnsL ls)
  obtain ⟨l1, e1⟩ := List.getElem?_eq_some_iff.1 hx
  obtain ⟨l2, e2⟩ := List.getElem?_eq_some_iff.1 hy
  have hxy := List.pairwise_iff_getElem.1 hr j (j + 1) l1 l2 (by omega)
  rw [e1, e2] at hxy
  rw [show (placesL (turnsL ls)).getD j 0 = x from by simp [List.getD, hx]] at h
  rw [show (placesL (turnsL ls)).getD (j + 1) 0 = y from by simp [List.getD, hy]]
  refine h.step hls hxy fun t ht hh => ?_
  obtain ⟨i, hi⟩ := List.mem_iff_getElem?.1 ((places_mem _ t).2 ht)
  obtain ⟨l3, e3⟩ := List.getElem?_eq_some_iff.1 hi
  rcases Nat.lt_or_ge i j with h1 | h1
  · have := List.pairwise_iff_getElem.1 hr i j l3 l1 h1
    rw [e1, e3] at this
    omega
  · rcases Nat.lt_or_ge (j + 1) i with h2 | h2
    · have := List.pairwise_iff_getElem.1 hr (j + 1) i l2 l3 h2
      rw [e2, e3] at this
      omega
    · rcases (by omega : i = j ∨ i = j + 1) with rfl | rfl
      · rw [hx] at hi; cases hi; omega
      · rw [hy] at hi; cases hi; omega
theorem lay_first (ls : List (List Rng)) : LayUpto ls [] ((placesL (turnsL ls)).getD 0 0) := by
  refine LayUpto.none fun t ht => ?_
  obtain ⟨i, hi⟩ := List.mem_iff_getElem?.1 ((places_mem _ t).2 ht)
  obtain ⟨l3, e3⟩ := List.getElem?_eq_some_iff.1 hi
  obtain ⟨x, hx⟩ : ∃ x, (placesL (turnsL ls))[0]? = some x := ⟨_, List.getElem?_eq_getElem (by omega)⟩
  obtain ⟨l1, e1⟩ := List.getElem?_eq_some_iff.1 hx
  rw [show (placesL (turnsL ls)).getD 0 0 = x from by simp [List.getD, hx]]
  rcases Nat.eq_zero_or_pos i with rfl | h1
  · rw [hx] at hi; cases hi; omega
  · have := List.pairwise_iff_getElem.1 (places_rise (turnsL ls)) 0 i l1 l3 h1
    rw [e1, e3] at this
    omega
theorem lay_last {ls : List (List Rng)} {m : List Rng} (h : LayUpto ls m ((placesL (turnsL ls)).getD ((placesL (turnsL ls)).length - 1) 0)) : isLay ls m := by
  refine h.all fun t ht => ?_
  obtain ⟨i, hi⟩ := List.mem_iff_getElem?.1 ((places_mem _ t).2 ht)
  obtain ⟨l3, e3⟩ := List.getElem?_eq_some_iff.1 hi
  obtain ⟨x, hx⟩ : ∃ x, (placesL (turnsL ls))[(placesL (turnsL ls)).length - 1]? = some x := ⟨_, List.getElem?_eq_getElem (by omega)⟩
  obtain ⟨l1, e1⟩ := List.getElem?_eq_some_iff.1 hx
  rw [show (placesL (turnsL ls)).getD ((placesL (turnsL ls)).length - 1) 0 = x from by simp [List.getD, hx]]
  rcases Nat.lt_or_ge i ((placesL (turnsL ls)).length - 1) with h1 | h1
  · have := List.pairwise_iff_getElem.1 (places_rise (turnsL ls)) i _ l3 l1 h1
    rw [e1, e3] at this
    omega
  · obtain rfl : i = (placesL (turnsL ls)).length - 1 := by omega
    rw [hx] at hi; cases hi; omega
theorem str_at {ps : List Int} {i : Nat} {z : Int × Int} (h : (strL ps)[i]? = some z) : ∃ y, ps[i]? = some z.1 ∧ ps[i + 1]? = some y ∧ z.2 = y - 1 := by
  have hlt := (List.getElem?_eq_some_iff.1 h).1
  rw [strL_length] at hlt
  obtain ⟨x, hx⟩ : ∃ x, ps[i]? = some x := ⟨_, List.getElem?_eq_getElem (by omega)⟩
  obtain ⟨y, hy⟩ : ∃ y, ps[i + 1]? = some y := ⟨_, List.getElem?_eq_getElem (by omega)⟩
  have := strL_get hx hy
  rw [h] at this
  cases this
  exact ⟨y, hx, hy, rfl⟩
theorem pre_at {α : Type} {l pre : List α} {x : α} (h : pre ++ [x] <+: l) : l[pre.length]? = some x := by
  obtain ⟨t, ht⟩ := h
  rw [← ht]
  simp
theorem layStep_length (ls : List (List Rng)) (p q : Int) (m : List Rng) : (layStep ls p q m).length ≤ m.length + 1 := by
  unfold layStep
  split
  · exact joinL_length _ _
  · omega
theorem own_geN {w : World} {base k : Nat} {e : TypeId} {size : Nat} {v : Value} {n : Nat} {xs : List Value} (h : w.ownsRow base e size v n xs) (hk : v.ownBlock = some k) : base ≤ k ∧ k < w.heap.size := by
  rcases h.2 with ⟨rfl, _⟩ | ⟨g, cap, cur, rfl, hb, hh, _⟩
  · simp [Value.ownBlock] at hk
  · obtain rfl : g = k := by simpa [Value.ownBlock] using hk
    exact ⟨hb, (Array.getElem?_eq_some_iff.1 hh).1⟩
theorem Moves.far {S X : Nat → Prop} {w A B : World} (h : Moves S w A) (hm : Moves X A B) (hX : ∀ k, X k → w.heap.size ≤ k) : Moves S w B :=
  ⟨hm.os.trans h.os, hm.tape.trans h.tape, hm.output.trans h.output, Nat.le_trans h.size hm.size, fun k hk hs => (hm.block k (Nat.lt_of_lt_of_le hk h.size) (fun hx => by have := hX k hx; omega)).trans (h.block k hk hs)⟩
/-- What holds between two rounds. -/
structure LayInv (w8 : World) (mb : Nat) (ls : List (List Rng)) (X : Nat → Prop) (j : Nat) (W : World) (m : List Rng) (o : Option Addr) (cap : Nat) : Prop where
  far : ∀ k, X k → w8.heap.size ≤ k
  kept : Moves (fun k => k = mb) w8 W
  box : Boxed W mb 44 (.slice o m.length cap)
  row : W.ownsRow w8.heap.size 106 3 (.slice o m.length cap) m.length (cellsR m)
  notX : ∀ k, (Value.slice o m.length cap).ownBlock = some k → ¬ X k
  upto : LayUpto ls m ((placesL (turnsL ls)).getD j 0)
  few : m.length ≤ j
theorem LayInv.moves {w8 : World} {mb : Nat} {ls : List (List Rng)} {X X' : Nat → Prop} {j : Nat} {A B : World} {m : List Rng} {o : Option Addr} {cap : Nat} (h : LayInv w8 mb ls X j A m o cap) (hmb : mb < w8.heap.size) (hm : Moves X A B) (hX : ∀ k, X' k → (X k ∨ A.heap.size ≤ k) ∧ k < B.heap.size) : LayInv w8 mb ls X' j B m o cap := by
  have hz := h.kept.size
  refine ⟨fun k hk => ?_, h.kept.far hm h.far, row_keep h.box hm (fun hx => by have := h.far mb hx; omega), own_moves1N h.row hm h.notX, fun k hk hx => ?_, h.upto, h.few⟩
  · rcases (hX k hk).1 with h1 | h1
    · exact h.far k h1
    · omega
  · rcases (hX k hx).1 with h1 | h1
    · exact h.notX k hk h1
    · have := (own_geN h.row hk).2; omega
abbrev tight1 (x : LayX) : LayX := (x.1, x.2.1, x.2.1.length)
theorem listsOf_tight (xs : List LayX) : listsOf (xs.map tight1) = listsOf xs := by unfold listsOf; rw [List.map_map]; rfl
def cellsLay (ls : List LayX) : List Value := ls.map fun x => .slice x.1 x.2.1.length x.2.1.length
def LayPost (xs : List LayX) (w : World) (e : Ending) (w' : World) : Prop :=
  Below w.heap.size w w' ∧ ((¬ (∀ x ∈ xs, rightL x.2.1) ∧ e = .returned (.tuple #[.slice none 0 0, faultV 22 0])) ∨
    ((∀ x ∈ xs, rightL x.2.1) ∧ ∃ o m, isLay (listsOf xs) m ∧ m.length ≤ (turnsL (listsOf xs)).length ∧ e = .returned (.tuple #[.slice o m.length m.length, .nilIface]) ∧ AtR w' o m))
end Go.Proofs.YtcnbcaljpgdcpaaDoor
