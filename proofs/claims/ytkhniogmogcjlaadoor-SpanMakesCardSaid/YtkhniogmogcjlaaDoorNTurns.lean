/- turns: the numbers at which another thing may be said than of the number ahead. -/
import Derived.Test.YtkhniogmogcjlaaDoorNChart
import Derived.Test.YtkhniogmogcjlaaDoorNReach
import Derived.Maps.OwnIn
import Derived.Maps.Keyed
import Derived.Maps.Views
import Derived.Lib.SlKeysI
import Derived.WideMake
namespace Go.Proofs.YtkhniogmogcjlaaDoor
open Go.RowKit Go.Shelf Go.Maps
attribute [local go_sem] Oper.semAt_some

theorem keyLaw : Keyed Tryd.prog 3 := int_keyed Tryd.underlying3
/-- A map of the call's own, of which the keys are known. -/
def SetOf (W : World) (b n : Nat) (T : List Int) : Prop := ∃ D : DataW Unit, W.ownsMap Tryd.prog 3 (plainElem Tryd.prog 4) b n D ∧ ∀ x : Int, has D (.int .i64 x) = true ↔ x ∈ T
theorem SetOf.made (w : World) : SetOf (w.alloc (.map #[] 0)) w.heap.size 0 [] :=
  ⟨.map [], World.ownsMap_made _ _ _ _, fun x => by simp [has_eq]⟩
theorem SetOf.row {W W' : World} {b n : Nat} {T : List Int} (h : SetOf W b n T) (hb : W'.heap[b]? = W.heap[b]?) : SetOf W' b n T := by
  obtain ⟨D, ⟨es, clock, h1, h2⟩, hT⟩ := h
  exact ⟨D, ⟨es, clock, hb.trans h1, h2⟩, hT⟩
theorem SetOf.lt {W : World} {b n : Nat} {T : List Int} (h : SetOf W b n T) : b < W.heap.size := by
  obtain ⟨D, ⟨es, clock, h1, _⟩, _⟩ := h
  exact (Array.getElem?_eq_some_iff.1 h1).1
theorem has_put_iff {D : DataW Unit} {T : List Int} {x : Int} {d : DataW Unit} (hD : IsMap D) (hT : ∀ x : Int, has D (.int .i64 x) = true ↔ x ∈ T) : ∀ y : Int, has (D.put (.int .i64 x) d) (.int .i64 y) = true ↔ y ∈ T ++ [x] := fun y => by
  by_cases hxy : y = x
  · subst hxy
    rw [has_put_same hD (by trivial)]
    simp
  · rw [has_put_other (fun e => hxy (by simpa using e)), hT]
    simp [hxy]
theorem own_isMap {W : World} {b n : Nat} {D : DataW Unit} (hown : W.ownsMap Tryd.prog 3 (plainElem Tryd.prog 4) b n D) : IsMap D := by
  obtain ⟨es, clock, _, _, _, hD⟩ := hown
  exact ⟨_, hD⟩
theorem key_int {x : Int} (h1 : 0 ≤ x) (h2 : x ≤ 1114112) : keyOf Tryd.prog 3 (.int .i64 x) = some (.int .i64 x) := by
  refine keyOf_int_mk Tryd.underlying3 ?_
  simp only [Lit.wf, Bool.and_eq_true, decide_eq_true_eq]
  have e1 : IntKind.i64.min = -(2 ^ 63) := by decide
  have e2 : IntKind.i64.max = 2 ^ 63 - 1 := by decide
  rw [e1, e2]
  omega
theorem elem_true : plainElem (H := Unit) Tryd.prog 4 (.bool true) = some (.lit (.bool true), []) := by
  unfold plainElem
  rw [Tryd.underlying4]
/-- Layers in a row: a slice each. -/
abbrev LayX := Option Addr × List Rng × Nat
def LaysAt (w : World) (g off : Nat) (ls : List LayX) : Prop := ∀ (j : Nat) (x : LayX), ls[j]? = some x → w.cell? ⟨g, off + j, none⟩ = some (.slice x.1 x.2.1.length x.2.2) ∧ AtR w x.1 x.2.1 ∧ mapL x.2.1 ∧ x.2.1.length ≤ 1000
theorem turnsOf_snoc {l : List Rng} {j : Nat} {x : Rng} (h : l[j]? = some x) : turnsOf (l.take (j + 1)) = turnsOf (l.take j) ++ [x.1] ++ [x.2.1 + 1] := by
  unfold turnsOf
  rw [List.take_add_one, h, List.flatMap_append]
  simp
structure TurnInv (w : World) (T : List Int) (n : Nat) (X : Nat → Prop) (W : World) : Prop where
  kept : Kept w 2 X W
  mb : Boxed W (w.heap.size + 1) 74 (.map (some w.heap.size))
  set : SetOf W w.heap.size n T
theorem TurnInv.moves {w : World} {T : List Int} {n : Nat} {X X' : Nat → Prop} {A B : World} (h : TurnInv w T n X A) (hm : Moves X A B) (hX : ∀ k, X' k → (X k ∨ A.heap.size ≤ k) ∧ k < B.heap.size) : TurnInv w T n X' B := by
  refine ⟨h.kept.moves hm hX, h.kept.row hm (by omega) h.mb, h.set.row ?_⟩
  obtain ⟨D, ⟨es, clock, h1, _⟩, _⟩ := h.set
  rw [h1]
  exact h.kept.row hm (by omega) h1
theorem TurnInv.below {w : World} {T : List Int} {n : Nat} {X : Nat → Prop} {A B : World} (h : TurnInv w T n X A) (hb : Below A.heap.size A B) : TurnInv w T n X B := by
  have hm : Moves (fun _ => False) A B := Moves.of_below hb
  refine ⟨h.kept.turn hm (fun k h => h.elim), row_keep h.mb hm id, h.set.row ?_⟩
  obtain ⟨D, ⟨es, clock, h1, _⟩, _⟩ := h.set
  rw [h1]
  exact row_keep h1 hm id
def dfr (ds : List Nat) : List Deferred := ds.map fun D => { target := .collected D, args := #[] }
/-- A body's end, where ranges over functions have left marks. -/
theorem leaves_many {P : Program} {n : Nat} {fn : Func} {tmps : Array Value} {R : Ending → World → Prop} : ∀ (ds : List Nat) (W : World), (∀ D ∈ ds, W.heap[D]? = some (.deferred (some []))) → ds.Nodup →
    (∀ W', Moves (fun k => k ∈ ds) W W' → ∃ v, (results fn tmps).run P W' = .ok v W' ∧ R (.returned v) W') → LeavesInM Fence.wide n P fn tmps R (dfr ds) .returning W
  | [], W, _, _, hR => hR W (Moves.refl _ _)
  | D :: ds, W, hD, hnd, hR => by
    obtain ⟨hn, hnd'⟩ := List.nodup_cons.1 hnd
    refine ⟨by simp, .inl ⟨_, _, rfl, run_takeDeferred (hD D List.mem_cons_self), ?_⟩⟩
    refine leaves_many ds _ (fun E hE => ?_) hnd' fun W' hm => hR W' (((Moves.putObj (List.mem_cons_self)).trans (hm.mono fun k hk => List.mem_cons_of_mem _ hk)))
    exact (World.putObj_heap_other (by rintro rfl; exact hn hE)).trans (hD E (List.mem_cons_of_mem _ hE))
theorem moves_grown {w w' : World} {row : Option Nat} (h : w.grownBy w' row) : Moves (fun k => some k = row) w w' := ⟨h.os, h.tape, h.output, h.size, fun k hk hr => h.block k hk hr⟩
/-- The marks that ranges over functions have left. -/
def Marks (w : World) (ds : List Nat) (X : Nat → Prop) (W : World) : Prop := ds.Nodup ∧ ∀ D ∈ ds, w.heap.size + 2 ≤ D ∧ W.heap[D]? = some (.deferred (some [])) ∧ ¬ X D
theorem Marks.moves {w : World} {ds : List Nat} {X X' : Nat → Prop} {A B : World} (h : Marks w ds X A) (hm : Moves X A B) (hX : ∀ k, X' k → (X k ∨ A.heap.size ≤ k) ∧ k < B.heap.size) : Marks w ds X' B := by
  refine ⟨h.1, fun D hD => ?_⟩
  obtain ⟨h1, h2, h3⟩ := h.2 D hD
  have hlt := (Array.getElem?_eq_some_iff.1 h2).1
  exact ⟨h1, row_keep h2 hm h3, fun hx => by rcases (hX D hx).1 with h | h; { exact h3 h }; { omega }⟩
theorem Marks.turn {w : World} {ds : List Nat} {X S : Nat → Prop} {A B : World} (h : Marks w ds X A) (hm : Moves S A B) (hS : ∀ D ∈ ds, ¬ S D) : Marks w ds X B := by
  refine ⟨h.1, fun D hD => ?_⟩
  obtain ⟨h1, h2, h3⟩ := h.2 D hD
  exact ⟨h1, row_keep h2 hm (hS D hD), h3⟩
def listsOf (ls : List LayX) : List (List Rng) := ls.map fun x => x.2.1
/-- What holds between two rounds. -/
structure TurnsAt (w : World) (T : List Int) (ds : List Nat) (X : Nat → Prop) (W : World) : Prop where
  inv : TurnInv w T T.length X W
  marks : Marks w ds X W
def turnsFrame (w : World) (S : Value) (k j : Nat) (u5 u12 u13 u14 u15 u16 u17 u27 : Value) (ds : List Nat) : Act :=
  { tmps := #[S, undef, .map none, .pointer (some ⟨w.heap.size + 1, 0, none⟩), undef, u5, undef, undef, .map (some w.heap.size), S, .int .i64 (k : Nat), .int .i64 (j : Nat), u12, u13, u14, u15, u16, u17, undef, undef, undef, undef, undef, undef, undef, undef, undef, u27, undef], defers := dfr ds }
set_option maxRecDepth 100000 in
set_option maxHeartbeats 2000000 in
theorem turns_any (g off cap : Nat) (ls : List LayX) (hbig : (turnsL (listsOf ls)).length ≤ 100000) (hk : ls.length ≤ 1000) (w : World) (hL : LaysAt w g off ls) :
    Calls Tryd.prog 46 #[.slice (some ⟨g, off, none⟩) ls.length cap] w fun e w' => ∃ b, e = .returned (.map (some b)) ∧ w.heap.size ≤ b ∧ SetOf w' b (turnsL (listsOf ls)).length (turnsL (listsOf ls)) ∧ Below w.heap.size w w' := by
  have hmm := @run_makeMap_plain
  refine (callsIn_wide (n := 6)).1 ?_
  have h1 : 1 ≤ 6 := by omega
  refine callsIn_of_wp_marks Tryd.func46 rfl trivial ?_ rfl
  simp only [Tryd.ntmps46, List.size_toArray, List.length_cons, List.length_nil, Nat.reduceAdd, Nat.reduceSub, Array.replicate_succ, Array.replicate_zero, List.push_toArray, List.append_toArray, List.nil_append, List.cons_append]
  obtain ⟨P, hP⟩ : ∃ P, (fun (e : Ending) w' => ∃ b, e = .returned (.map (some b)) ∧ w.heap.size ≤ b ∧ SetOf w' b (turnsL (listsOf ls)).length (turnsL (listsOf ls)) ∧ Below w.heap.size w w') = P := ⟨_, rfl⟩
  have HP := Lib.hid hP
  rw [hP]
  obtain ⟨k, hkk⟩ : ∃ k, ls.length = k := ⟨_, rfl⟩
  rw [hkk] at hk ⊢
  have HKK := Lib.hid hkk
  have HL := Lib.hid hL
  have HBIG := Lib.hid hbig
  clear hP hkk hL hbig
  gi_wp2_with fail
  obtain ⟨w0, hw0⟩ : ∃ w0, (w.alloc (.map #[] 0)).alloc (.cells #[.map (some w.heap.size)] 74) = w0 := ⟨_, rfl⟩
  have I0 : TurnsAt w (turnsL (listsOf (ls.take 0))) [] (fun _ => False) w0 := by
    refine ⟨⟨⟨fun k h => h.elim, ?_, ?_⟩, ?_, ?_⟩, List.nodup_nil, fun D hD => by simp at hD⟩
    · rw [← hw0]; exact ((Below.refl _ _).alloc (Nat.le_refl _) _).alloc (by simp) _
    · rw [← hw0]; simp
    · rw [← hw0]; have := Boxed.new (w.alloc (.map #[] 0)) 74 (.map (some w.heap.size)); rwa [World.size_alloc] at this
    · refine SetOf.row (SetOf.made w) ?_
      rw [← hw0, Below.heap_alloc _ _ _ (by simp)]
  rw [hw0]
  clear hw0 hmm
  refine wpIn_loop (fun a W => ∃ j u5 u12 u13 u14 u15 u16 u17 u27 ds, j ≤ k ∧ ds.length = j ∧ a = turnsFrame w (.slice (some ⟨g, off, none⟩) k cap) k j u5 u12 u13 u14 u15 u16 u17 u27 ds ∧ TurnsAt w (turnsL (listsOf (ls.take j))) ds (fun _ => False) W) (fun a _ => k - a.defers.length) ⟨0, undef, undef, undef, undef, undef, undef, undef, undef, [], Nat.zero_le _, rfl, rfl, I0⟩ ?_
  rintro a W ⟨j, u5, u12, u13, u14, u15, u16, u17, u27, ds, hj, hdl, rfl, hI⟩
  unfold turnsFrame
  rcases Nat.lt_or_ge j k with hlt | hge
  · obtain ⟨x, hx⟩ : ∃ x, ls[j]? = some x := ⟨_, List.getElem?_eq_getElem (by rw [HKK.out]; exact hlt)⟩
    obtain ⟨c0, a0, m0, n0⟩ := HL.out j x hx
    have hsn : turnsL (listsOf (ls.take (j + 1))) = turnsL (listsOf (ls.take j)) ++ turnsOf x.2.1 := by
      unfold turnsL listsOf
      rw [List.take_add_one, hx, List.map_append, List.flatMap_append]
      simp
    have hle : (turnsL (listsOf (ls.take (j + 1)))).length ≤ 100000 := by
      have h2 : turnsL (listsOf ls) = turnsL (listsOf (ls.take (j + 1))) ++ turnsL (listsOf (ls.drop (j + 1))) := by
        unfold turnsL listsOf
        rw [← List.flatMap_append, ← List.map_append, List.take_append_drop]
      have h3 := HBIG.out
      rw [h2, List.length_append] at h3
      omega
    obtain ⟨T, hT⟩ : ∃ T, turnsL (listsOf (ls.take j)) = T := ⟨_, rfl⟩
    rw [hT] at hI hsn
    rw [hsn] at hle
    obtain ⟨o, l, lc⟩ := x
    simp only at c0 a0 m0 n0 hsn hle
    have hlo : ∀ k, 0 < l.length → inB o k → k < w.heap.size := fun k h0 hk => a0.lt h0 hk
    have c1 := cell_keep hI.inv.kept.below c0
    have a1 := a0.below hI.inv.kept.below
    have hgw := World.block_lt_of_cell? W _ c1
    obtain ⟨n, hnn⟩ : ∃ n, l.length = n := ⟨_, rfl⟩
    rw [hnn] at c1 n0
    have HN := Lib.hid hnn
    have HA := Lib.hid a1
    have HI := Lib.hid hI
    have HT := Lib.hid hT
    have HSN := Lib.hid hsn
    have HLE := Lib.hid hle
    have HM := Lib.hid m0
    clear hI hT hsn hle hnn a0 a1 c0 m0 hx I0
    gi_wp2_with fail
    refine ⟨trivial, (callsIn_wide.2 (ranges_any o n lc _)).mono ?_⟩
    rintro e w2 ⟨rfl, hw2⟩
    simp only [World.size_alloc] at hw2 ⊢
    have BW : Below W.heap.size W w2 := by rw [← hw2]; exact ((Below.refl _ _).alloc (Nat.le_refl _) _).alloc (by simp) _
    have z2 : w2.heap.size = W.heap.size + 2 := by rw [← hw2]; simp
    have hb : w2.heap[W.heap.size + 1]? = some (chartO o n lc) := by
      rw [← hw2]
      have := heap_alloc_new (W.alloc (layerO o n lc)) (chartO o n lc)
      simpa using this
    have A2 := HA.out.below BW
    have I2 := HI.out.inv.below BW
    have M2 : Marks w ds (fun _ => False) w2 := HI.out.marks.turn (Moves.of_below BW) (fun _ _ => id)
    have hWz := HI.out.inv.kept.size
    clear hw2
    gi_wp2_with fail
    refine wpIn_seqX (n := 6) (Ow := fun _ => False) (Dep := DepR (W.heap.size + 1) o l) (encs := encR) (all := l.zipIdx) (by omega) rfl (enters_of Tryd.func48 (by kernel_rfl) rfl) (fun x => rfl) (seqRanges (by rw [HN.out]; omega) (by rw [HN.out]; exact hb) A2)
      (fun k h => h.elim) (fun k h => by rcases h with h | ⟨h0, h⟩; { omega }; { have := hlo k h0 h; omega })
      (fun X pre V => TurnsAt w (T ++ turnsOf (l.take pre.length)) ds X V) (fun c X pre V => False) ?hI ?hIx ?h0
      (fun b x => { tmps := #[.slice (some ⟨g, off, none⟩) k cap, undef, .map none, .pointer (some ⟨w.heap.size + 1, 0, none⟩), undef, .pointer (some ⟨W.heap.size, 0, none⟩), undef, .pointer (some ⟨b, 0, none⟩), .map (some w.heap.size), .slice (some ⟨g, off, none⟩) k cap, .int .i64 (k : Nat), .int .i64 (j : Nat), .bool true, .pointer (some ⟨g, off + j, none⟩), .agg #[.slice o n lc], .pointer (some ⟨W.heap.size, 0, none⟩), .agg #[.slice o n lc], .func (.func 48) #[] #[.pointer (some ⟨W.heap.size + 1, 0, none⟩)], .int .i64 (x.2 : Nat), rngV x.1, undef, undef, undef, undef, undef, undef, undef, u27, undef], defers := [] })
      (fun A x B => A.alloc (rngO x.1) = B) (fun A x B h => by rw [← h]; exact Moves.of_below ((Below.refl _ _).alloc (Nat.le_refl _) _)) ?assign ?body ?done ?stop
    case hI =>
      rintro X X' xs A B h hm hX
      exact ⟨h.inv.moves hm hX, h.marks.moves hm hX⟩
    case hIx =>
      rintro c X X' xs A B h
      exact h.elim
    case h0 => exact ⟨by simpa [turnsOf] using I2, M2⟩
    case assign =>
      rintro l x A K hK
      gi_wp2
      rfl
    case body =>
      rintro lp X pre ⟨x, i⟩ A A' W1 hA1 hpx hAB hm hXn hXn1 hXlt hJ
      obtain ⟨hi, hx, -⟩ := zip_pre hpx
      subst hi
      have hxb : W1.heap[A.heap.size]? = some (rngO x) := by
        have := heap_alloc_new A (rngO x)
        rw [hAB] at this
        exact row_keep this hm (by omega)
      obtain ⟨q0, q1, q2, _⟩ := rng_cells hxb
      have nB := hJ.inv.kept.free (o := o) (l := l) (cb := W.heap.size + 1) (by omega) hlo
      have cm := hJ.inv.mb.cell
      have hok := HM.out.1 x (List.mem_of_getElem? hx)
      unfold okR at hok
      have hsnoc : turnsOf (l.take (pre ++ [(x, pre.length)]).length) = turnsOf (l.take pre.length) ++ [x.1] ++ [x.2.1 + 1] := by
        rw [List.length_append]
        exact turnsOf_snoc hx
      have hTb : (T ++ turnsOf (l.take pre.length)).length ≤ 100000 := by
        have h1 : turnsOf l = turnsOf (l.take pre.length) ++ turnsOf (l.drop pre.length) := by unfold turnsOf; rw [← List.flatMap_append, List.take_append_drop]
        have h2 := HLE.out
        rw [h1, List.length_append, List.length_append] at h2
        rw [List.length_append]
        omega
      obtain ⟨U, hU⟩ : ∃ U, T ++ turnsOf (l.take pre.length) = U := ⟨_, rfl⟩
      rw [hU] at hJ hTb
      obtain ⟨D, hown, hDT⟩ := hJ.inv.set
      have hk1 := key_int (x := x.1) (by omega) (by omega)
      have hk2 := key_int (x := x.2.1 + 1) (by omega) (by omega)
      have hwr : IntKind.i64.wrap (x.2.1 + 1) = x.2.1 + 1 := wrap_id (by omega) (by omega)
      have hul : U.length < maxLen := by unfold maxLen; omega
      have hul1 : U.length + 1 < maxLen := by unfold maxLen; omega
      have HJ := Lib.hid hJ
      have HNB := Lib.hid nB
      have HOWN := Lib.hid hown
      have HDT := Lib.hid hDT
      have HXB := Lib.hid hxb
      have HSN2 := Lib.hid hsnoc
      have HU := Lib.hid hU
      have hbA : A.heap.size ≠ w.heap.size := by have := hJ.inv.kept.size; omega
      obtain ⟨a, b, v⟩ := x
      simp only at q0 q1 q2 hk1 hk2 hwr HSN2
      clear hJ nB hown hDT hxb hsnoc hU hpx hm hXlt hXn hXn1 hAB hA1 hx hok hTb
      gi_wp2_with (first
        | (gi_at_mapUpdate; refine wpListIn_mapUpdate_own _ rfl _ _ _ 74 rfl 3 4 keyLaw Tryd.underlying74 (plainElem Tryd.prog 4) w.heap.size U.length D rfl HOWN.out hul _ _ _ rfl rfl hk1 _ [] elem_true ?_; intro w5 own5 gr5; have mv5 : Moves (fun k => k = w.heap.size) W1 w5 := (moves_grown gr5).mono (fun k h => by simpa using h); have cm5 : w5.cell? ⟨w.heap.size + 1, 0, none⟩ = some (.map (some w.heap.size)) := cell_moves mv5 (by simp) cm; have q15 : w5.cell? ⟨A.heap.size, 1, none⟩ = some (.int .i64 b) := cell_moves mv5 hbA q1)
        | (gi_at_mapUpdate; refine wpListIn_mapUpdate_own _ rfl _ _ _ 74 rfl 3 4 keyLaw Tryd.underlying74 (plainElem Tryd.prog 4) w.heap.size (U.length + 1) _ rfl own5 hul1 _ _ _ rfl rfl hk2 _ [] elem_true ?_; intro w6 own6 gr6))
      have mv6 : Moves (fun k => k = w.heap.size) W1 w6 := mv5.trans ((moves_grown gr6).mono (fun k h => by simpa using h))
      have hset : SetOf w6 w.heap.size (U ++ [a] ++ [b + 1]).length (U ++ [a] ++ [b + 1]) := by
        rw [List.length_append, List.length_append]
        exact ⟨_, own6, has_put_iff (own_isMap own5) (has_put_iff (own_isMap HOWN.out) HDT.out)⟩
      have hU2 : T ++ turnsOf (l.take (pre ++ [((a, b, v), pre.length)]).length) = U ++ [a] ++ [b + 1] := by
        rw [HSN2.out, ← HU.out]
        simp
      refine ⟨mv6.mono fun k hk => HNB.out k (by omega) (by omega), ?_⟩
      show TurnsAt w (T ++ turnsOf (l.take (pre ++ [((a, b, v), pre.length)]).length)) ds X w6
      rw [hU2]
      exact ⟨⟨HJ.out.inv.kept.turn mv6 (fun k hk => by omega), row_keep HJ.out.inv.mb mv6 (by omega), hset⟩, HJ.out.marks.turn mv6 (fun D hD hk => by have := (HJ.out.marks.2 D hD).1; omega)⟩
    case done =>
      rintro X D V hD hXD hJ hX hK
      rw [List.length_zipIdx, List.take_length, ← HSN.out] at hJ
      have hzD : W.heap.size + 2 ≤ D := by omega
      have hnew : ∀ E ∈ ds, ¬ E = D := fun E hE e => (hJ.marks.2 E hE).2.2 (e ▸ hXD)
      have hfin : TurnsAt w (turnsL (listsOf (ls.take (j + 1)))) (D :: ds) (fun _ => False) V := by
        refine ⟨⟨⟨fun k h => h.elim, hJ.inv.kept.below, hJ.inv.kept.size⟩, hJ.inv.mb, hJ.inv.set⟩, List.nodup_cons.2 ⟨fun h => hnew D h rfl, hJ.marks.1⟩, fun E hE => ?_⟩
        rcases List.mem_cons.1 hE with rfl | hE
        · exact ⟨by omega, hK, id⟩
        · exact ⟨(hJ.marks.2 E hE).1, (hJ.marks.2 E hE).2.1, id⟩
      have HF := Lib.hid hfin
      clear hfin hJ hnew hX hK
      gi_wp2
      refine ⟨⟨j + 1, _, _, _, _, _, _, _, _, D :: ds, by omega, by simp [hdl], rfl, HF.out⟩, ?_⟩
      have e1 : (dfr (D :: ds)).length = j + 1 := by simp [dfr, hdl]
      have e2 : (dfr ds).length = j := by simp [dfr, hdl]
      show k - (dfr (D :: ds)).length < k - (dfr ds).length
      omega
    case stop =>
      rintro X D c pre V hD hXD hpre h
      exact h.elim
  · obtain rfl : j = k := by omega
    have HI := Lib.hid hI
    clear hI I0
    have cm := HI.out.inv.mb.cell
    gi_wp2
    refine leaves_many ds W (fun D hD => (HI.out.marks.2 D hD).2.1) HI.out.marks.1 fun W' hm => ⟨_, results_tmp (t := 2) rfl _ _ _, ?_⟩
    rw [← HP.out]
    refine ⟨w.heap.size, rfl, Nat.le_refl _, ?_, Moves.below HI.out.inv.kept.below HI.out.inv.kept.below.size hm (fun k hk => by have := (HI.out.marks.2 k hk).1; omega)⟩
    have hall : ls.take j = ls := List.take_of_length_le (by rw [HKK.out]; exact Nat.le_refl _)
    have hs := HI.out.inv.set
    rw [hall] at hs
    refine hs.row ?_
    exact (hm.block _ hs.lt (fun hh => by have := (HI.out.marks.2 _ hh).1; omega))
end Go.Proofs.YtkhniogmogcjlaaDoor
