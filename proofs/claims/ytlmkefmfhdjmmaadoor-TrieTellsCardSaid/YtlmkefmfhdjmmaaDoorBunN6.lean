/- turns: the numbers at which another thing may be said than of the number ahead. laid: what the topmost layer says that says something. laid: the closure. The keys of a map of the call's ownN, sorted. stretches: what is between turns, from place to place. -/
import Derived.Test.YtlmkefmfhdjmmaaDoorBunN5
import Derived.Maps.OwnIn
import Derived.Maps.Keyed
import Derived.Maps.Views
import Derived.Lib.SlKeysI
import Derived.WideMake
import Derived.Test.YtlmkefmfhdjmmaaDoorShelf
namespace Go.Proofs.YtlmkefmfhdjmmaaDoor
open Go.RowKit Go.Shelf Go.Maps
attribute [local go_sem] Oper.semAt_some

theorem keyLaw : Keyed Tryd.prog 3 := int_keyed Tryd.underlying3
/-- A map of the call's ownN, of which the keys are known. -/
def SetOf (W : World) (b n : Nat) (T : List Int) : Prop := ∃ D : DataW Unit, W.ownsMap Tryd.prog 3 (plainElem Tryd.prog 4) b n D ∧ ∀ x : Int, has D (.int .i64 x) = true ↔ x ∈ T
theorem SetOf.made (w : World) : SetOf (w.alloc (.map #[] 0)) w.heap.size 0 [] :=
  ⟨.map [], World.ownsMap_made _ _ _ _, fun x => by simp [has_eq]⟩
theorem SetOf.row {W W' : World} {b n : Nat} {T : List Int} (h : SetOf W b n T) (hb : W'.heap[b]? = W.heap[b]?) : SetOf W' b n T := by
  obtain ⟨D, ⟨es, clock, h1, h2⟩, hT⟩ := h
  exact ⟨D, ⟨es, clock, hb.trans h1, h2⟩, hT⟩
theorem SetOf.lt {W : World} {b n : Nat} {T : List Int} (h : SetOf W b n T) : b < W.heap.size := by
  obtain ⟨D, ⟨es, clock, h1, _⟩, _⟩ := h
  exact (Array.getElem?_eq_some_iff.1 h1).1
theorem has_put_iff {D : DataW Unit} {T : List Int} {x : Int} {d : DataW Unit} (hD : IsMap D) (hT : ∀ x : Int, has D (.int .i64 x) = true ↔ x ∈ T) : ∀ y : Int, has (D.put (.int .i64 x) d) (.int .i64 y) = true ↔ y ∈ T ++ [x] := fun y => by
  by_cases hxy : y = x
  · subst hxy
    rw [has_put_same hD (by trivial)]
    simp
  · rw [has_put_other (fun e => hxy (by simpa using e)), hT]
    simp [hxy]
theorem own_isMap {W : World} {b n : Nat} {D : DataW Unit} (hown : W.ownsMap Tryd.prog 3 (plainElem Tryd.prog 4) b n D) : IsMap D := by
  obtain ⟨es, clock, _, _, _, hD⟩ := hown
  exact ⟨_, hD⟩
theorem key_int {x : Int} (h1 : 0 ≤ x) (h2 : x ≤ 1114112) : keyOf Tryd.prog 3 (.int .i64 x) = some (.int .i64 x) := by
  refine keyOf_int_mk Tryd.underlying3 ?_
  simp only [Lit.wf, Bool.and_eq_true, decide_eq_true_eq]
  have e1 : IntKind.i64.min = -(2 ^ 63) := by decide
  have e2 : IntKind.i64.max = 2 ^ 63 - 1 := by decide
  rw [e1, e2]
  omega
theorem elem_true : plainElem (H := Unit) Tryd.prog 4 (.bool true) = some (.lit (.bool true), []) := by
  unfold plainElem
  rw [Tryd.underlying4]
/-- Layers in a row: a slice each. -/
abbrev LayX := Option Addr × List Rng × Nat
def LaysAt (w : World) (g off : Nat) (ls : List LayX) : Prop := ∀ (j : Nat) (x : LayX), ls[j]? = some x → w.cell? ⟨g, off + j, none⟩ = some (.slice x.1 x.2.1.length x.2.2) ∧ AtR w x.1 x.2.1 ∧ mapL x.2.1 ∧ x.2.1.length ≤ 1000
theorem turnsOf_snoc {l : List Rng} {j : Nat} {x : Rng} (h : l[j]? = some x) : turnsOf (l.take (j + 1)) = turnsOf (l.take j) ++ [x.1] ++ [x.2.1 + 1] := by
  unfold turnsOf
  rw [List.take_add_one, h, List.flatMap_append]
  simp
structure TurnInv (w : World) (T : List Int) (n : Nat) (X : Nat → Prop) (W : World) : Prop where
  kept : Kept w 2 X W
  mb : Boxed W (w.heap.size + 1) 90 (.map (some w.heap.size))
  set : SetOf W w.heap.size n T
theorem TurnInv.moves {w : World} {T : List Int} {n : Nat} {X X' : Nat → Prop} {A B : World} (h : TurnInv w T n X A) (hm : Moves X A B) (hX : ∀ k, X' k → (X k ∨ A.heap.size ≤ k) ∧ k < B.heap.size) : TurnInv w T n X' B := by
  refine ⟨h.kept.moves hm hX, h.kept.row hm (by omega) h.mb, h.set.row ?_⟩
  obtain ⟨D, ⟨es, clock, h1, _⟩, _⟩ := h.set
  rw [h1]
  exact h.kept.row hm (by omega) h1
theorem TurnInv.below {w : World} {T : List Int} {n : Nat} {X : Nat → Prop} {A B : World} (h : TurnInv w T n X A) (hb : Below A.heap.size A B) : TurnInv w T n X B := by
  have hm : Moves (fun _ => False) A B := Moves.of_below hb
  refine ⟨h.kept.turn hm (fun k h => h.elim), row_keep h.mb hm id, h.set.row ?_⟩
  obtain ⟨D, ⟨es, clock, h1, _⟩, _⟩ := h.set
  rw [h1]
  exact row_keep h1 hm id
def dfr (ds : List Nat) : List Deferred := ds.map fun D => { target := .collected D, args := #[] }
/-- A body's end, where ranges over functions have left marks. -/
theorem leaves_many {P : Program} {n : Nat} {fn : Func} {tmps : Array Value} {R : Ending → World → Prop} : ∀ (ds : List Nat) (W : World), (∀ D ∈ ds, W.heap[D]? = some (.deferred (some []))) → ds.Nodup →
    (∀ W', Moves (fun k => k ∈ ds) W W' → ∃ v, (results fn tmps).run P W' = .ok v W' ∧ R (.returned v) W') → LeavesInM Fence.wide n P fn tmps R (dfr ds) .returning W
  | [], W, _, _, hR => hR W (Moves.refl _ _)
  | D :: ds, W, hD, hnd, hR => by
    obtain ⟨hn, hnd'⟩ := List.nodup_cons.1 hnd
    refine ⟨by simp, .inl ⟨_, _, rfl, run_takeDeferred (hD D List.mem_cons_self), ?_⟩⟩
    refine leaves_many ds _ (fun E hE => ?_) hnd' fun W' hm => hR W' (((Moves.putObj (List.mem_cons_self)).trans (hm.mono fun k hk => List.mem_cons_of_mem _ hk)))
    exact (World.putObj_heap_other (by rintro rfl; exact hn hE)).trans (hD E (List.mem_cons_of_mem _ hE))
theorem moves_grown {w w' : World} {row : Option Nat} (h : w.grownBy w' row) : Moves (fun k => some k = row) w w' := ⟨h.os, h.tape, h.output, h.size, fun k hk hr => h.block k hk hr⟩
/-- The marks that ranges over functions have left. -/
def Marks (w : World) (ds : List Nat) (X : Nat → Prop) (W : World) : Prop := ds.Nodup ∧ ∀ D ∈ ds, w.heap.size + 2 ≤ D ∧ W.heap[D]? = some (.deferred (some [])) ∧ ¬ X D
theorem Marks.moves {w : World} {ds : List Nat} {X X' : Nat → Prop} {A B : World} (h : Marks w ds X A) (hm : Moves X A B) (hX : ∀ k, X' k → (X k ∨ A.heap.size ≤ k) ∧ k < B.heap.size) : Marks w ds X' B := by
  refine ⟨h.1, fun D hD => ?_⟩
  obtain ⟨h1, h2, h3⟩ := h.2 D hD
  have hlt := (Array.getElem?_eq_some_iff.1 h2).1
  exact ⟨h1, row_keep h2 hm h3, fun hx => by rcases (hX D hx).1 with h | h; { exact h3 h }; { omega }⟩
theorem Marks.turn {w : World} {ds : List Nat} {X S : Nat → Prop} {A B : World} (h : Marks w ds X A) (hm : Moves S A B) (hS : ∀ D ∈ ds, ¬ S D) : Marks w ds X B := by
  refine ⟨h.1, fun D hD => ?_⟩
  obtain ⟨h1, h2, h3⟩ := h.2 D hD
  exact ⟨h1, row_keep h2 hm (hS D hD), h3⟩
def listsOf (ls : List LayX) : List (List Rng) := ls.map fun x => x.2.1
/-- What holds between two rounds. -/
structure TurnsAt (w : World) (T : List Int) (ds : List Nat) (X : Nat → Prop) (W : World) : Prop where
  inv : TurnInv w T T.length X W
  marks : Marks w ds X W
def turnsFrame (w : World) (S : Value) (k j : Nat) (u5 u12 u13 u14 u15 u16 u17 u27 : Value) (ds : List Nat) : Act :=
  { tmps := #[S, undef, .map none, .pointer (some ⟨w.heap.size + 1, 0, none⟩), undef, u5, undef, undef, .map (some w.heap.size), S, .int .i64 (k : Nat), .int .i64 (j : Nat), u12, u13, u14, u15, u16, u17, undef, undef, undef, undef, undef, undef, undef, undef, undef, u27, undef], defers := dfr ds }
set_option maxRecDepth 100000 in
set_option maxHeartbeats 2000000 in
theorem turns_any (g off cap : Nat) (ls : List LayX) (hbig : (turnsL (listsOf ls)).length ≤ 100000) (hk : ls.length ≤ 1000) (w : World) (hL : LaysAt w g off ls) :
    Calls Tryd.prog 54 #[.slice (some ⟨g, off, none⟩) ls.length cap] w fun e w' => ∃ b, e = .returned (.map (some b)) ∧ w.heap.size ≤ b ∧ SetOf w' b (turnsL (listsOf ls)).length (turnsL (listsOf ls)) ∧ Below w.heap.size w w' := by
  have hmm := @run_makeMap_plain
  refine (callsIn_wide (n := 6)).1 ?_
  have h1 : 1 ≤ 6 := by omega
  refine callsIn_of_wp_marks Tryd.func54 rfl trivial ?_ rfl
  simp only [Tryd.ntmps54, List.size_toArray, List.length_cons, List.length_nil, Nat.reduceAdd, Nat.reduceSub, Array.replicate_succ, Array.replicate_zero, List.push_toArray, List.append_toArray, List.nil_append, List.cons_append]
  obtain ⟨P, hP⟩ : ∃ P, (fun (e : Ending) w' => ∃ b, e = .returned (.map (some b)) ∧ w.heap.size ≤ b ∧ SetOf w' b (turnsL (listsOf ls)).length (turnsL (listsOf ls)) ∧ Below w.heap.size w w') = P := ⟨_, rfl⟩
  have HP := Lib.hid hP
  rw [hP]
  obtain ⟨k, hkk⟩ : ∃ k, ls.length = k := ⟨_, rfl⟩
  rw [hkk] at hk ⊢
  have HKK := Lib.hid hkk
  have HL := Lib.hid hL
  have HBIG := Lib.hid hbig
  clear hP hkk hL hbig
  gi_wp2_with fail
  obtain ⟨w0, hw0⟩ : ∃ w0, (w.alloc (.map #[] 0)).alloc (.cells #[.map (some w.heap.size)] 90) = w0 := ⟨_, rfl⟩
  have I0 : TurnsAt w (turnsL (listsOf (ls.take 0))) [] (fun _ => False) w0 := by
    refine ⟨⟨⟨fun k h => h.elim, ?_, ?_⟩, ?_, ?_⟩, List.nodup_nil, fun D hD => by simp at hD⟩
    · rw [← hw0]; exact ((Below.refl _ _).alloc (Nat.le_refl _) _).alloc (by simp) _
    · rw [← hw0]; simp
    · rw [← hw0]; have := Boxed.new (w.alloc (.map #[] 0)) 90 (.map (some w.heap.size)); rwa [World.size_alloc] at this
    · refine SetOf.row (SetOf.made w) ?_
      rw [← hw0, Below.heap_alloc _ _ _ (by simp)]
  rw [hw0]
  clear hw0 hmm
  refine wpIn_loop (fun a W => ∃ j u5 u12 u13 u14 u15 u16 u17 u27 ds, j ≤ k ∧ ds.length = j ∧ a = turnsFrame w (.slice (some ⟨g, off, none⟩) k cap) k j u5 u12 u13 u14 u15 u16 u17 u27 ds ∧ TurnsAt w (turnsL (listsOf (ls.take j))) ds (fun _ => False) W) (fun a _ => k - a.defers.length) ⟨0, undef, undef, undef, undef, undef, undef, undef, undef, [], Nat.zero_le _, rfl, rfl, I0⟩ ?_
  rintro a W ⟨j, u5, u12, u13, u14, u15, u16, u17, u27, ds, hj, hdl, rfl, hI⟩
  unfold turnsFrame
  rcases Nat.lt_or_ge j k with hlt | hge
  · obtain ⟨x, hx⟩ : ∃ x, ls[j]? = some x := ⟨_, List.getElem?_eq_getElem (by rw [HKK.out]; exact hlt)⟩
    obtain ⟨c0, a0, m0, n0⟩ := HL.out j x hx
    have hsn : turnsL (listsOf (ls.take (j + 1))) = turnsL (listsOf (ls.take j)) ++ turnsOf x.2.1 := by
      unfold turnsL listsOf
      rw [List.take_add_one, hx, List.map_append, List.flatMap_append]
      simp
    have hle : (turnsL (listsOf (ls.take (j + 1)))).length ≤ 100000 := by
      have h2 : turnsL (listsOf ls) = turnsL (listsOf (ls.take (j + 1))) ++ turnsL (listsOf (ls.drop (j + 1))) := by
        unfold turnsL listsOf
        rw [← List.flatMap_append, ← List.map_append, List.take_append_drop]
      have h3 := HBIG.out
      rw [h2, List.length_append] at h3
      omega
    obtain ⟨T, hT⟩ : ∃ T, turnsL (listsOf (ls.take j)) = T := ⟨_, rfl⟩
    rw [hT] at hI hsn
    rw [hsn] at hle
    obtain ⟨o, l, lc⟩ := x
    simp only at c0 a0 m0 n0 hsn hle
    have hlo : ∀ k, 0 < l.length → inB o k → k < w.heap.size := fun k h0 hk => a0.lt h0 hk
    have c1 := cell_keepN hI.inv.kept.below c0
    have a1 := a0.below hI.inv.kept.below
    have hgw := World.block_lt_of_cell? W _ c1
    obtain ⟨n, hnn⟩ : ∃ n, l.length = n := ⟨_, rfl⟩
    rw [hnn] at c1 n0
    have HN := Lib.hid hnn
    have HA := Lib.hid a1
    have HI := Lib.hid hI
    have HT := Lib.hid hT
    have HSN := Lib.hid hsn
    have HLE := Lib.hid hle
    have HM := Lib.hid m0
    clear hI hT hsn hle hnn a0 a1 c0 m0 hx I0
    gi_wp2_with fail
    refine ⟨trivial, (callsIn_wide.2 (ranges_any o n lc _)).mono ?_⟩
    rintro e w2 ⟨rfl, hw2⟩
    simp only [World.size_alloc] at hw2 ⊢
    have BW : Below W.heap.size W w2 := by rw [← hw2]; exact ((Below.refl _ _).alloc (Nat.le_refl _) _).alloc (by simp) _
    have z2 : w2.heap.size = W.heap.size + 2 := by rw [← hw2]; simp
    have hb : w2.heap[W.heap.size + 1]? = some (chartO o n lc) := by
      rw [← hw2]
      have := heap_alloc_new (W.alloc (layerO o n lc)) (chartO o n lc)
      simpa using this
    have A2 := HA.out.below BW
    have I2 := HI.out.inv.below BW
    have M2 : Marks w ds (fun _ => False) w2 := HI.out.marks.turn (Moves.of_below BW) (fun _ _ => id)
    have hWz := HI.out.inv.kept.size
    clear hw2
    gi_wp2_with fail
    refine wpIn_seqX (n := 6) (Ow := fun _ => False) (Dep := DepR (W.heap.size + 1) o l) (encs := encR) (all := l.zipIdx) (by omega) rfl (enters_of Tryd.func75 (by kernel_rfl) rfl) (fun x => rfl) (seqRanges (by rw [HN.out]; omega) (by rw [HN.out]; exact hb) A2)
      (fun k h => h.elim) (fun k h => by rcases h with h | ⟨h0, h⟩; { omega }; { have := hlo k h0 h; omega })
      (fun X pre V => TurnsAt w (T ++ turnsOf (l.take pre.length)) ds X V) (fun c X pre V => False) ?hI ?hIx ?h0
      (fun b x => { tmps := #[.slice (some ⟨g, off, none⟩) k cap, undef, .map none, .pointer (some ⟨w.heap.size + 1, 0, none⟩), undef, .pointer (some ⟨W.heap.size, 0, none⟩), undef, .pointer (some ⟨b, 0, none⟩), .map (some w.heap.size), .slice (some ⟨g, off, none⟩) k cap, .int .i64 (k : Nat), .int .i64 (j : Nat), .bool true, .pointer (some ⟨g, off + j, none⟩), .agg #[.slice o n lc], .pointer (some ⟨W.heap.size, 0, none⟩), .agg #[.slice o n lc], .func (.func 75) #[] #[.pointer (some ⟨W.heap.size + 1, 0, none⟩)], .int .i64 (x.2 : Nat), rngV x.1, undef, undef, undef, undef, undef, undef, undef, u27, undef], defers := [] })
      (fun A x B => A.alloc (rngO x.1) = B) (fun A x B h => by rw [← h]; exact Moves.of_below ((Below.refl _ _).alloc (Nat.le_refl _) _)) ?assign ?body ?done ?stop
    case hI =>
      rintro X X' xs A B h hm hX
      exact ⟨h.inv.moves hm hX, h.marks.moves hm hX⟩
    case hIx =>
      rintro c X X' xs A B h
      exact h.elim
    case h0 => exact ⟨by simpa [turnsOf] using I2, M2⟩
    case assign =>
      rintro l x A K hK
      gi_wp2
      rfl
    case body =>
      rintro lp X pre ⟨x, i⟩ A A' W1 hA1 hpx hAB hm hXn hXn1 hXlt hJ
      obtain ⟨hi, hx, -⟩ := zip_pre hpx
      subst hi
      have hxb : W1.heap[A.heap.size]? = some (rngO x) := by
        have := heap_alloc_new A (rngO x)
        rw [hAB] at this
        exact row_keep this hm (by omega)
      obtain ⟨q0, q1, q2, _⟩ := rng_cells hxb
      have nB := hJ.inv.kept.free (o := o) (l := l) (cb := W.heap.size + 1) (by omega) hlo
      have cm := hJ.inv.mb.cell
      have hok := HM.out.1 x (List.mem_of_getElem? hx)
      unfold okR at hok
      have hsnoc : turnsOf (l.take (pre ++ [(x, pre.length)]).length) = turnsOf (l.take pre.length) ++ [x.1] ++ [x.2.1 + 1] := by
        rw [List.length_append]
        exact turnsOf_snoc hx
      have hTb : (T ++ turnsOf (l.take pre.length)).length ≤ 100000 := by
        have h1 : turnsOf l = turnsOf (l.take pre.length) ++ turnsOf (l.drop pre.length) := by unfold turnsOf; rw [← List.flatMap_append, List.take_append_drop]
        have h2 := HLE.out
        rw [h1, List.length_append, List.length_append] at h2
        rw [List.length_append]
        omega
      obtain ⟨U, hU⟩ : ∃ U, T ++ turnsOf (l.take pre.length) = U := ⟨_, rfl⟩
      rw [hU] at hJ hTb
      obtain ⟨D, hown, hDT⟩ := hJ.inv.set
      have hk1 := key_int (x := x.1) (by omega) (by omega)
      have hk2 := key_int (x := x.2.1 + 1) (by omega) (by omega)
      have hwr : IntKind.i64.wrap (x.2.1 + 1) = x.2.1 + 1 := wrap_id (by omega) (by omega)
      have hul : U.length < maxLen := by unfold maxLen; omega
      have hul1 : U.length + 1 < maxLen := by unfold maxLen; omega
      have HJ := Lib.hid hJ
      have HNB := Lib.hid nB
      have HOWN := Lib.hid hown
      have HDT := Lib.hid hDT
      have HXB := Lib.hid hxb
      have HSN2 := Lib.hid hsnoc
      have HU := Lib.hid hU
      have hbA : A.heap.size ≠ w.heap.size := by have := hJ.inv.kept.size; omega
      obtain ⟨a, b, v⟩ := x
      simp only at q0 q1 q2 hk1 hk2 hwr HSN2
      clear hJ nB hown hDT hxb hsnoc hU hpx hm hXlt hXn hXn1 hAB hA1 hx hok hTb
      gi_wp2_with (first
        | (gi_at_mapUpdate; refine wpListIn_mapUpdate_own _ rfl _ _ _ 90 rfl 3 4 keyLaw Tryd.underlying90 (plainElem Tryd.prog 4) w.heap.size U.length D rfl HOWN.out hul _ _ _ rfl rfl hk1 _ [] elem_true ?_; intro w5 own5 gr5; have mv5 : Moves (fun k => k = w.heap.size) W1 w5 := (moves_grown gr5).mono (fun k h => by simpa using h); have cm5 : w5.cell? ⟨w.heap.size + 1, 0, none⟩ = some (.map (some w.heap.size)) := cell_moves mv5 (by simp) cm; have q15 : w5.cell? ⟨A.heap.size, 1, none⟩ = some (.int .i64 b) := cell_moves mv5 hbA q1)
        | (gi_at_mapUpdate; refine wpListIn_mapUpdate_own _ rfl _ _ _ 90 rfl 3 4 keyLaw Tryd.underlying90 (plainElem Tryd.prog 4) w.heap.size (U.length + 1) _ rfl own5 hul1 _ _ _ rfl rfl hk2 _ [] elem_true ?_; intro w6 own6 gr6))
      have mv6 : Moves (fun k => k = w.heap.size) W1 w6 := mv5.trans ((moves_grown gr6).mono (fun k h => by simpa using h))
      have hset : SetOf w6 w.heap.size (U ++ [a] ++ [b + 1]).length (U ++ [a] ++ [b + 1]) := by
        rw [List.length_append, List.length_append]
        exact ⟨_, own6, has_put_iff (own_isMap own5) (has_put_iff (own_isMap HOWN.out) HDT.out)⟩
      have hU2 : T ++ turnsOf (l.take (pre ++ [((a, b, v), pre.length)]).length) = U ++ [a] ++ [b + 1] := by
        rw [HSN2.out, ← HU.out]
        simp
      refine ⟨mv6.mono fun k hk => HNB.out k (by omega) (by omega), ?_⟩
      show TurnsAt w (T ++ turnsOf (l.take (pre ++ [((a, b, v), pre.length)]).length)) ds X w6
      rw [hU2]
      exact ⟨⟨HJ.out.inv.kept.turn mv6 (fun k hk => by omega), row_keep HJ.out.inv.mb mv6 (by omega), hset⟩, HJ.out.marks.turn mv6 (fun D hD hk => by have := (HJ.out.marks.2 D hD).1; omega)⟩
    case done =>
      rintro X D V hD hXD hJ hX hK
      rw [List.length_zipIdx, List.take_length, ← HSN.out] at hJ
      have hzD : W.heap.size + 2 ≤ D := by omega
      have hnew : ∀ E ∈ ds, ¬ E = D := fun E hE e => (hJ.marks.2 E hE).2.2 (e ▸ hXD)
      have hfin : TurnsAt w (turnsL (listsOf (ls.take (j + 1)))) (D :: ds) (fun _ => False) V := by
        refine ⟨⟨⟨fun k h => h.elim, hJ.inv.kept.below, hJ.inv.kept.size⟩, hJ.inv.mb, hJ.inv.set⟩, List.nodup_cons.2 ⟨fun h => hnew D h rfl, hJ.marks.1⟩, fun E hE => ?_⟩
        rcases List.mem_cons.1 hE with rfl | hE
        · exact ⟨by omega, hK, id⟩
        · exact ⟨(hJ.marks.2 E hE).1, (hJ.marks.2 E hE).2.1, id⟩
      have HF := Lib.hid hfin
      clear hfin hJ hnew hX hK
      gi_wp2
      refine ⟨⟨j + 1, _, _, _, _, _, _, _, _, D :: ds, by omega, by simp [hdl], rfl, HF.out⟩, ?_⟩
      have e1 : (dfr (D :: ds)).length = j + 1 := by simp [dfr, hdl]
      have e2 : (dfr ds).length = j := by simp [dfr, hdl]
      show k - (dfr (D :: ds)).length < k - (dfr ds).length
      omega
    case stop =>
      rintro X D c pre V hD hXD hpre h
      exact h.elim
  · obtain rfl : j = k := by omega
    have HI := Lib.hid hI
    clear hI I0
    have cm := HI.out.inv.mb.cell
    gi_wp2
    refine leaves_many ds W (fun D hD => (HI.out.marks.2 D hD).2.1) HI.out.marks.1 fun W' hm => ⟨_, results_tmp (t := 2) rfl _ _ _, ?_⟩
    rw [← HP.out]
    refine ⟨w.heap.size, rfl, Nat.le_refl _, ?_, Moves.below HI.out.inv.kept.below HI.out.inv.kept.below.size hm (fun k hk => by have := (HI.out.marks.2 k hk).1; omega)⟩
    have hall : ls.take j = ls := List.take_of_length_le (by rw [HKK.out]; exact Nat.le_refl _)
    have hs := HI.out.inv.set
    rw [hall] at hs
    refine hs.row ?_
    exact (hm.block _ hs.lt (fun hh => by have := (HI.out.marks.2 _ hh).1; omega))
end Go.Proofs.YtlmkefmfhdjmmaaDoor

namespace Go.Proofs.YtlmkefmfhdjmmaaDoor
open Go.RowKit Go.Shelf Go.Maps
attribute [local go_sem] Oper.semAt_some

abbrev encL (x : LayX × Nat) : Array Value := #[.int .i64 (x.2 : Nat), .agg #[.slice x.1.1 x.1.2.1.length x.1.2.2]]
theorem rev_get {α : Type} {l : List α} {p q : Nat} {x : α} (hx : l[q]? = some x) (hpq : p + (q + 1) = l.length) : (l.zipIdx.reverse)[p]? = some (x, q) := by
  rw [List.getElem?_reverse (by rw [List.length_zipIdx]; omega), List.length_zipIdx, show l.length - 1 - p = q from by omega, List.getElem?_zipIdx, hx]
  simp
theorem take_one {α : Type} {l : List α} {i : Nat} {x : α} (h : l[i]? = some x) : l.take i ++ [x] = l.take (i + 1) := by
  rw [List.take_add_one, h]; rfl
theorem saidL_append : ∀ (a b : List (List Rng)) (r : Int), saidL (a ++ b) r = (saidL b r).or (saidL a r)
  | [], b, r => by simp [saidL]
  | x :: a, b, r => by
    rw [List.cons_append, saidL, saidL, saidL_append a b r, Option.or_assoc]
abbrev DepL (cb g : Nat) (k : Nat) : Prop := k = cb ∨ k = g
set_option maxRecDepth 100000 in
set_option maxHeartbeats 1000000 in
theorem seqBack {cb g off cap : Nat} {ls : List LayX} {w : World} (hn : ls.length ≤ 1000000) (hc : w.heap[cb]? = some (.cells #[.slice (some ⟨g, off, none⟩) ls.length cap] 81 (0, 0))) (hL : ∀ (j : Nat) (x : LayX), ls[j]? = some x → w.cell? ⟨g, off + j, none⟩ = some (.slice x.1 x.2.1.length x.2.2)) :
    SeqOfX Tryd.prog 5 79 #[.pointer (some ⟨cb, 0, none⟩)] encL (fun _ => False) (DepL cb g) ls.zipIdx.reverse w := by
  intro W lp J Jx hm hJ hJx hY h0
  have h1 : 1 ≤ 5 := by omega
  have c0 : W.heap[cb]? = some (.cells #[.slice (some ⟨g, off, none⟩) ls.length cap] 81 (0, 0)) := row_keep hc hm id
  have L0 : ∀ (j : Nat) (x : LayX), ls[j]? = some x → W.cell? ⟨g, off + j, none⟩ = some (.slice x.1 x.2.1.length x.2.2) := fun j x hx => cell_moves hm id (hL j x hx)
  obtain ⟨k, hkk⟩ : ∃ k, ls.length = k := ⟨_, rfl⟩
  rw [hkk] at c0 hn
  have cc : W.cell? ⟨cb, 0, none⟩ = some (.slice (some ⟨g, off, none⟩) k cap) := by rw [cell_of_row _ _ 0 _ _ _ c0]; rfl
  have hwk : IntKind.i64.wrap (((k : Nat) : Int) - 1) = ((k : Nat) : Int) - 1 := wrap_id (by omega) (by omega)
  refine callsIn_of_wp Tryd.func79 rfl trivial ?_ rfl
  simp only [Tryd.ntmps79, List.size_toArray, List.length_cons, List.length_nil, Nat.reduceAdd, Nat.reduceSub, Array.replicate_succ, Array.replicate_zero, List.push_toArray, List.append_toArray, List.nil_append, List.cons_append]
  have HJ := Lib.hid hJ
  have HY := Lib.hid hY
  have HK := Lib.hid hkk
  have HC := Lib.hid c0
  have HL0 := Lib.hid L0
  have HH0 := Lib.hid h0
  clear hJ hJx hY hm hkk c0 L0 hc hL h0
  gi_wp2_with fail
  gi_loopg [3] k (fun m u wr => ∃ (p q : Nat), p + q = k ∧ u = .int .i64 (((q : Nat) : Int) - 1) ∧ m = q ∧ Hid (wr.heap[cb]? = some (.cells #[.slice (some ⟨g, off, none⟩) k cap] 81 (0, 0))) ∧ Hid (∀ (j : Nat) (x : LayX), ls[j]? = some x → wr.cell? ⟨g, off + j, none⟩ = some (.slice x.1 x.2.1.length x.2.2)) ∧ J (fun _ => False) (ls.zipIdx.reverse.take p) wr)
  case atStart => exact ⟨0, k, by omega, rfl, rfl, HC, HL0, by simpa using HH0.out⟩
  case round =>
    obtain ⟨p, q, hpq, rfl, rfl, hc, hl, hJ'⟩ := hrel
    cases gk with
    | zero =>
      have hall : ls.zipIdx.reverse.take p = ls.zipIdx.reverse := List.take_of_length_le (by rw [List.length_reverse, List.length_zipIdx, HK.out]; omega)
      rw [hall] at hJ'
      have HJ3 := Lib.hid hJ'
      clear hJ' hall
      gi_wp2
      go_end0
      exact ⟨⟨_, rfl⟩, _, .inl HJ3.out⟩
    | succ q =>
      have e1 : (((q + 1 : Nat) : Int) - 1) = ((q : Nat) : Int) := by omega
      rw [e1]
      obtain ⟨x, hx⟩ : ∃ x, ls[q]? = some x := ⟨_, List.getElem?_eq_getElem (by rw [HK.out]; omega)⟩
      have k0 := hl.out q x hx
      have kc : wr.cell? ⟨cb, 0, none⟩ = some (.slice (some ⟨g, off, none⟩) k cap) := by rw [cell_of_row _ _ 0 _ _ _ hc.out]; rfl
      have hg := rev_get hx (by rw [HK.out]; exact hpq)
      obtain ⟨fn, tmps, assign, body, hy, hR⟩ := HY.out _ _ _ _ (by rw [take_one hg]; exact List.take_prefix _ _) hJ'
      obtain ⟨o, l, lc⟩ := x
      obtain ⟨n, hnn⟩ : ∃ n, l.length = n := ⟨_, rfl⟩
      replace hy : (Instr.yield lp #[.int .i64 (q : Nat), .agg #[.slice o l.length lc]]).run Tryd.prog wr = .ok (.round lp fn tmps assign body) wr := hy
      simp only at k0
      rw [hnn] at k0 hy
      have hqk : q < k := by omega
      have hwq : IntKind.i64.wrap (((q : Nat) : Int) - 1) = ((q : Nat) : Int) - 1 := wrap_id (by omega) (by omega)
      have HRR := Lib.hid hR
      have HG := Lib.hid hg
      clear hR hg hx hJ' e1 hwk
      gi_wp2
      refine HRR.out.mono ?_
      rintro e w3 (⟨rfl, hJ4, hk4⟩ | ⟨rfl, hJx4, _⟩)
      · have HJ5 : Hid (J (fun _ => False) (ls.zipIdx.reverse.take (p + 1)) w3) := by rw [← take_one HG.out]; exact Lib.hid hJ4
        have hc3 := Lib.hid (row_keep hc.out hk4 (fun h => h.2 (.inl rfl)))
        have hl3 : Hid (∀ (j : Nat) (x : LayX), ls[j]? = some x → w3.cell? ⟨g, off + j, none⟩ = some (.slice x.1 x.2.1.length x.2.2)) := Lib.hid fun j x hx => cell_moves hk4 (fun h => h.2 (.inr rfl)) (hl.out j x hx)
        clear hJ4 hk4
        gi_wp2
        gi_roundg q
        case measure => omega
        case rel => exact ⟨p + 1, q, by omega, rfl, rfl, hc3, hl3, HJ5.out⟩
      · gi_wp2
        refine bodyPost_ret (results_none rfl _ _ _) rfl ?_
        exact ⟨⟨_, rfl⟩, _, .inr ⟨_, by rw [take_one HG.out]; exact List.take_prefix _ _, hJx4⟩⟩
theorem back_anyN (o : Option Addr) (n cap : Nat) (w : World) : Calls Tryd.prog 66 #[.slice o n cap] w fun e w' => e = .returned (.func (.func 79) #[] #[.pointer (some ⟨w.heap.size, 0, none⟩)]) ∧ w.alloc (.cells #[.slice o n cap] 81) = w' := by
  go_enter Tryd.func66, Tryd.ntmps66
  go_wp2
  go_ret
  exact ⟨rfl, rfl⟩
theorem run_loadVar_cell {P : Program} {ty : TypeId} {d : TypeDesc} {a : Addr} {v : Value} {w : World} (hu : P.underlying ty = some d) (hd : (match d with | .struct _ | .array _ _ => true | _ => false) = false) (hc : w.cell? a = some v) : (loadVar ty a).run P w = .ok v w := by
  cases d <;> simp at hd <;> simp [loadVar, isAgg, underlying, hu, hc, Result.andThen]
theorem results_cells2 {P : Program} {fn : Func} {p q : Tmp} {ty tz : TypeId} (h : fn.results = #[.cell p ty, .cell q tz]) (tmps : Array Value) (w : World) (a b : Addr) (u v : Value)
    (hp : tmps.getD p undef = .pointer (some a)) (hq : tmps.getD q undef = .pointer (some b)) (hu : (loadVar ty a).run P w = .ok u w) (hv : (loadVar tz b).run P w = .ok v w) :
    (results fn tmps).run P w = .ok (.tuple #[u, v]) w := by
  have hp' : tmps[p]?.getD undef = .pointer (some a) := by simpa using hp
  have hq' : tmps[q]?.getD undef = .pointer (some b) := by simpa using hq
  simp [results, h, hp', hq', asAddr, hu, hv, Result.andThen]
end Go.Proofs.YtlmkefmfhdjmmaaDoor

namespace Go.Proofs.YtlmkefmfhdjmmaaDoor
open Go.RowKit Go.Shelf Go.Maps
attribute [local go_sem] Oper.semAt_some

structure LaidInv (w : World) (r : Int) (X : Nat → Prop) (W : World) (s : Option Int) : Prop where
  kept : Kept w 3 X W
  rb : Boxed W w.heap.size 3 (.int .i64 r)
  vb : Boxed W (w.heap.size + 1) 3 (.int .i64 (s.getD 0))
  fb : Boxed W (w.heap.size + 2) 4 (.bool s.isSome)
theorem LaidInv.moves {w : World} {r : Int} {X X' : Nat → Prop} {A B : World} {s : Option Int} (h : LaidInv w r X A s) (hm : Moves X A B) (hX : ∀ k, X' k → (X k ∨ A.heap.size ≤ k) ∧ k < B.heap.size) : LaidInv w r X' B s :=
  ⟨h.kept.moves hm hX, h.kept.row hm (by omega) h.rb, h.kept.row hm (by omega) h.vb, h.kept.row hm (by omega) h.fb⟩
theorem LaidInv.below {w : World} {r : Int} {X : Nat → Prop} {A B : World} {s : Option Int} (h : LaidInv w r X A s) (hb : Below A.heap.size A B) : LaidInv w r X B s := by
  have hm : Moves (fun _ => False) A B := Moves.of_below hb
  exact ⟨h.kept.turn hm (fun k h => h.elim), row_keep h.rb hm id, row_keep h.vb hm id, row_keep h.fb hm id⟩
/-- What the layers from behind say. -/
def saidFrom (ls : List LayX) (p : Nat) (r : Int) : Option Int := saidL (listsOf (ls.drop (ls.length - p))) r
theorem saidFrom_step {ls : List LayX} {p q : Nat} {x : LayX} {r : Int} (hx : ls[q]? = some x) (hpq : p + (q + 1) = ls.length) : saidFrom ls (p + 1) r = (saidFrom ls p r).or (findL x.2.1 r) := by
  have hlt := (List.getElem?_eq_some_iff.1 hx).1
  unfold saidFrom
  rw [show ls.length - (p + 1) = q from by omega, show ls.length - p = q + 1 from by omega, List.drop_eq_getElem_cons hlt, (List.getElem?_eq_some_iff.1 hx).2]
  rfl
theorem saidFrom_some {ls : List LayX} {p : Nat} {r v : Int} (h : saidFrom ls p r = some v) : saidL (listsOf ls) r = some v := by
  have e : ls = ls.take (ls.length - p) ++ ls.drop (ls.length - p) := (List.take_append_drop _ _).symm
  have e2 : listsOf ls = listsOf (ls.take (ls.length - p)) ++ listsOf (ls.drop (ls.length - p)) := by
    unfold listsOf
    rw [← List.map_append, List.take_append_drop]
  rw [e2, saidL_append]
  unfold saidFrom at h
  rw [h]
  rfl
theorem rev_pre {α : Type} {l : List α} {pre : List (α × Nat)} {x : α} {n : Nat} (h : pre ++ [(x, n)] <+: l.zipIdx.reverse) : pre.length + (n + 1) = l.length ∧ l[n]? = some x := by
  obtain ⟨t, ht⟩ := h
  have h1 : (l.zipIdx.reverse)[pre.length]? = some (x, n) := by rw [← ht]; simp
  have hlt : pre.length < l.length := by have := (List.getElem?_eq_some_iff.1 h1).1; simpa using this
  rw [List.getElem?_reverse (by simpa using hlt), List.length_zipIdx, List.getElem?_zipIdx] at h1
  cases hx : l[l.length - 1 - pre.length]? with
  | none => rw [hx] at h1; cases h1
  | some y =>
    rw [hx] at h1
    simp at h1
    obtain ⟨rfl, rfl⟩ := h1
    exact ⟨by omega, hx⟩
set_option maxRecDepth 100000 in
set_option maxHeartbeats 2000000 in
theorem laid1_any {B g off cap : Nat} {ls : List LayX} (r : Int) (w : World) (hn : ls.length ≤ 1000) (hB : w.heap[B]? = some (.cells #[.slice (some ⟨g, off, none⟩) ls.length cap] 81 (0, 0))) (hL : LaysAt w g off ls) (hg : g < w.heap.size) :
    Calls Tryd.prog 65 #[.int .i64 r, .pointer (some ⟨B, 0, none⟩)] w fun e w' => e = .returned (ansF (saidL (listsOf ls) r)) ∧ Below w.heap.size w w' := by
  refine (callsIn_wide (n := 6)).1 ?_
  have h1 : 1 ≤ 6 := by omega
  refine callsIn_of_wp_marks Tryd.func65 rfl trivial ?_ rfl
  simp only [Tryd.ntmps65, List.size_toArray, List.length_cons, List.length_nil, Nat.reduceAdd, Nat.reduceSub, Array.replicate_succ, Array.replicate_zero, List.push_toArray, List.append_toArray, List.nil_append, List.cons_append]
  obtain ⟨P, hP⟩ : ∃ P, (fun (e : Ending) w' => e = .returned (ansF (saidL (listsOf ls) r)) ∧ Below w.heap.size w w') = P := ⟨_, rfl⟩
  have HP := Lib.hid hP
  rw [hP]
  obtain ⟨k, hkk⟩ : ∃ k, ls.length = k := ⟨_, rfl⟩
  have HK := Lib.hid hkk
  rw [hkk] at hB hn
  have HL := Lib.hid hL
  have cB : w.cell? ⟨B, 0, none⟩ = some (.slice (some ⟨g, off, none⟩) k cap) := by rw [cell_of_row _ _ 0 _ _ _ hB]; rfl
  have hBl : B < w.heap.size := World.block_lt_of_cell? w _ cB
  have hBl1 : B < w.heap.size + 1 := by omega
  have hBl2 : B < w.heap.size + 1 + 1 := by omega
  clear hP hkk hL hB
  gi_wp2_with fail
  refine ⟨trivial, (callsIn_wide.2 (back_anyN _ k cap _)).mono ?_⟩
  rintro e w2 ⟨rfl, hw2⟩
  simp only [World.size_alloc] at hw2 ⊢
  have BW : Below w.heap.size w w2 := by rw [← hw2]; exact ((((Below.refl _ _).alloc (Nat.le_refl _) _).alloc (by simp) _).alloc (by simp; omega) _).alloc (by simp; omega) _
  have z2 : w2.heap.size = w.heap.size + 4 := by rw [← hw2]; simp
  have R2 : Boxed w2 w.heap.size 3 (.int .i64 r) := by
    rw [← hw2]
    have := Boxed.new w 3 (.int .i64 r)
    exact ((this.alloc _).alloc _).alloc _
  have V2 : Boxed w2 (w.heap.size + 1) 3 (.int .i64 0) := by
    rw [← hw2]
    have := Boxed.new (w.alloc (.cells #[.int .i64 r] 3)) 3 (.int .i64 0)
    rw [World.size_alloc] at this
    exact (this.alloc _).alloc _
  have F2 : Boxed w2 (w.heap.size + 2) 4 (.bool false) := by
    rw [← hw2]
    have := Boxed.new ((w.alloc (.cells #[.int .i64 r] 3)).alloc (.cells #[.int .i64 0] 3)) 4 (.bool false)
    rw [World.size_alloc, World.size_alloc] at this
    exact this.alloc _
  have hb : w2.heap[w.heap.size + 1 + 1 + 1]? = some (.cells #[.slice (some ⟨g, off, none⟩) k cap] 81 (0, 0)) := by
    rw [← hw2]
    have := heap_alloc_new (((w.alloc (.cells #[.int .i64 r] 3)).alloc (.cells #[.int .i64 0] 3)).alloc (.cells #[.bool false] 4)) (.cells #[.slice (some ⟨g, off, none⟩) k cap] 81)
    simpa using this
  have L2 : ∀ (j : Nat) (x : LayX), ls[j]? = some x → w2.cell? ⟨g, off + j, none⟩ = some (.slice x.1 x.2.1.length x.2.2) := fun j x hx => cell_keepN BW (HL.out j x hx).1
  clear hw2
  gi_wp2_with fail
  refine wpIn_seqX (n := 6) (Ow := fun _ => False) (Dep := DepL (w.heap.size + 1 + 1 + 1) g) (encs := encL) (all := ls.zipIdx.reverse) (by omega) rfl (enters_of Tryd.func79 (by kernel_rfl) rfl) (fun x => rfl) (seqBack (by rw [HK.out]; omega) (by rw [HK.out]; exact hb) L2)
    (fun k h => h.elim) (fun k h => by rcases h with h | h <;> omega)
    (fun X pre W => LaidInv w r X W none ∧ saidFrom ls pre.length r = none) (fun c X pre W => c = .ret ∧ ∃ v, LaidInv w r X W (some v) ∧ saidL (listsOf ls) r = some v) ?hI ?hIx ?h0
    (fun b x => { tmps := #[.int .i64 r, .pointer (some ⟨B, 0, none⟩), .pointer (some ⟨w.heap.size, 0, none⟩), .pointer (some ⟨w.heap.size + 1, 0, none⟩), .pointer (some ⟨w.heap.size + 1 + 1, 0, none⟩), undef, .pointer (some ⟨b, 0, none⟩), undef, undef, .slice (some ⟨g, off, none⟩) k cap, .func (.func 79) #[] #[.pointer (some ⟨w.heap.size + 1 + 1 + 1, 0, none⟩)], .int .i64 (x.2 : Nat), .agg #[.slice x.1.1 x.1.2.1.length x.1.2.2], undef, undef, undef, undef, undef, undef, undef, undef], defers := [] })
    (fun A x B => A.alloc (layerO x.1.1 x.1.2.1.length x.1.2.2) = B) (fun A x B h => by rw [← h]; exact Moves.of_below ((Below.refl _ _).alloc (Nat.le_refl _) _)) ?assign ?body ?done ?stop
  case hI =>
    rintro X X' xs A B ⟨h, hf⟩ hm hX
    exact ⟨h.moves hm hX, hf⟩
  case hIx =>
    rintro c X X' xs A B ⟨rfl, v, h, hf⟩ hm hX
    exact ⟨rfl, v, h.moves hm hX, hf⟩
  case h0 => exact ⟨⟨⟨fun k h => h.elim, BW, by omega⟩, R2, V2, F2⟩, by unfold saidFrom; rw [show ls.length - ([] : List (LayX × Nat)).length = ls.length from rfl, List.drop_length]; rfl⟩
  case assign =>
    rintro l x A K hK
    gi_wp2
    rfl
  case body =>
    rintro lp X pre ⟨x, q⟩ A A' W1 hA1 hpx hAB hm hXn hXn1 hXlt ⟨hI, hf⟩
    obtain ⟨hpq, hx⟩ := rev_pre hpx
    have hstep := saidFrom_step (r := r) hx hpq
    rw [hf] at hstep
    obtain ⟨_, a0, m0, n0⟩ := HL.out q x hx
    have hxb : W1.heap[A.heap.size]? = some (layerO x.1 x.2.1.length x.2.2) := by
      have := heap_alloc_new A (layerO x.1 x.2.1.length x.2.2)
      rw [hAB] at this
      exact row_keep this hm (by omega)
    have q0 : W1.cell? ⟨A.heap.size, 0, none⟩ = some (.slice x.1 x.2.1.length x.2.2) := by rw [cell_of_row _ _ 0 _ _ _ hxb]; rfl
    have nB : ∀ j, j < w.heap.size + 3 → w.heap.size ≤ j → ¬ X j ∧ ¬ DepL (w.heap.size + 1 + 1 + 1) g j := fun j hj hj2 => ⟨fun h => by have := hI.kept.far j h; omega, fun h => by rcases h with h | h <;> omega⟩
    have cr := hI.rb.cell
    have hsay := says_any x.1 x.2.1 x.2.2 r (by omega) m0 W1 (a0.below hI.kept.below)
    have hXb : ∀ k, X k → k < W1.heap.size := fun k h => by have h1 := hXlt k h; have h2 := hm.size; rw [← hAB] at h2; simp at h2; omega
    have HI := Lib.hid hI
    have HNB := Lib.hid nB
    have HXB := Lib.hid hXb
    have HLE := Lib.hid (show pre.length + 1 = (pre ++ [(x, q)]).length by simp)
    obtain ⟨o, l, lc⟩ := x
    simp only at q0 hsay hstep
    obtain ⟨n, hnn⟩ : ∃ n, l.length = n := ⟨_, rfl⟩
    show Code.wpIn _ _ _ _ _ { tmps := _, defers := _ } _
    simp only
    rw [hnn] at q0 hsay ⊢
    obtain ⟨R, hR⟩ : ∃ R, findL l r = R := ⟨_, rfl⟩
    rw [hR] at hsay hstep
    have HS := Lib.hid hsay
    have HST := Lib.hid hstep
    clear hI hf nB hXb hpx hm hXlt hXn hXn1 hxb hAB hA1 hx hpq hstep hsay hR a0 m0 n0
    gi_wp2_with fail
    refine ⟨trivial, CallsIn.inRound lp ((callsIn_wide.2 HS.out).mono ?_)⟩
    rintro e W2 ⟨rfl, b2⟩
    have hI2 := HI.out.below b2
    have HI2 := Lib.hid hI2
    have HB2 := Lib.hid b2
    have fv : W2.frozen? ⟨w.heap.size + 1, 0, none⟩ = false := hI2.vb.frozen
    have cv : W2.cell? ⟨w.heap.size + 1, 0, none⟩ = some (.int .i64 0) := hI2.vb.cell
    have cf : W2.cell? ⟨w.heap.size + 1 + 1, 0, none⟩ = some (.bool false) := hI2.fb.cell
    have ff : W2.frozen? ⟨w.heap.size + 1 + 1, 0, none⟩ = false := hI2.fb.frozen
    clear hI2 b2 HS q0 cr
    cases R with
    | none =>
      have HR : Hid (seqEndX (DepL (w.heap.size + 1 + 1 + 1) g) X (fun X pre W => LaidInv w r X W none ∧ saidFrom ls pre.length r = none) (fun c X pre W => c = .ret ∧ ∃ v, LaidInv w r X W (some v) ∧ saidL (listsOf ls) r = some v) (pre ++ [((o, l, lc), q)]) W1 .normal ({ tmps := #[], defers := [] } : Act) W2) :=
        Lib.hid ⟨Moves.of_below HB2.out, HI2.out, by rw [← HLE.out]; exact HST.out⟩
      rw [show ansF none = .tuple #[.int .i64 0, .bool false] from rfl]
      gi_wp2
      exact HR.out
    | some v =>
      have hm4 : Moves (fun k => k = w.heap.size + 1 ∨ k = w.heap.size + 2) W2 ((W2.setCell ⟨w.heap.size + 1, 0, none⟩ (.int .i64 v)).setCell ⟨w.heap.size + 1 + 1, 0, none⟩ (.bool true)) := (Moves.setCell (.inl rfl)).trans (Moves.setCell (.inr rfl))
      have HR : Hid (seqEndX (DepL (w.heap.size + 1 + 1 + 1) g) X (fun X pre W => LaidInv w r X W none ∧ saidFrom ls pre.length r = none) (fun c X pre W => c = .ret ∧ ∃ v, LaidInv w r X W (some v) ∧ saidL (listsOf ls) r = some v) (pre ++ [((o, l, lc), q)]) W1 .ret ({ tmps := #[], defers := [] } : Act) ((W2.setCell ⟨w.heap.size + 1, 0, none⟩ (.int .i64 v)).setCell ⟨w.heap.size + 1 + 1, 0, none⟩ (.bool true))) := by
        refine Lib.hid ⟨(Moves.of_below HB2.out).trans (hm4.mono fun k h => HNB.out k (by omega) (by omega)), rfl, v, ⟨HI2.out.kept.turn hm4 (fun k h => by omega), row_keep HI2.out.rb hm4 (by omega), ?_, ?_⟩, saidFrom_some HST.out⟩
        · exact row_keep (HI2.out.vb.set _) (Moves.setCell (S := fun k => k = w.heap.size + 2) rfl) (by omega)
        · exact (show Boxed (W2.setCell ⟨w.heap.size + 1, 0, none⟩ (.int .i64 v)) (w.heap.size + 2) 4 (.bool false) from row_keep HI2.out.fb (Moves.setCell (S := fun k => k = w.heap.size + 1) (w := W2) (a := ⟨w.heap.size + 1, 0, none⟩) (v := .int .i64 v) rfl) (by omega)).set _
      clear hm4
      rw [show ansF (some v) = .tuple #[.int .i64 v, .bool true] from rfl]
      gi_wp2
      exact HR.out
  case done =>
    rintro X D W hD hXD ⟨hI, hf⟩ hX hK
    rw [List.length_reverse, List.length_zipIdx] at hf
    have hsaid : saidL (listsOf ls) r = none := by
      unfold saidFrom at hf
      rwa [show ls.length - ls.length = 0 from by omega, List.drop_zero] at hf
    have hm1 : Moves (fun k => k = w.heap.size + 1 ∨ k = w.heap.size + 2) W ((W.setCell ⟨w.heap.size + 1, 0, none⟩ (.int .i64 0)).setCell ⟨w.heap.size + 1 + 1, 0, none⟩ (.bool false)) := (Moves.setCell (.inl rfl)).trans (Moves.setCell (.inr rfl))
    have hne : ¬ (D = w.heap.size + 1 ∨ D = w.heap.size + 2) := by omega
    obtain ⟨V, hV⟩ : ∃ V, (W.setCell ⟨w.heap.size + 1, 0, none⟩ (.int .i64 0)).setCell ⟨w.heap.size + 1 + 1, 0, none⟩ (.bool false) = V := ⟨_, rfl⟩
    have v1 : Boxed V (w.heap.size + 1) 3 (.int .i64 0) := by
      rw [← hV]
      exact row_keep (hI.vb.set _) (Moves.setCell (S := fun k => k = w.heap.size + 2) rfl) (by omega)
    have v2 : Boxed V (w.heap.size + 2) 4 (.bool false) := by
      rw [← hV]
      exact (show Boxed (W.setCell ⟨w.heap.size + 1, 0, none⟩ (.int .i64 0)) (w.heap.size + 2) 4 (.bool false) from row_keep hI.fb (Moves.setCell (S := fun k => k = w.heap.size + 1) (w := W) (a := ⟨w.heap.size + 1, 0, none⟩) (v := .int .i64 0) rfl) (by omega)).set _
    rw [hV] at hm1
    have hK2 : V.heap[D]? = some (.deferred (some [])) := row_keep hK hm1 hne
    have hm2 : Moves (fun k => k = D) V (V.putObj D (.deferred none)) := Moves.putObj rfl
    have y1 : (V.putObj D (.deferred none)).cell? ⟨w.heap.size + 1, 0, none⟩ = some (.int .i64 0) := (show Boxed _ _ 3 _ from row_keep v1 hm2 (by omega)).cell
    have y2 : (V.putObj D (.deferred none)).cell? ⟨w.heap.size + 1 + 1, 0, none⟩ = some (.bool false) := (show Boxed _ _ 4 _ from row_keep v2 hm2 (by omega)).cell
    have hpost : P (.returned (.tuple #[.int .i64 0, .bool false])) (V.putObj D (.deferred none)) := by
      rw [← HP.out]
      refine ⟨by rw [hsaid]; rfl, Moves.below hI.kept.below hI.kept.below.size ((hm1.mono (T := fun k => w.heap.size ≤ k) (fun k h => by omega)).trans (hm2.mono (fun k h => by omega))) (fun k h => h)⟩
    have HPP := Lib.hid hpost
    have HV := Lib.hid hV
    have cv : W.cell? ⟨w.heap.size + 1, 0, none⟩ = some (.int .i64 0) := hI.vb.cell
    have cf : W.cell? ⟨w.heap.size + 1 + 1, 0, none⟩ = some (.bool false) := hI.fb.cell
    have fv : W.frozen? ⟨w.heap.size + 1, 0, none⟩ = false := hI.vb.frozen
    have ff : W.frozen? ⟨w.heap.size + 1 + 1, 0, none⟩ = false := hI.fb.frozen
    clear hpost hI hm1 hm2 v1 v2 hf hsaid hV
    gi_wp2
    rw [HV.out]
    refine ⟨by simp, .inl ⟨_, _, rfl, run_takeDeferred hK2, ?_⟩⟩
    exact ⟨_, results_cells2 rfl _ _ _ _ _ _ rfl rfl (run_loadVar_cell Tryd.underlying3 rfl y1) (run_loadVar_cell Tryd.underlying4 rfl y2), HPP.out⟩
  case stop =>
    rintro X D c pre W hD hXD hpre ⟨rfl, v, hI, hf⟩ hX hK
    have hm2 : Moves (fun k => k = D) W (W.putObj D (.deferred none)) := Moves.putObj rfl
    have y1 : (W.putObj D (.deferred none)).cell? ⟨w.heap.size + 1, 0, none⟩ = some (.int .i64 v) := (show Boxed _ _ 3 _ from row_keep hI.vb hm2 (by omega)).cell
    have y2 : (W.putObj D (.deferred none)).cell? ⟨w.heap.size + 1 + 1, 0, none⟩ = some (.bool true) := (show Boxed _ _ 4 _ from row_keep hI.fb hm2 (by omega)).cell
    have hpost : P (.returned (.tuple #[.int .i64 v, .bool true])) (W.putObj D (.deferred none)) := by
      rw [← HP.out]
      exact ⟨by rw [hf]; rfl, Moves.below hI.kept.below hI.kept.below.size hm2 (fun k h => by omega)⟩
    have HPP := Lib.hid hpost
    clear hpost hI hm2
    gi_wp2
    refine ⟨by simp, .inl ⟨_, _, rfl, run_takeDeferred hK, ?_⟩⟩
    exact ⟨_, results_cells2 rfl _ _ _ _ _ _ rfl rfl (run_loadVar_cell Tryd.underlying3 rfl y1) (run_loadVar_cell Tryd.underlying4 rfl y2), HPP.out⟩
end Go.Proofs.YtlmkefmfhdjmmaaDoor

namespace Go.Proofs.YtlmkefmfhdjmmaaDoor
open Go.RowKit Go.Shelf Go.Maps

/-- Numbers that rise. -/
def risesL (ps : List Int) : Prop := ps.Pairwise (fun x y => x < y)
theorem rises_of {ss : List Int} (hn : ss.Nodup) : risesL (ss.mergeSort fun x y => decide (x ≤ y)) := by
  have hs : (ss.mergeSort fun x y => decide (x ≤ y)).Pairwise (fun a b => decide (a ≤ b) = true) :=
    List.pairwise_mergeSort (fun a b c h1 h2 => by simp at *; omega) (fun a b => by simp; omega) ss
  have hnd : (ss.mergeSort fun x y => decide (x ≤ y)).Nodup := (List.mergeSort_perm ss _).nodup_iff.2 hn
  refine (hs.and hnd).imp fun {a b} h => ?_
  have h1 : a ≤ b := by simpa using h.1
  have h2 : a ≠ b := h.2
  omega
/-- Each number once. -/
def onceL : List Int → List Int
  | [] => []
  | x :: l => if x ∈ onceL l then onceL l else x :: onceL l
theorem once_mem : ∀ (l : List Int) (x : Int), x ∈ onceL l ↔ x ∈ l
  | [], x => by simp [onceL]
  | y :: l, x => by
    unfold onceL
    split
    · rename_i h
      rw [once_mem l x, List.mem_cons]
      constructor
      · exact .inr
      · rintro (rfl | h2)
        · exact (once_mem l _).1 h
        · exact h2
    · rw [List.mem_cons, List.mem_cons, once_mem l x]
theorem once_nodup : ∀ l : List Int, (onceL l).Nodup
  | [] => List.nodup_nil
  | y :: l => by
    unfold onceL
    split
    · exact once_nodup l
    · rename_i h
      exact List.nodup_cons.2 ⟨h, once_nodup l⟩
theorem keys_of {W : World} {b n : Nat} {T : List Int} {D : DataW Unit} (hown : W.ownsMap Tryd.prog 3 (plainElem Tryd.prog 4) b n D) (hT : ∀ x : Int, has D (.int .i64 x) = true ↔ x ∈ T) {ss : List Int} (hp : ss.Perm (intKeys D)) :
    ss.Nodup ∧ ∀ x, x ∈ ss ↔ x ∈ T := by
  have hc : CollectedI D (fun _ => false) (onceL T) := ⟨once_nodup T, fun x => by rw [once_mem, ← hT x]; simp⟩
  have hq := hp.trans (hc.perm hown keyLaw Tryd.underlying3 (fun _ => rfl)).symm
  exact ⟨hq.nodup_iff.2 (once_nodup T), fun x => by rw [hq.mem_iff, once_mem]⟩
/-- slices.Sort's two contracts, at the fence that asks nothing. -/
theorem sortsI (m : Nat) : Go.Proofs.AnyZI.SortsIn Tryd.prog Tryd.sorted69_ren Fence.wide m :=
  ⟨fun blk off cap ss W hH hblk hsz => callsIn_wide.2 (AnyM.slices_Sort_int Tryd.sort82 blk off cap ss W hH hblk hsz),
   fun p cap W => callsIn_wide.2 (AnyM.slices_Sort_int_none Tryd.sort82 p cap W)⟩
theorem keys_any (mb : Option Nat) (W : World) : CallsIn Fence.wide 4 Tryd.prog 70 #[.map mb] W fun e w' => e = .returned (.func (.func 83) #[] #[.pointer (some ⟨W.heap.size, 0, none⟩)]) ∧ w' = W.alloc (.cells #[.map mb] 90) :=
  AnyZI.keys_in Tryd.keys70 Fence.wide 4 trivial rfl mb W
end Go.Proofs.YtlmkefmfhdjmmaaDoor

namespace Go.Proofs.YtlmkefmfhdjmmaaDoor
open Go.RowKit Go.Shelf Go.Maps
attribute [local go_sem] Oper.semAt_some

def placesL (T : List Int) : List Int := (onceL T).mergeSort fun x y => decide (x ≤ y)
theorem places_rise (T : List Int) : risesL (placesL T) := rises_of (once_nodup T)
theorem places_mem (T : List Int) (x : Int) : x ∈ placesL T ↔ x ∈ T := by
  unfold placesL
  rw [(List.mergeSort_perm _ _).mem_iff, once_mem]
theorem once_length : ∀ l : List Int, (onceL l).length ≤ l.length
  | [] => Nat.le_refl _
  | y :: l => by
    have := once_length l
    unfold onceL
    split <;> simp <;> omega
theorem places_length (T : List Int) : (placesL T).length ≤ T.length := by
  unfold placesL
  rw [List.length_mergeSort]
  exact once_length T
/-- From each place to right ahead of the next one. -/
def strL : List Int → List (Int × Int)
  | x :: y :: l => (x, y - 1) :: strL (y :: l)
  | _ => []
theorem strL_get : ∀ {ps : List Int} {i : Nat} {x y : Int}, ps[i]? = some x → ps[i + 1]? = some y → (strL ps)[i]? = some (x, y - 1)
  | [], i, x, y, h, _ => by simp at h
  | [a], i, x, y, _, h => by simp at h
  | a :: b :: l, 0, x, y, h1, h2 => by
    simp at h1 h2
    subst h1 h2
    rfl
  | a :: b :: l, i + 1, x, y, h1, h2 => by
    unfold strL
    rw [List.getElem?_cons_succ]
    exact strL_get (by simpa using h1) (by simpa using h2)
theorem strL_length : ∀ ps : List Int, (strL ps).length = ps.length - 1
  | [] => rfl
  | [a] => rfl
  | a :: b :: l => by
    have := strL_length (b :: l)
    unfold strL
    simp only [List.length_cons] at this ⊢
    omega
theorem size_le {W : World} {b n : Nat} {D : DataW Unit} (hown : W.ownsMap Tryd.prog 3 (plainElem Tryd.prog 4) b n D) : Maps.size D ≤ n := by
  obtain ⟨es, clock, _, _, hs, rfl⟩ := hown
  rw [size_eq, length_sorted]
  simpa using hs
theorem sorted_any {b n : Nat} {T : List Int} {w : World} (h : SetOf w b n T) (hn : n ≤ 100000) :
    CallsIn Fence.wide 4 Tryd.prog 69 #[.func (.func 83) #[] #[.pointer (some ⟨w.heap.size, 0, none⟩)]] (w.alloc (.cells #[.map (some b)] 90)) fun e w' =>
      ∃ v, e = .returned v ∧ w'.ownsRow (w.heap.size + 1) 3 1 v (placesL T).length ((placesL T).map encZ) ∧ Below (w.heap.size + 1) (w.alloc (.cells #[.map (some b)] 90)) w' := by
  obtain ⟨D, hown, hT⟩ := h
  have hbl := hown.lt
  have hsz := size_le hown
  have hseq : SeqGives Fence.wide 1 Tryd.prog 83 #[.pointer (some ⟨w.heap.size, 0, none⟩)] encZ (fun ss => ss.Perm (intKeys D)) (Maps.size D) (w.alloc (.cells #[.map (some b)] 90)) :=
    AnyZI.keys_gives (ρ := Tryd.keys70_ren) { Tryd.keys70 with } Fence.wide _ trivial rfl (by omega) w.heap.size b n D _ (by simp) (by simp) (by
      obtain ⟨es, clock, hb, Ft, hs, hD⟩ := hown
      exact ⟨es, clock, (Below.heap_alloc _ _ b hbl).trans hb, Ft, hs, hD⟩)
  have cS := AnyZI.sorted_in Tryd.sorted69 Fence.wide 4 trivial trivial trivial trivial rfl (by omega) (sortsI _) (enters_of Tryd.func82 (by kernel_rfl) rfl) 83 #[.pointer (some ⟨w.heap.size, 0, none⟩)] trivial (enters_of Tryd.func83 (by kernel_rfl) rfl) _ _ (by unfold maxLen; omega) (by omega) _ hseq
  refine CallsIn.mono cS ?_
  rintro e w' ⟨v, ss, rfl, hp, hrow, _, hb⟩
  have hperm : ss.Perm (onceL T) := hp.trans (CollectedI.perm (show CollectedI D (fun _ => false) (onceL T) from ⟨once_nodup T, fun x => by rw [once_mem, ← hT x]; simp⟩) hown keyLaw Tryd.underlying3 (fun _ => rfl)).symm
  have heq : ss.mergeSort (fun x y => decide (x ≤ y)) = placesL T := mergeSort_of_perm_i hperm
  have hlen : ss.length = (placesL T).length := by rw [← heq, List.length_mergeSort]
  rw [heq, hlen] at hrow
  refine ⟨v, rfl, ?_, ?_⟩
  · have := hrow
    rw [World.size_alloc] at this
    exact this
  · rw [World.size_alloc] at hb
    exact hb
abbrev encP (x : Int × Int) : Array Value := #[.int .i64 x.1, .int .i64 x.2]
theorem own_ints {w : World} {base : Nat} {v : Value} {ps : List Int} (h : w.ownsRow base 3 1 v ps.length (ps.map encZ)) (hn : 0 < ps.length) : ∃ g cap, v = .slice (some ⟨g, 0, none⟩) ps.length cap ∧ base ≤ g ∧ g < w.heap.size ∧ ∀ (i : Nat) (x : Int), ps[i]? = some x → w.cell? ⟨g, i, none⟩ = some (.int .i64 x) := by
  rcases h.2 with ⟨_, h0⟩ | ⟨g, cap, cur, rfl, hb, hg, _, _, _, htake⟩
  · omega
  · refine ⟨g, cap, rfl, hb, (Array.getElem?_eq_some_iff.1 hg).1, fun i x hx => ?_⟩
    rw [cell_of_row _ _ i _ _ _ hg]
    have h1 : (ps.map encZ)[i]? = some (encZ x) := by rw [List.getElem?_map, hx]; rfl
    rw [← htake, List.getElem?_take] at h1
    split at h1
    · simpa using h1
    · cases h1
theorem pre_snoc {α : Type} {l : List α} {i : Nat} {x : α} (h : l[i]? = some x) : l.take i ++ [x] = l.take (i + 1) := by
  rw [List.take_add_one, h]; rfl
set_option maxRecDepth 100000 in
set_option maxHeartbeats 1000000 in
theorem seqStretch {cb b n : Nat} {T : List Int} {w : World} (hn : n ≤ 100000) (hT : T.length ≤ 100000) (hT2 : ∀ x ∈ T, 0 ≤ x ∧ x ≤ 1114112) (hc : w.heap[cb]? = some (.cells #[.map (some b)] 90 (0, 0))) (hS : SetOf w b n T) :
    SeqOfX Tryd.prog 5 68 #[.pointer (some ⟨cb, 0, none⟩)] encP (fun _ => False) (fun _ => False) (strL (placesL T)) w := by
  intro W lp J Jx hm hJ hJx hY h0
  have h1 : 1 ≤ 5 := by omega
  have c0 : W.cell? ⟨cb, 0, none⟩ = some (.map (some b)) := by rw [cell_of_row _ _ 0 _ _ _ (row_keep hc hm id)]; rfl
  have S0 : SetOf W b n T := hS.row (hm.block _ hS.lt id)
  have hso := sorted_any S0 hn
  obtain ⟨ps, hps⟩ : ∃ ps, placesL T = ps := ⟨_, rfl⟩
  have hpl : ps.length ≤ 100000 := by rw [← hps]; have := places_length T; omega
  have hpr : ∀ x ∈ ps, 0 ≤ x ∧ x ≤ 1114112 := fun x hx => hT2 x ((places_mem T x).1 (by rw [hps]; exact hx))
  have hkeys := keys_any (some b) W
  rw [hps] at hso hY ⊢
  refine callsIn_of_wp Tryd.func68 rfl trivial ?_ rfl
  simp only [Tryd.ntmps68, List.size_toArray, List.length_cons, List.length_nil, Nat.reduceAdd, Nat.reduceSub, Array.replicate_succ, Array.replicate_zero, List.push_toArray, List.append_toArray, List.nil_append, List.cons_append]
  have HJ := Lib.hid hJ
  have HY := Lib.hid hY
  have HSO := Lib.hid hso
  have HKE := Lib.hid hkeys
  have HPR := Lib.hid hpr
  have HH0 := Lib.hid h0
  clear hJ hJx hY hm hc hS S0 hso hkeys hps hpr h0 hT2
  gi_wp2_with fail
  refine ⟨trivial, HKE.out.mono ?_⟩
  rintro e w1 ⟨rfl, rfl⟩
  gi_wp2_with fail
  refine ⟨trivial, HSO.out.mono ?_⟩
  rintro e w2 ⟨v, rfl, hrow, hb2⟩
  have BW : Below W.heap.size W w2 := ((Below.refl _ _).alloc (Nat.le_refl _) _).trans (hb2.mono (by omega))
  have hzz := hb2.size
  have hJ2 := HJ.out _ (fun k => W.heap.size ≤ k ∧ k < w2.heap.size) _ _ w2 HH0.out (Moves.of_below BW) (fun k h => ⟨.inr h.1, h.2⟩)
  have hform : ∃ o cap, v = .slice o ps.length cap := own_form hrow
  obtain ⟨o, cap, rfl⟩ := hform
  have hcell : 0 < ps.length → ∃ g, o = some ⟨g, 0, none⟩ ∧ W.heap.size + 1 ≤ g ∧ g < w2.heap.size ∧ ∀ (i : Nat) (x : Int), ps[i]? = some x → w2.cell? ⟨g, i, none⟩ = some (.int .i64 x) := fun h => by
    obtain ⟨g, cap', e, h1, h2, h3⟩ := own_ints hrow h
    exact ⟨g, by simpa using (Value.slice.inj e).1, h1, h2, h3⟩
  have hcap := own_cap hrow
  have HC := Lib.hid hcell
  have HJ2 := Lib.hid hJ2
  obtain ⟨n', hnn⟩ : ∃ n', ps.length = n' := ⟨_, rfl⟩
  rw [hnn] at hcap hpl ⊢
  have HN := Lib.hid hnn
  obtain ⟨X, hX⟩ : ∃ X : Nat → Prop, (fun k => W.heap.size ≤ k ∧ k < w2.heap.size) = X := ⟨_, rfl⟩
  rw [hX] at HJ2
  have HX : Hid (∀ k, W.heap.size + 1 ≤ k → k < w2.heap.size → X k) := Lib.hid fun k h1 h2 => by rw [← hX]; exact ⟨by omega, h2⟩
  have HXL : Hid (∀ k, X k → k < w2.heap.size) := Lib.hid fun k h1 => by rw [← hX] at h1; exact h1.2
  clear hJ2 hrow hb2 BW hcell hnn hX
  gi_wp2_with fail
  gi_loopg [4] n' (fun k u wr => ∃ (j : Nat), u = .int .i64 ((j : Nat) + 1) ∧ j ≤ n' ∧ k = n' - j ∧ J X ((strL ps).take j) wr ∧ w2.heap.size ≤ wr.heap.size ∧ Hid (∀ (g : Nat), X g → wr.heap[g]? = w2.heap[g]?))
  case atStart => exact ⟨0, rfl, Nat.zero_le _, rfl, by simpa using HJ2.out, Nat.le_refl _, Lib.hid fun g _ => rfl⟩
  case round =>
    obtain ⟨j, rfl, hj, rfl, hJ', hzw, hrw⟩ := hrel
    rcases Nat.lt_or_ge (j + 1) n' with hlt | hge
    · obtain ⟨g, rfl, hg1, hg2, hcg⟩ := HC.out (by rw [HN.out]; omega)
      obtain ⟨x, hx⟩ : ∃ x, ps[j]? = some x := ⟨_, List.getElem?_eq_getElem (by rw [HN.out]; omega)⟩
      obtain ⟨y, hy⟩ : ∃ y, ps[j + 1]? = some y := ⟨_, List.getElem?_eq_getElem (by rw [HN.out]; omega)⟩
      have hrg := hrw.out g (HX.out g hg1 hg2)
      have kx : wr.cell? ⟨g, j, none⟩ = some (.int .i64 x) := by have := hcg j x hx; unfold World.cell? at this ⊢; rw [hrg]; exact this
      have ky : wr.cell? ⟨g, j + 1, none⟩ = some (.int .i64 y) := by have := hcg (j + 1) y hy; unfold World.cell? at this ⊢; rw [hrg]; exact this
      have hst := strL_get hx hy
      have hyb := HPR.out y (List.mem_of_getElem? hy)
      have hJd : J X ((strL ps).take j) wr.drew := HJ.out _ _ _ _ wr.drew hJ' (Moves.refl _ _).drew (fun k h => ⟨.inl h, by have := HXL.out k h; show k < wr.heap.size; omega⟩)
      obtain ⟨fn, tmps, assign, body, hyl, hR⟩ := HY.out _ _ _ wr.drew (by rw [pre_snoc hst]; exact List.take_prefix _ _) hJd
      replace hyl : (Instr.yield lp #[.int .i64 x, .int .i64 (y - 1)]).run Tryd.prog wr.drew = .ok (.round lp fn tmps assign body) wr.drew := hyl
      have hw1 : IntKind.i64.wrap (y - 1) = y - 1 := wrap_id (by omega) (by omega)
      have hw2 : IntKind.i64.wrap (((j : Nat) : Int) + 1 - 1) = (j : Nat) := by rw [show ((j : Nat) : Int) + 1 - 1 = (j : Nat) from by omega]; exact wrap_id (by omega) (by omega)
      have hjn : j < n' := by omega
      have hwj : IntKind.i64.wrap ((j : Nat) : Int) = (j : Nat) := wrap_id (by omega) (by omega)
      have h0j : (0 : Int) ≤ ((j : Nat) : Int) + 1 := by omega
      have hnj : (((j : Nat) : Int) + 1).toNat = j + 1 := by omega
      have hjb : j < 1000000 := by omega
      have HRR := Lib.hid hR
      have HST := Lib.hid hst
      clear hcg hx hy hst hJd hR hrg
      gi_wp2_with fail
      refine wpIn_region_any (by kernel_rfl) ?_
      try (change wpAnyIn _ _ _ _ _ _ _ _ _ (World.drew _))
      refine wpAnyIn_take (i := 0) (v := ?_) rfl rfl (by kernel_rfl) (by kernel_rfl) (by kernel_rfl) (fun _ _ _ h => h) ⟨Or.inl ⟨by kernel_rfl, ?_⟩, by intro _; rfl⟩ ?_
      rotate_left 1
      · (intro w; first | (go_simp; done) | (go_simp; with_reducible rfl))
      refine wpAnyIn_take (i := 1) (v := ?_) rfl rfl (by kernel_rfl) (by kernel_rfl) (by kernel_rfl) (fun _ _ _ h => h) ⟨Or.inl ⟨by kernel_rfl, ?_⟩, by intro _; rfl⟩ ?_
      rotate_left 1
      · (intro w; first | (go_simp; done) | (go_simp; with_reducible rfl))
      refine wpAnyIn_take (i := 2) (v := ?_) rfl rfl (by kernel_rfl) (by kernel_rfl) (by kernel_rfl) (fun _ _ _ h => h) ⟨Or.inl ⟨by kernel_rfl, ?_⟩, by intro _; rfl⟩ ?_
      rotate_left 1
      · (intro w; first | (go_simp; done) | (go_simp; with_reducible rfl))
      refine wpAnyIn_take (i := 3) (v := ?_) rfl rfl (by kernel_rfl) (by kernel_rfl) (by kernel_rfl) (fun _ _ _ h => h) ⟨Or.inl ⟨by kernel_rfl, ?_⟩, by intro _; rfl⟩ ?_
      rotate_left 1
      · (intro w; first | (go_simp; done) | (go_simp; with_reducible rfl))
      refine wpAnyIn_take (i := 4) (v := ?_) rfl rfl (by kernel_rfl) (by kernel_rfl) (by kernel_rfl) (fun _ _ _ h => h) ⟨Or.inl ⟨by kernel_rfl, ?_⟩, by intro _; rfl⟩ ?_
      rotate_left 1
      · (intro w; first | (go_simp; done) | (go_simp; with_reducible rfl))
      refine wpAnyIn_take (i := 6) (v := ?_) rfl rfl (by kernel_rfl) (by kernel_rfl) (by kernel_rfl) (fun _ _ _ h => h) ⟨Or.inl ⟨by kernel_rfl, ?_⟩, by intro _; rfl⟩ ?_
      rotate_left 1
      · (intro w; first | (go_simp; done) | (go_simp; with_reducible rfl))
      refine wpAnyIn_take (i := 7) (v := ?_) rfl rfl (by kernel_rfl) (by kernel_rfl) (by kernel_rfl) (fun _ _ _ h => h) ⟨Or.inl ⟨by kernel_rfl, ?_⟩, by intro _; rfl⟩ ?_
      rotate_left 1
      · (intro w; first | (go_simp; done) | (go_simp; with_reducible rfl))
      refine wpAnyIn_take (i := 8) (v := ?_) rfl rfl (by kernel_rfl) (by kernel_rfl) (by kernel_rfl) (fun _ _ _ h => h) ⟨Or.inl ⟨by kernel_rfl, ?_⟩, by intro _; rfl⟩ ?_
      rotate_left 1
      · (intro w; first | (go_simp; done) | (go_simp; with_reducible rfl))
      refine wpAnyIn_ready (rs := [5, 9]) (by kernel_rfl) (by simp) ?_
      refine AllReadyIn.cons (o := { dst := some 19, op := .load 3 (.tmp 18), type := 3, pos := _, after := _, guard := none }) rfl ?_ ?_
      rotate_left 1
      refine AllReadyIn.cons (o := { dst := some 23, op := .load 3 (.tmp 22), type := 3, pos := _, after := _, guard := none }) rfl ?_ AllReadyIn.nil
      focus
        intro K hK
        rw [if_pos (by rfl)]
        gi_wp2_with fail
        refine wpAnyIn_take (i := 10) (v := ?_) rfl rfl (by kernel_rfl) (by kernel_rfl) (by kernel_rfl) (fun _ _ _ h => h) ⟨Or.inl ⟨by kernel_rfl, ?_⟩, by intro _; rfl⟩ ?_
        rotate_left 1
        · (intro w; first | (go_simp; done) | (go_simp; with_reducible rfl))
        refine wpAnyIn_ready (rs := [5]) (by kernel_rfl) (by simp) ?_
        refine AllReadyIn.cons (o := { dst := some 19, op := .load 3 (.tmp 18), type := 3, pos := _, after := _, guard := none }) rfl ?_ AllReadyIn.nil
        intro K hK
        rw [if_pos (by rfl)]
        gi_wp2_with fail
      rotate_left 1
      focus
        intro K hK
        rw [if_pos (by rfl)]
        gi_wp2_with fail
        refine wpAnyIn_ready (rs := [9]) (by kernel_rfl) (by simp) ?_
        refine AllReadyIn.cons (o := { dst := some 23, op := .load 3 (.tmp 22), type := 3, pos := _, after := _, guard := none }) rfl ?_ AllReadyIn.nil
        intro K hK
        rw [if_pos (by rfl)]
        gi_wp2_with fail
        refine wpAnyIn_take (i := 10) (v := ?_) rfl rfl (by kernel_rfl) (by kernel_rfl) (by kernel_rfl) (fun _ _ _ h => h) ⟨Or.inl ⟨by kernel_rfl, ?_⟩, by intro _; rfl⟩ ?_
        rotate_left 1
        · (intro w; first | (go_simp; done) | (go_simp; with_reducible rfl))
      all_goals
        refine wpAnyIn_ready (rs := [11]) (by kernel_rfl) (by simp) ?_
        refine AllReadyIn.cons (o := { dst := some 25, op := .call { callee := .value (.tmp 14), args := #[.tmp 19, .tmp 24], argTypes := #[3, 3] }, type := 4, pos := _, after := _, guard := none }) rfl ?_ AllReadyIn.nil
        intro K hK
        rw [if_pos (by rfl)]
        gi_wp2_with fail
        refine HRR.out.mono ?_
        rintro e w3 (⟨rfl, hJ4, hk4⟩ | ⟨rfl, hJx4, _⟩)
        focus
          gi_wp2_with fail
          refine wpAnyIn_take (i := 12) (v := ?_) rfl rfl (by kernel_rfl) (by kernel_rfl) (by kernel_rfl) (fun _ _ _ h => h) ⟨Or.inl ⟨by kernel_rfl, ?_⟩, by intro _; rfl⟩ ?_
          rotate_left 1
          · (intro w; first | (go_simp; done) | (go_simp; with_reducible rfl))
          refine wpAnyIn_done (by kernel_rfl) ?_ _
          go_simp
          gi_wp2
          gi_roundg (n' - (j + 1))
          case measure => omega
          case rel =>
            refine ⟨j + 1, by simp, by omega, rfl, by rw [← pre_snoc HST.out]; exact hJ4, ?_, Lib.hid fun g hg => ?_⟩
            · have := hk4.size; have e1 : wr.drew.heap.size = wr.heap.size := rfl; omega
            · exact (hk4.block g (by have := HXL.out g hg; show g < wr.heap.size; omega) (fun h => h.1 hg)).trans (hrw.out g hg)
        focus
          gi_wp2_with fail
          refine wpAnyIn_take (i := 12) (v := ?_) rfl rfl (by kernel_rfl) (by kernel_rfl) (by kernel_rfl) (fun _ _ _ h => h) ⟨Or.inl ⟨by kernel_rfl, ?_⟩, by intro _; rfl⟩ ?_
          rotate_left 1
          · (intro w; first | (go_simp; done) | (go_simp; with_reducible rfl))
          refine wpAnyIn_done (by kernel_rfl) ?_ _
          go_simp
          gi_wp2
          refine bodyPost_ret (results_none rfl _ _ _) rfl ?_
          exact ⟨⟨_, rfl⟩, X, .inr ⟨_, by rw [pre_snoc HST.out]; exact List.take_prefix _ _, hJx4⟩⟩
    · have hall : (strL ps).take j = strL ps := List.take_of_length_le (by rw [strL_length, HN.out]; omega)
      rw [hall] at hJ'
      have HJ3 := Lib.hid hJ'
      clear hJ' hall
      gi_wp2
      go_end0
      exact ⟨⟨_, rfl⟩, X, .inl HJ3.out⟩
end Go.Proofs.YtlmkefmfhdjmmaaDoor
