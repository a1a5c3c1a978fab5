/- right, checked, ascends, isMap, count: whether ranges are a map. -/
import Derived.Test.YtkhniogmogcjlaaDoorNFind
namespace Go.Proofs.YtkhniogmogcjlaaDoor
open Go.RowKit Go.Shelf
attribute [local go_sem] Oper.semAt_some

theorem right_any (x : Rng) (w : World) : Calls Tryd.prog 49 #[rngV x] w fun e w' => e = .returned (.bool (decide (okR x))) ∧ Below w.heap.size w w' := by
  obtain ⟨a, b, v⟩ := x
  obtain ⟨D, hD⟩ : ∃ D, decide (okR (a, b, v)) = D := ⟨_, rfl⟩
  rw [hD]
  have HD := Lib.hid hD
  clear hD
  have no : ¬ okR (a, b, v) → D = false := fun h => by rw [← HD.out, decide_eq_false h]
  have yes : okR (a, b, v) → D = true := fun h => by rw [← HD.out, decide_eq_true h]
  unfold okR at no yes
  simp only at no yes
  have NO := Lib.hid no
  have YES := Lib.hid yes
  clear no yes
  go_enter Tryd.func49, Tryd.ntmps49
  by_cases h0 : 0 ≤ a
  · by_cases h1 : a ≤ b
    · by_cases h2 : b ≤ 1114111
      · by_cases h3 : 0 ≤ v
        · by_cases h4 : v ≤ 31
          · have h := YES.out ⟨h0, h1, h2, h3, h4⟩
            rw [h]
            go_wp2
            go_ret
            exact ⟨rfl, (Below.refl _ _).alloc (Nat.le_refl _) _⟩
          · have h := NO.out (by omega)
            rw [h]
            go_wp2
            go_ret
            exact ⟨rfl, (Below.refl _ _).alloc (Nat.le_refl _) _⟩
        · have h := NO.out (by omega)
          rw [h]
          go_wp2
          go_ret
          exact ⟨rfl, (Below.refl _ _).alloc (Nat.le_refl _) _⟩
      · have h := NO.out (by omega)
        rw [h]
        go_wp2
        go_ret
        exact ⟨rfl, (Below.refl _ _).alloc (Nat.le_refl _) _⟩
    · have h := NO.out (by omega)
      rw [h]
      go_wp2
      go_ret
      exact ⟨rfl, (Below.refl _ _).alloc (Nat.le_refl _) _⟩
  · have h := NO.out (by omega)
    rw [h]
    go_wp2
    go_ret
    exact ⟨rfl, (Below.refl _ _).alloc (Nat.le_refl _) _⟩

/-- What stays, through the rounds. -/
structure Kept (w : World) (k : Nat) (X : Nat → Prop) (W : World) : Prop where
  far : ∀ j, X j → w.heap.size + k ≤ j
  below : Below w.heap.size w W
  size : w.heap.size + k ≤ W.heap.size
theorem Kept.moves {w : World} {n : Nat} {X X' : Nat → Prop} {A B : World} (h : Kept w n X A) (hm : Moves X A B) (hX : ∀ k, X' k → (X k ∨ A.heap.size ≤ k) ∧ k < B.heap.size) : Kept w n X' B := by
  have hf := h.far
  have hz := h.size
  refine ⟨?_, Moves.below h.below h.below.size hm (fun k hk => by have := hf k hk; omega), by have := hm.size; omega⟩
  intro k hk
  rcases (hX k hk).1 with h1 | h1
  · exact hf k h1
  · omega
theorem Kept.row {w : World} {n : Nat} {X : Nat → Prop} {A B : World} (h : Kept w n X A) (hm : Moves X A B) {j : Nat} (hj : j < w.heap.size + n) {o : Obj} (hr : A.heap[j]? = some o) : B.heap[j]? = some o :=
  row_keep hr hm fun hx => by have := h.far j hx; omega
/-- What a round turns: blocks of the call's own, no iterator's and none that it leans on. -/
theorem Kept.turn {w : World} {n : Nat} {X S : Nat → Prop} {A B : World} (h : Kept w n X A) (hm : Moves S A B) (hS : ∀ k, S k → w.heap.size ≤ k) : Kept w n X B :=
  ⟨h.far, Moves.below h.below h.below.size hm hS, by have := hm.size; have := h.size; omega⟩
theorem Kept.free {w : World} {n cb : Nat} {X : Nat → Prop} {A : World} {o : Option Addr} {l : List Rng} (h : Kept w n X A) (hcb : w.heap.size + n ≤ cb) (hlt : ∀ k, 0 < l.length → inB o k → k < w.heap.size) : ∀ k, k < w.heap.size + n → w.heap.size ≤ k → ¬ X k ∧ ¬ DepR cb o l k :=
  fun k hk hk2 => ⟨fun hx => by have := h.far k hx; omega, fun hx => by rcases hx with hx | ⟨h0, hx⟩; { omega }; { have := hlt k h0 hx; omega }⟩

abbrev faultV (n at' : Int) : Value := .iface 63 (.agg #[.int .i64 n, .int .i64 at'])
def errC (c : Option Nat) : Value := match c with
  | none => .nilIface
  | some i => faultV 22 (i : Nat)
def badAt (l : List Rng) : Option Nat := l.findIdx? fun x => !decide (okR x)
def chkL (l : List Rng) : Option Nat := match badAt l with
  | some i => some i
  | none => if 600 < l.length then some 600 else none
theorem badAt_some {l : List Rng} {j : Nat} {x : Rng} (hx : l[j]? = some x) (hp : ∀ y ∈ l.take j, okR y) (hb : ¬ okR x) : badAt l = some j := by
  obtain ⟨hlt, hxe⟩ := List.getElem?_eq_some_iff.1 hx
  unfold badAt
  rw [List.findIdx?_eq_some_iff_getElem]
  refine ⟨hlt, by rw [hxe]; simpa using hb, fun i hi => ?_⟩
  have : l[i] ∈ l.take j := List.mem_take_iff_getElem.2 ⟨i, by omega, rfl⟩
  simpa using hp _ this
theorem badAt_none {l : List Rng} (h : ∀ y ∈ l, okR y) : badAt l = none := by
  unfold badAt
  rw [List.findIdx?_eq_none_iff]
  intro x hx
  simpa using h x hx
theorem chk_ok {l : List Rng} : chkL l = none ↔ (∀ y ∈ l, okR y) ∧ l.length ≤ 600 := by
  unfold chkL
  constructor
  · intro h
    cases hb : badAt l with
    | some i => rw [hb] at h; cases h
    | none =>
      rw [hb] at h
      simp only at h
      unfold badAt at hb
      rw [List.findIdx?_eq_none_iff] at hb
      split at h
      · cases h
      · exact ⟨fun y hy => by simpa using hb y hy, by omega⟩
  · rintro ⟨h1, h2⟩
    rw [badAt_none h1]
    simp only
    rw [if_neg (by omega)]
theorem all_snoc {l : List Rng} {j : Nat} {x : Rng} {p : Rng → Prop} (hx : l[j]? = some x) (h : ∀ y ∈ l.take j, p y) (hp : p x) : ∀ y ∈ l.take (j + 1), p y := by
  rw [List.take_add_one, hx]
  intro y hy
  rcases List.mem_append.1 hy with h1 | h1
  · exact h y h1
  · rw [show y = x from by simpa using h1]; exact hp

/-- What holds between two rounds of checked. -/
structure ChkInv (w : World) (o : Option Addr) (n cap : Nat) (X : Nat → Prop) (W : World) (s : Option Nat) : Prop where
  kept : Kept w 2 X W
  ch : W.heap[w.heap.size]? = some (chartO o n cap)
  eb : Boxed W (w.heap.size + 1) 48 (errC s)
theorem ChkInv.moves {w : World} {o : Option Addr} {n cap : Nat} {X X' : Nat → Prop} {A B : World} {s : Option Nat} (h : ChkInv w o n cap X A s) (hm : Moves X A B) (hX : ∀ k, X' k → (X k ∨ A.heap.size ≤ k) ∧ k < B.heap.size) : ChkInv w o n cap X' B s :=
  ⟨h.kept.moves hm hX, h.kept.row hm (by omega) h.ch, h.kept.row hm (by omega) h.eb⟩
set_option maxRecDepth 100000 in
set_option maxHeartbeats 2000000 in
theorem checked_any (o : Option Addr) (l : List Rng) (cap : Nat) (hn : l.length ≤ 1000000) (w : World) (hA : AtR w o l) :
    Calls Tryd.prog 39 #[chartV o l.length cap] w fun e w' => e = .returned (errC (chkL l)) ∧ Below w.heap.size w w' := by
  refine (callsIn_wide (n := 6)).1 ?_
  have h1 : 1 ≤ 6 := by omega
  refine callsIn_of_wp_marks Tryd.func39 rfl trivial ?_ rfl
  simp only [Tryd.ntmps39, List.size_toArray, List.length_cons, List.length_nil, Nat.reduceAdd, Nat.reduceSub, Array.replicate_succ, Array.replicate_zero, List.push_toArray, List.append_toArray, List.nil_append, List.cons_append]
  obtain ⟨P, hP⟩ : ∃ P, (fun (e : Ending) w' => e = .returned (errC (chkL l)) ∧ Below w.heap.size w w') = P := ⟨_, rfl⟩
  have HP := Lib.hid hP
  rw [hP]
  clear hP
  obtain ⟨n, hnn⟩ : ∃ n, l.length = n := ⟨_, rfl⟩
  have HN := Lib.hid hnn
  rw [hnn] at hn ⊢
  have HA := Lib.hid hA
  clear hA hnn
  gi_wp2_with fail
  refine wpIn_wide.2 (wp_scope_straight ((wpIn_wide (n := 6)).1 ?_))
  gi_wp2_with fail
  refine wpIn_label ?_
  gi_wp2_with fail
  refine ⟨trivial, (callsIn_wide.2 (ranges_any o n cap _)).mono ?_⟩
  rintro e w2 ⟨rfl, hw2⟩
  simp only [World.size_alloc] at hw2 ⊢
  have BW : Below w.heap.size w w2 := by rw [← hw2]; exact (((Below.refl _ _).alloc (Nat.le_refl _) _).alloc (by simp) _).alloc (by simp; omega) _
  have z2 : w2.heap.size = w.heap.size + 3 := by rw [← hw2]; simp
  have C2 : w2.heap[w.heap.size]? = some (chartO o n cap) := by
    rw [← hw2, Below.heap_alloc _ _ _ (by simp; omega), Below.heap_alloc _ _ _ (by simp)]
    exact heap_alloc_new _ _
  have E2 : Boxed w2 (w.heap.size + 1) 48 .nilIface := by
    rw [← hw2]
    have := Boxed.new (w.alloc (chartO o n cap)) 48 .nilIface
    rw [World.size_alloc] at this
    exact this.alloc _
  have hb : w2.heap[w.heap.size + 1 + 1]? = some (chartO o n cap) := by
    rw [← hw2]
    have := heap_alloc_new ((w.alloc (chartO o n cap)).alloc (.cells #[.nilIface] 48)) (chartO o n cap)
    simpa using this
  have A2 := HA.out.below BW
  have hlt : ∀ k, 0 < l.length → inB o k → k < w.heap.size := fun k h0 hk => HA.out.lt h0 hk
  clear hw2
  gi_wp2_with fail
  refine wpIn_seqX (n := 6) (Ow := fun _ => False) (Dep := DepR (w.heap.size + 1 + 1) o l) (encs := encR) (all := l.zipIdx) (by omega) rfl (enters_of Tryd.func48 (by kernel_rfl) rfl) (fun x => rfl) (seqRanges (by rw [HN.out]; exact hn) (by rw [HN.out]; exact hb) A2)
    (fun k h => h.elim) (fun k h => by rcases h with h | ⟨h0, h⟩; { omega }; { have := hlt k h0 h; omega })
    (fun X pre W => ChkInv w o n cap X W none ∧ ∀ y ∈ l.take pre.length, okR y) (fun c X pre W => c = .exit 0 ∧ ∃ i, ChkInv w o n cap X W (some i) ∧ badAt l = some i) ?hI ?hIx ?h0
    (fun b x => { tmps := #[chartV o n cap, .pointer (some ⟨w.heap.size, 0, none⟩), .nilIface, .pointer (some ⟨w.heap.size + 1, 0, none⟩), .int .i64 (x.2 : Nat), .pointer (some ⟨b, 0, none⟩), chartV o n cap, .func (.func 48) #[] #[.pointer (some ⟨w.heap.size + 1 + 1, 0, none⟩)], .int .i64 (x.2 : Nat), rngV x.1, undef, undef, undef, undef, undef, undef, undef, undef, undef, undef, undef, undef, undef, undef, undef, undef, undef], defers := [] })
    (fun A x B => A.alloc (rngO x.1) = B) (fun A x B h => by rw [← h]; exact Moves.of_below ((Below.refl _ _).alloc (Nat.le_refl _) _)) ?assign ?body ?done ?stop
  case hI =>
    rintro X X' xs A B ⟨h, hf⟩ hm hX
    exact ⟨h.moves hm hX, hf⟩
  case hIx =>
    rintro c X X' xs A B ⟨rfl, v, h, hf⟩ hm hX
    exact ⟨rfl, v, h.moves hm hX, hf⟩
  case h0 => exact ⟨⟨⟨fun k h => h.elim, BW, by omega⟩, C2, E2⟩, fun y hy => by simp at hy⟩
  case assign =>
    rintro l x A K hK
    gi_wp2
    rfl
  case body =>
    rintro lp X pre ⟨x, j⟩ A A' W1 hA1 hpx hAB hm hXn hXn1 hXlt ⟨hI, hf⟩
    obtain ⟨hj, hx, -⟩ := zip_pre hpx
    subst hj
    have hxb : W1.heap[A.heap.size]? = some (rngO x) := by
      have := heap_alloc_new A (rngO x)
      rw [hAB] at this
      exact row_keep this hm (by omega)
    obtain ⟨q0, q1, q2, _⟩ := rng_cells hxb
    have nB := hI.kept.free (o := o) (l := l) (cb := w.heap.size + 1 + 1) (by omega) hlt
    have ce := hI.eb.cell
    have fe := hI.eb.frozen
    have hz := hI.kept.size
    have hXb : ∀ k, X k → k < W1.heap.size := fun k h => by have h1 := hXlt k h; have h2 := hm.size; rw [← hAB] at h2; simp at h2; omega
    have HI := Lib.hid hI
    have HX := Lib.hid hx
    have HF := Lib.hid hf
    have HNB := Lib.hid nB
    have HXB := Lib.hid hXb
    obtain ⟨a, b, v⟩ := x
    have HRI := Lib.hid (right_any (a, b, v) W1)
    simp only at q0 q1 q2
    clear hI hx hf nB hpx hm hXlt hXn hXn1 hxb hAB hA1 hXb
    gi_wp2_with fail
    refine ⟨trivial, CallsIn.inRound lp ((callsIn_wide.2 HRI.out).mono ?_)⟩
    rintro e W2 ⟨rfl, b2⟩
    have hI2 := HI.out.moves (Moves.of_below b2) (fun k h => ⟨.inl h, by have := HXB.out k h; have := b2.size; omega⟩)
    have HI2 := Lib.hid hI2
    have HB2 := Lib.hid b2
    have ce2 := hI2.eb.cell
    have fe2 := hI2.eb.frozen
    clear hI2 b2 q0 q1 q2 ce fe HRI
    by_cases hok : okR (a, b, v)
    · have HR : Hid (seqEndX (DepR (w.heap.size + 1 + 1) o l) X (fun X pre W => ChkInv w o n cap X W none ∧ ∀ y ∈ l.take pre.length, okR y) (fun c X pre W => c = .exit 0 ∧ ∃ i, ChkInv w o n cap X W (some i) ∧ badAt l = some i) (pre ++ [((a, b, v), pre.length)]) W1 .normal ({ tmps := #[], defers := [] } : Act) W2) :=
        Lib.hid ⟨Moves.of_below HB2.out, HI2.out, by rw [List.length_append]; exact all_snoc HX.out HF.out hok⟩
      rw [decide_eq_true hok]
      clear hok
      gi_wp2
      exact HR.out
    · have hans := badAt_some HX.out HF.out hok
      have hm4 : Moves (fun k => k = w.heap.size + 1) W2 (W2.setCell ⟨w.heap.size + 1, 0, none⟩ (faultV 22 (pre.length : Nat))) := Moves.setCell rfl
      have HR : Hid (seqEndX (DepR (w.heap.size + 1 + 1) o l) X (fun X pre W => ChkInv w o n cap X W none ∧ ∀ y ∈ l.take pre.length, okR y) (fun c X pre W => c = .exit 0 ∧ ∃ i, ChkInv w o n cap X W (some i) ∧ badAt l = some i) (pre ++ [((a, b, v), pre.length)]) W1 (.exit 0) ({ tmps := #[], defers := [] } : Act) (W2.setCell ⟨w.heap.size + 1, 0, none⟩ (faultV 22 (pre.length : Nat)))) :=
        Lib.hid ⟨(Moves.of_below HB2.out).trans (hm4.mono fun k h => HNB.out k (by omega) (by omega)), rfl, pre.length, ⟨HI2.out.kept.turn hm4 (fun k h => by omega), row_keep HI2.out.ch hm4 (by omega), HI2.out.eb.set _⟩, hans⟩
      rw [decide_eq_false hok]
      clear hok hm4 hans
      gi_wp2
      exact HR.out
  case done =>
    rintro X D W hD hXD ⟨hI, hf⟩ hX hK
    rw [List.length_zipIdx, List.take_length] at hf
    have hcl : W.cell? ⟨w.heap.size, 0, none⟩ = some (.slice o n cap) := by rw [cell_of_row _ _ 0 _ _ _ hI.ch]; rfl
    have hce : W.cell? ⟨w.heap.size + 1, 0, none⟩ = some .nilIface := hI.eb.cell
    have hfe := hI.eb.frozen
    rcases Nat.lt_or_ge 600 n with h6 | h6
    · have hm1 : Moves (fun k => k = w.heap.size + 1) W (W.setCell ⟨w.heap.size + 1, 0, none⟩ (faultV 22 600)) := Moves.setCell rfl
      have hce2 : (W.setCell ⟨w.heap.size + 1, 0, none⟩ (faultV 22 600)).cell? ⟨w.heap.size + 1, 0, none⟩ = some (faultV 22 600) := (hI.eb.set _).cell
      have hK2 : (W.setCell ⟨w.heap.size + 1, 0, none⟩ (faultV 22 600)).heap[D]? = some (.deferred (some [])) := row_keep hK hm1 (by
        rintro rfl
        have := hI.eb
        unfold Boxed at this
        rw [hK] at this
        cases this)
      have hpost : P (.returned (faultV 22 600)) ((W.setCell ⟨w.heap.size + 1, 0, none⟩ (faultV 22 600)).putObj D (.deferred none)) := by
        rw [← HP.out]
        refine ⟨?_, Moves.below hI.kept.below hI.kept.below.size (hm1.mono (T := fun k => w.heap.size ≤ k) (fun k h => by omega) |>.trans (Moves.putObj (show w.heap.size ≤ D by omega))) (fun k h => h)⟩
        unfold chkL
        rw [badAt_none hf, HN.out]
        simp only
        rw [if_pos h6]
        rfl
      have HPP := Lib.hid hpost
      clear hpost hI hm1 hf
      gi_wp2
      rw [Exit.noGoto_ret]
      refine ⟨by simp, .inl ⟨_, _, rfl, run_takeDeferred hK2, ?_⟩⟩
      exact ⟨_, results_tmp (t := 2) rfl _ _ _, HPP.out⟩
    · have hm : Moves (fun k => k = D) W (W.putObj D (.deferred none)) := Moves.putObj rfl
      have hpost : P (.returned .nilIface) (W.putObj D (.deferred none)) := by
        rw [← HP.out]
        refine ⟨?_, Moves.below hI.kept.below hI.kept.below.size hm (fun k h => by omega)⟩
        rw [chk_ok.2 ⟨hf, by rw [HN.out]; exact h6⟩]
        rfl
      have HPP := Lib.hid hpost
      have hK2 := hK
      clear hpost hI hm hf
      gi_wp2
      rw [Exit.noGoto_ret]
      refine ⟨by simp, .inl ⟨_, _, rfl, run_takeDeferred hK2, ?_⟩⟩
      exact ⟨_, results_tmp (t := 2) rfl _ _ _, HPP.out⟩
  case stop =>
    rintro X D c pre W hD hXD hpre ⟨rfl, i, hI, hf⟩ hX hK
    have hm : Moves (fun k => k = D) W (W.putObj D (.deferred none)) := Moves.putObj rfl
    have hce : W.cell? ⟨w.heap.size + 1, 0, none⟩ = some (faultV 22 (i : Nat)) := hI.eb.cell
    have hpost : P (.returned (faultV 22 (i : Nat))) (W.putObj D (.deferred none)) := by
      rw [← HP.out]
      refine ⟨?_, Moves.below hI.kept.below hI.kept.below.size hm (fun k h => by omega)⟩
      unfold chkL
      rw [hf]
      rfl
    have HPP := Lib.hid hpost
    have hK2 := hK
    clear hpost hI hm
    gi_wp2
    rw [Exit.noGoto_ret]
    refine ⟨by simp, .inl ⟨_, _, rfl, run_takeDeferred hK2, ?_⟩⟩
    exact ⟨_, results_tmp (t := 2) rfl _ _ _, HPP.out⟩
end Go.Proofs.YtkhniogmogcjlaaDoor
