/- right, checked, ascends, isMap, count: whether ranges are a map. A quiet region that draws, inside a round. ascends, isMap, count: whether ranges are a map, and how many numbers it has. reach: the place of the first range that ends at a number or behind it; says: what a map says. -/
import Derived.Test.YtlmkefmfhdjmmaaDoorBunN3
import Derived.Sort.QuietIn
import Derived.OwnWalkIn
import Derived.RangeFuncCalls
import Derived.Sort.AtCall
namespace Go.Proofs.YtlmkefmfhdjmmaaDoor
open Go.RowKit Go.Shelf
attribute [local go_sem] Oper.semAt_some

theorem right_any (x : Rng) (w : World) : Calls Tryd.prog 86 #[rngV x] w fun e w' => e = .returned (.bool (decide (okR x))) ∧ Below w.heap.size w w' := by
  obtain ⟨a, b, v⟩ := x
  obtain ⟨D, hD⟩ : ∃ D, decide (okR (a, b, v)) = D := ⟨_, rfl⟩
  rw [hD]
  have HD := Lib.hid hD
  clear hD
  have no : ¬ okR (a, b, v) → D = false := fun h => by rw [← HD.out, decide_eq_false h]
  have yes : okR (a, b, v) → D = true := fun h => by rw [← HD.out, decide_eq_true h]
  unfold okR at no yes
  simp only at no yes
  have NO := Lib.hid no
  have YES := Lib.hid yes
  clear no yes
  go_enter Tryd.func86, Tryd.ntmps86
  by_cases h0 : 0 ≤ a
  · by_cases h1 : a ≤ b
    · by_cases h2 : b ≤ 1114111
      · by_cases h3 : 0 ≤ v
        · by_cases h4 : v ≤ 31
          · have h := YES.out ⟨h0, h1, h2, h3, h4⟩
            rw [h]
            go_wp2
            go_ret
            exact ⟨rfl, (Below.refl _ _).alloc (Nat.le_refl _) _⟩
          · have h := NO.out (by omega)
            rw [h]
            go_wp2
            go_ret
            exact ⟨rfl, (Below.refl _ _).alloc (Nat.le_refl _) _⟩
        · have h := NO.out (by omega)
          rw [h]
          go_wp2
          go_ret
          exact ⟨rfl, (Below.refl _ _).alloc (Nat.le_refl _) _⟩
      · have h := NO.out (by omega)
        rw [h]
        go_wp2
        go_ret
        exact ⟨rfl, (Below.refl _ _).alloc (Nat.le_refl _) _⟩
    · have h := NO.out (by omega)
      rw [h]
      go_wp2
      go_ret
      exact ⟨rfl, (Below.refl _ _).alloc (Nat.le_refl _) _⟩
  · have h := NO.out (by omega)
    rw [h]
    go_wp2
    go_ret
    exact ⟨rfl, (Below.refl _ _).alloc (Nat.le_refl _) _⟩

/-- What stays, through the rounds. -/
structure Kept (w : World) (k : Nat) (X : Nat → Prop) (W : World) : Prop where
  far : ∀ j, X j → w.heap.size + k ≤ j
  below : Below w.heap.size w W
  size : w.heap.size + k ≤ W.heap.size
theorem Kept.moves {w : World} {n : Nat} {X X' : Nat → Prop} {A B : World} (h : Kept w n X A) (hm : Moves X A B) (hX : ∀ k, X' k → (X k ∨ A.heap.size ≤ k) ∧ k < B.heap.size) : Kept w n X' B := by
  have hf := h.far
  have hz := h.size
  refine ⟨?_, Moves.below h.below h.below.size hm (fun k hk => by have := hf k hk; omega), by have := hm.size; omega⟩
  intro k hk
  rcases (hX k hk).1 with h1 | h1
  · exact hf k h1
  · omega
theorem Kept.row {w : World} {n : Nat} {X : Nat → Prop} {A B : World} (h : Kept w n X A) (hm : Moves X A B) {j : Nat} (hj : j < w.heap.size + n) {o : Obj} (hr : A.heap[j]? = some o) : B.heap[j]? = some o :=
  row_keep hr hm fun hx => by have := h.far j hx; omega
/-- What a round turns: blocks of the call's ownN, no iterator's and none that it leans on. -/
theorem Kept.turn {w : World} {n : Nat} {X S : Nat → Prop} {A B : World} (h : Kept w n X A) (hm : Moves S A B) (hS : ∀ k, S k → w.heap.size ≤ k) : Kept w n X B :=
  ⟨h.far, Moves.below h.below h.below.size hm hS, by have := hm.size; have := h.size; omega⟩
theorem Kept.free {w : World} {n cb : Nat} {X : Nat → Prop} {A : World} {o : Option Addr} {l : List Rng} (h : Kept w n X A) (hcb : w.heap.size + n ≤ cb) (hlt : ∀ k, 0 < l.length → inB o k → k < w.heap.size) : ∀ k, k < w.heap.size + n → w.heap.size ≤ k → ¬ X k ∧ ¬ DepR cb o l k :=
  fun k hk hk2 => ⟨fun hx => by have := h.far k hx; omega, fun hx => by rcases hx with hx | ⟨h0, hx⟩; { omega }; { have := hlt k h0 hx; omega }⟩

abbrev faultV (n at' : Int) : Value := .iface 93 (.agg #[.int .i64 n, .int .i64 at'])
def errC (c : Option Nat) : Value := match c with
  | none => .nilIface
  | some i => faultV 22 (i : Nat)
def badAt (l : List Rng) : Option Nat := l.findIdx? fun x => !decide (okR x)
def chkL (l : List Rng) : Option Nat := match badAt l with
  | some i => some i
  | none => if 600 < l.length then some 600 else none
theorem badAt_some {l : List Rng} {j : Nat} {x : Rng} (hx : l[j]? = some x) (hp : ∀ y ∈ l.take j, okR y) (hb : ¬ okR x) : badAt l = some j := by
  obtain ⟨hlt, hxe⟩ := List.getElem?_eq_some_iff.1 hx
  unfold badAt
  rw [List.findIdx?_eq_some_iff_getElem]
  refine ⟨hlt, by rw [hxe]; simpa using hb, fun i hi => ?_⟩
  have : l[i] ∈ l.take j := List.mem_take_iff_getElem.2 ⟨i, by omega, rfl⟩
  simpa using hp _ this
theorem badAt_none {l : List Rng} (h : ∀ y ∈ l, okR y) : badAt l = none := by
  unfold badAt
  rw [List.findIdx?_eq_none_iff]
  intro x hx
  simpa using h x hx
theorem chk_ok {l : List Rng} : chkL l = none ↔ (∀ y ∈ l, okR y) ∧ l.length ≤ 600 := by
  unfold chkL
  constructor
  · intro h
    cases hb : badAt l with
    | some i => rw [hb] at h; cases h
    | none =>
      rw [hb] at h
      simp only at h
      unfold badAt at hb
      rw [List.findIdx?_eq_none_iff] at hb
      split at h
      · cases h
      · exact ⟨fun y hy => by simpa using hb y hy, by omega⟩
  · rintro ⟨h1, h2⟩
    rw [badAt_none h1]
    simp only
    rw [if_neg (by omega)]
theorem all_snoc {l : List Rng} {j : Nat} {x : Rng} {p : Rng → Prop} (hx : l[j]? = some x) (h : ∀ y ∈ l.take j, p y) (hp : p x) : ∀ y ∈ l.take (j + 1), p y := by
  rw [List.take_add_one, hx]
  intro y hy
  rcases List.mem_append.1 hy with h1 | h1
  · exact h y h1
  · rw [show y = x from by simpa using h1]; exact hp

/-- What holds between two rounds of checked. -/
structure ChkInv (w : World) (o : Option Addr) (n cap : Nat) (X : Nat → Prop) (W : World) (s : Option Nat) : Prop where
  kept : Kept w 2 X W
  ch : W.heap[w.heap.size]? = some (chartO o n cap)
  eb : Boxed W (w.heap.size + 1) 51 (errC s)
theorem ChkInv.moves {w : World} {o : Option Addr} {n cap : Nat} {X X' : Nat → Prop} {A B : World} {s : Option Nat} (h : ChkInv w o n cap X A s) (hm : Moves X A B) (hX : ∀ k, X' k → (X k ∨ A.heap.size ≤ k) ∧ k < B.heap.size) : ChkInv w o n cap X' B s :=
  ⟨h.kept.moves hm hX, h.kept.row hm (by omega) h.ch, h.kept.row hm (by omega) h.eb⟩
set_option maxRecDepth 100000 in
set_option maxHeartbeats 2000000 in
theorem checked_any (o : Option Addr) (l : List Rng) (cap : Nat) (hn : l.length ≤ 1000000) (w : World) (hA : AtR w o l) :
    Calls Tryd.prog 76 #[chartV o l.length cap] w fun e w' => e = .returned (errC (chkL l)) ∧ Below w.heap.size w w' := by
  refine (callsIn_wide (n := 6)).1 ?_
  have h1 : 1 ≤ 6 := by omega
  refine callsIn_of_wp_marks Tryd.func76 rfl trivial ?_ rfl
  simp only [Tryd.ntmps76, List.size_toArray, List.length_cons, List.length_nil, Nat.reduceAdd, Nat.reduceSub, Array.replicate_succ, Array.replicate_zero, List.push_toArray, List.append_toArray, List.nil_append, List.cons_append]
  obtain ⟨P, hP⟩ : ∃ P, (fun (e : Ending) w' => e = .returned (errC (chkL l)) ∧ Below w.heap.size w w') = P := ⟨_, rfl⟩
  have HP := Lib.hid hP
  rw [hP]
  clear hP
  obtain ⟨n, hnn⟩ : ∃ n, l.length = n := ⟨_, rfl⟩
  have HN := Lib.hid hnn
  rw [hnn] at hn ⊢
  have HA := Lib.hid hA
  clear hA hnn
  gi_wp2_with fail
  refine wpIn_wide.2 (wp_scope_straight ((wpIn_wide (n := 6)).1 ?_))
  gi_wp2_with fail
  refine wpIn_label ?_
  gi_wp2_with fail
  refine ⟨trivial, (callsIn_wide.2 (ranges_any o n cap _)).mono ?_⟩
  rintro e w2 ⟨rfl, hw2⟩
  simp only [World.size_alloc] at hw2 ⊢
  have BW : Below w.heap.size w w2 := by rw [← hw2]; exact (((Below.refl _ _).alloc (Nat.le_refl _) _).alloc (by simp) _).alloc (by simp; omega) _
  have z2 : w2.heap.size = w.heap.size + 3 := by rw [← hw2]; simp
  have C2 : w2.heap[w.heap.size]? = some (chartO o n cap) := by
    rw [← hw2, Below.heap_alloc _ _ _ (by simp; omega), Below.heap_alloc _ _ _ (by simp)]
    exact heap_alloc_new _ _
  have E2 : Boxed w2 (w.heap.size + 1) 51 .nilIface := by
    rw [← hw2]
    have := Boxed.new (w.alloc (chartO o n cap)) 51 .nilIface
    rw [World.size_alloc] at this
    exact this.alloc _
  have hb : w2.heap[w.heap.size + 1 + 1]? = some (chartO o n cap) := by
    rw [← hw2]
    have := heap_alloc_new ((w.alloc (chartO o n cap)).alloc (.cells #[.nilIface] 51)) (chartO o n cap)
    simpa using this
  have A2 := HA.out.below BW
  have hlt : ∀ k, 0 < l.length → inB o k → k < w.heap.size := fun k h0 hk => HA.out.lt h0 hk
  clear hw2
  gi_wp2_with fail
  refine wpIn_seqX (n := 6) (Ow := fun _ => False) (Dep := DepR (w.heap.size + 1 + 1) o l) (encs := encR) (all := l.zipIdx) (by omega) rfl (enters_of Tryd.func75 (by kernel_rfl) rfl) (fun x => rfl) (seqRanges (by rw [HN.out]; exact hn) (by rw [HN.out]; exact hb) A2)
    (fun k h => h.elim) (fun k h => by rcases h with h | ⟨h0, h⟩; { omega }; { have := hlt k h0 h; omega })
    (fun X pre W => ChkInv w o n cap X W none ∧ ∀ y ∈ l.take pre.length, okR y) (fun c X pre W => c = .exit 0 ∧ ∃ i, ChkInv w o n cap X W (some i) ∧ badAt l = some i) ?hI ?hIx ?h0
    (fun b x => { tmps := #[chartV o n cap, .pointer (some ⟨w.heap.size, 0, none⟩), .nilIface, .pointer (some ⟨w.heap.size + 1, 0, none⟩), .int .i64 (x.2 : Nat), .pointer (some ⟨b, 0, none⟩), chartV o n cap, .func (.func 75) #[] #[.pointer (some ⟨w.heap.size + 1 + 1, 0, none⟩)], .int .i64 (x.2 : Nat), rngV x.1, undef, undef, undef, undef, undef, undef, undef, undef, undef, undef, undef, undef, undef, undef, undef, undef, undef], defers := [] })
    (fun A x B => A.alloc (rngO x.1) = B) (fun A x B h => by rw [← h]; exact Moves.of_below ((Below.refl _ _).alloc (Nat.le_refl _) _)) ?assign ?body ?done ?stop
  case hI =>
    rintro X X' xs A B ⟨h, hf⟩ hm hX
    exact ⟨h.moves hm hX, hf⟩
  case hIx =>
    rintro c X X' xs A B ⟨rfl, v, h, hf⟩ hm hX
    exact ⟨rfl, v, h.moves hm hX, hf⟩
  case h0 => exact ⟨⟨⟨fun k h => h.elim, BW, by omega⟩, C2, E2⟩, fun y hy => by simp at hy⟩
  case assign =>
    rintro l x A K hK
    gi_wp2
    rfl
  case body =>
    rintro lp X pre ⟨x, j⟩ A A' W1 hA1 hpx hAB hm hXn hXn1 hXlt ⟨hI, hf⟩
    obtain ⟨hj, hx, -⟩ := zip_pre hpx
    subst hj
    have hxb : W1.heap[A.heap.size]? = some (rngO x) := by
      have := heap_alloc_new A (rngO x)
      rw [hAB] at this
      exact row_keep this hm (by omega)
    obtain ⟨q0, q1, q2, _⟩ := rng_cells hxb
    have nB := hI.kept.free (o := o) (l := l) (cb := w.heap.size + 1 + 1) (by omega) hlt
    have ce := hI.eb.cell
    have fe := hI.eb.frozen
    have hz := hI.kept.size
    have hXb : ∀ k, X k → k < W1.heap.size := fun k h => by have h1 := hXlt k h; have h2 := hm.size; rw [← hAB] at h2; simp at h2; omega
    have HI := Lib.hid hI
    have HX := Lib.hid hx
    have HF := Lib.hid hf
    have HNB := Lib.hid nB
    have HXB := Lib.hid hXb
    obtain ⟨a, b, v⟩ := x
    have HRI := Lib.hid (right_any (a, b, v) W1)
    simp only at q0 q1 q2
    clear hI hx hf nB hpx hm hXlt hXn hXn1 hxb hAB hA1 hXb
    gi_wp2_with fail
    refine ⟨trivial, CallsIn.inRound lp ((callsIn_wide.2 HRI.out).mono ?_)⟩
    rintro e W2 ⟨rfl, b2⟩
    have hI2 := HI.out.moves (Moves.of_below b2) (fun k h => ⟨.inl h, by have := HXB.out k h; have := b2.size; omega⟩)
    have HI2 := Lib.hid hI2
    have HB2 := Lib.hid b2
    have ce2 := hI2.eb.cell
    have fe2 := hI2.eb.frozen
    clear hI2 b2 q0 q1 q2 ce fe HRI
    by_cases hok : okR (a, b, v)
    · have HR : Hid (seqEndX (DepR (w.heap.size + 1 + 1) o l) X (fun X pre W => ChkInv w o n cap X W none ∧ ∀ y ∈ l.take pre.length, okR y) (fun c X pre W => c = .exit 0 ∧ ∃ i, ChkInv w o n cap X W (some i) ∧ badAt l = some i) (pre ++ [((a, b, v), pre.length)]) W1 .normal ({ tmps := #[], defers := [] } : Act) W2) :=
        Lib.hid ⟨Moves.of_below HB2.out, HI2.out, by rw [List.length_append]; exact all_snoc HX.out HF.out hok⟩
      rw [decide_eq_true hok]
      clear hok
      gi_wp2
      exact HR.out
    · have hans := badAt_some HX.out HF.out hok
      have hm4 : Moves (fun k => k = w.heap.size + 1) W2 (W2.setCell ⟨w.heap.size + 1, 0, none⟩ (faultV 22 (pre.length : Nat))) := Moves.setCell rfl
      have HR : Hid (seqEndX (DepR (w.heap.size + 1 + 1) o l) X (fun X pre W => ChkInv w o n cap X W none ∧ ∀ y ∈ l.take pre.length, okR y) (fun c X pre W => c = .exit 0 ∧ ∃ i, ChkInv w o n cap X W (some i) ∧ badAt l = some i) (pre ++ [((a, b, v), pre.length)]) W1 (.exit 0) ({ tmps := #[], defers := [] } : Act) (W2.setCell ⟨w.heap.size + 1, 0, none⟩ (faultV 22 (pre.length : Nat)))) :=
        Lib.hid ⟨(Moves.of_below HB2.out).trans (hm4.mono fun k h => HNB.out k (by omega) (by omega)), rfl, pre.length, ⟨HI2.out.kept.turn hm4 (fun k h => by omega), row_keep HI2.out.ch hm4 (by omega), HI2.out.eb.set _⟩, hans⟩
      rw [decide_eq_false hok]
      clear hok hm4 hans
      gi_wp2
      exact HR.out
  case done =>
    rintro X D W hD hXD ⟨hI, hf⟩ hX hK
    rw [List.length_zipIdx, List.take_length] at hf
    have hcl : W.cell? ⟨w.heap.size, 0, none⟩ = some (.slice o n cap) := by rw [cell_of_row _ _ 0 _ _ _ hI.ch]; rfl
    have hce : W.cell? ⟨w.heap.size + 1, 0, none⟩ = some .nilIface := hI.eb.cell
    have hfe := hI.eb.frozen
    rcases Nat.lt_or_ge 600 n with h6 | h6
    · have hm1 : Moves (fun k => k = w.heap.size + 1) W (W.setCell ⟨w.heap.size + 1, 0, none⟩ (faultV 22 600)) := Moves.setCell rfl
      have hce2 : (W.setCell ⟨w.heap.size + 1, 0, none⟩ (faultV 22 600)).cell? ⟨w.heap.size + 1, 0, none⟩ = some (faultV 22 600) := (hI.eb.set _).cell
      have hK2 : (W.setCell ⟨w.heap.size + 1, 0, none⟩ (faultV 22 600)).heap[D]? = some (.deferred (some [])) := row_keep hK hm1 (by
        rintro rfl
        have := hI.eb
        unfold Boxed at this
        rw [hK] at this
        cases this)
      have hpost : P (.returned (faultV 22 600)) ((W.setCell ⟨w.heap.size + 1, 0, none⟩ (faultV 22 600)).putObj D (.deferred none)) := by
        rw [← HP.out]
        refine ⟨?_, Moves.below hI.kept.below hI.kept.below.size (hm1.mono (T := fun k => w.heap.size ≤ k) (fun k h => by omega) |>.trans (Moves.putObj (show w.heap.size ≤ D by omega))) (fun k h => h)⟩
        unfold chkL
        rw [badAt_none hf, HN.out]
        simp only
        rw [if_pos h6]
        rfl
      have HPP := Lib.hid hpost
      clear hpost hI hm1 hf
      gi_wp2
      rw [Exit.noGoto_ret]
      refine ⟨by simp, .inl ⟨_, _, rfl, run_takeDeferred hK2, ?_⟩⟩
      exact ⟨_, results_tmp (t := 2) rfl _ _ _, HPP.out⟩
    · have hm : Moves (fun k => k = D) W (W.putObj D (.deferred none)) := Moves.putObj rfl
      have hpost : P (.returned .nilIface) (W.putObj D (.deferred none)) := by
        rw [← HP.out]
        refine ⟨?_, Moves.below hI.kept.below hI.kept.below.size hm (fun k h => by omega)⟩
        rw [chk_ok.2 ⟨hf, by rw [HN.out]; exact h6⟩]
        rfl
      have HPP := Lib.hid hpost
      have hK2 := hK
      clear hpost hI hm hf
      gi_wp2
      rw [Exit.noGoto_ret]
      refine ⟨by simp, .inl ⟨_, _, rfl, run_takeDeferred hK2, ?_⟩⟩
      exact ⟨_, results_tmp (t := 2) rfl _ _ _, HPP.out⟩
  case stop =>
    rintro X D c pre W hD hXD hpre ⟨rfl, i, hI, hf⟩ hX hK
    have hm : Moves (fun k => k = D) W (W.putObj D (.deferred none)) := Moves.putObj rfl
    have hce : W.cell? ⟨w.heap.size + 1, 0, none⟩ = some (faultV 22 (i : Nat)) := hI.eb.cell
    have hpost : P (.returned (faultV 22 (i : Nat))) (W.putObj D (.deferred none)) := by
      rw [← HP.out]
      refine ⟨?_, Moves.below hI.kept.below hI.kept.below.size hm (fun k h => by omega)⟩
      unfold chkL
      rw [hf]
      rfl
    have HPP := Lib.hid hpost
    have hK2 := hK
    clear hpost hI hm
    gi_wp2
    rw [Exit.noGoto_ret]
    refine ⟨by simp, .inl ⟨_, _, rfl, run_takeDeferred hK2, ?_⟩⟩
    exact ⟨_, results_tmp (t := 2) rfl _ _ _, HPP.out⟩
end Go.Proofs.YtlmkefmfhdjmmaaDoor

namespace Go.Proofs.YtlmkefmfhdjmmaaDoor
open Go.RowKit

def noDefer (o : Oper) : Bool := match o.op with
  | .defer _ => false
  | _ => true
theorem wpOperIn_round {F : Fence} {n : Nat} {P : Program} {Q : Exit → Act → World → Prop} {o : Oper} {a : Act} {w : World} {K K' : Act → World → Prop} (l0 : Nat) (hd : noDefer o = true) (hK : ∀ a w, K a w → K' a w)
    (h : o.wpIn F n P a w K Q) : o.wpIn (F.inRound l0) n P a w K' Q := by
  have hs : ∀ c, o.op ≠ .defer c := fun c e => by unfold noDefer at hd; rw [e] at hd; cases hd
  unfold Oper.wpIn at h ⊢
  refine ⟨h.1, ?_⟩
  have h2 := h.2
  rw [Oper.semAt_plain F _ _ hs] at h2
  rw [Oper.semAt_plain (F.inRound l0) _ _ hs]
  revert h2
  generalize (execOp a.eval o).run P w = R
  intro h2
  cases R with
  | ok nx w' =>
    cases nx
    case value v => exact hK _ _ h2
    case skip => exact hK _ _ h2
    case defer d => exact hK _ _ h2
    case enter f args => exact ⟨h2.1, CallsIn.inRound l0 (CallsIn.mono h2.2 fun e w'' h3 => by cases e <;> first | exact hK _ _ h3 | exact h3)⟩
    case row r args => exact ⟨h2.1, RowsIn.mono (F := F) h2.2 fun v w'' h3 => hK _ _ h3⟩
    case round l f tmps assign body => exact ⟨h2.1, RoundIn.mono (F := F) h2.2 fun e w'' h3 => by cases e <;> first | exact hK _ _ h3 | exact h3⟩
    all_goals exact h2
  | halt hlt w' => cases hlt <;> exact h2
theorem wpAnyIn_round {F : Fence} {n : Nat} {P : Program} {md : Region.Mode} {ops : Array Oper} {Q : Exit → Act → World → Prop} (l0 : Nat) (hd : ∀ o ∈ ops.toList, noDefer o = true) :
    ∀ (fuel : Nat) (listed : Array Bool) (a : Act) (w : World), wpAnyIn F n P md ops Q fuel listed a w → wpAnyIn (F.inRound l0) n P md ops Q fuel listed a w
  | 0, _, _, _, h => h
  | fuel + 1, listed, a, w, h => by
    refine ⟨h.1, fun i hi => ?_⟩
    have h2 := h.2 i hi
    unfold wpOpIn at h2 ⊢
    cases ho : ops[i]? with
    | none => rw [ho] at h2; exact wpAnyIn_round l0 hd fuel _ _ _ h2
    | some o =>
      rw [ho] at h2
      simp only at h2 ⊢
      split at h2
      · rename_i hw
        rw [if_pos hw]
        refine wpOperIn_round l0 (hd o ?_) (fun a w h => wpAnyIn_round l0 hd fuel _ _ _ h) h2
        exact Array.mem_toList_iff.2 (Array.mem_of_getElem? ho)
      · rename_i hw
        rw [if_neg hw]
        exact ⟨h2.1, wpAnyIn_round l0 hd fuel _ _ _ h2.2⟩
/-- A region whose operations only look, inside a round: walked once, in the order of the text. -/
theorem wpIn_quiet_round {P : Program} {id n : Nat} {Q : Exit → Act → World → Prop} {a : Act} {w : World} {l : List Oper} (l0 : Nat) (hd : l.all noDefer = true) (hm : P.follows .mixedOrders = true) (hB : Region.lexB .any l.toArray = true)
    (h : wpQuietIn Fence.wide n P l.toArray (fun w' => ∃ n, w' = w.drewN n) (fun a' => ∀ w', (∃ n, w' = w.drewN n) → Q .normal a' w') l a) : (Code.region id l.toArray true).wpIn (Fence.wide.inRound l0) n P Q a w := by
  simp only [Region.lexB, Bool.and_eq_true] at hB
  refine wpIn_region_any hm (wpAnyIn_round l0 (fun o ho => List.all_eq_true.1 hd o (by simpa using ho)) _ _ _ _ ?_)
  refine wpAnyIn_of_quiet (C := fun w' => ∃ n, w' = w.drewN n) (Q := fun a' => ∀ w', (∃ n, w' = w.drewN n) → Q .normal a' w') rfl (fun _ w' hw' h => h w' hw') _ _ _ _ ⟨1, rfl⟩ ?_
  have hq := wpAnyQIn_lex (F := Fence.wide) (n := n) (P := P) (C := fun w' => ∃ n, w' = w.drewN n) (md := .any) hB.1 l.toArray.toList 0 (Array.replicate l.toArray.size false) a (by simp) (by simpa using hB.2) (by simpa using h)
  simpa using hq
end Go.Proofs.YtlmkefmfhdjmmaaDoor

namespace Go.Proofs.YtlmkefmfhdjmmaaDoor
open Go.RowKit Go.Shelf
attribute [local go_sem] Oper.semAt_some

theorem results_cell1 {P : Program} {fn : Func} {p : Tmp} {ty : TypeId} (h : fn.results = #[.cell p ty]) (tmps : Array Value) (w : World) (a : Addr) (d : TypeDesc) (v : Value)
    (hp : tmps.getD p undef = .pointer (some a)) (hu : P.underlying ty = some d) (hd : (match d with | .struct _ | .array _ _ => true | _ => false) = false) (hc : w.cell? a = some v) :
    (results fn tmps).run P w = .ok v w := by
  have hp' : tmps[p]?.getD undef = .pointer (some a) := by simpa using hp
  cases d <;> simp at hd <;> simp [results, h, hp', asAddr, loadVar, isAgg, underlying, hu, hc, Result.andThen]
def adjL (l : List Rng) : Prop := ∀ (i : Nat) (x y : Rng), l[i]? = some x → l[i + 1]? = some y → x.2.1 < y.1
theorem adj_map {l : List Rng} (h : ∀ x ∈ l, okR x) : adjL l ↔ l.Pairwise (fun x y => x.2.1 < y.1) := by
  constructor
  · intro ha
    induction l with
    | nil => exact List.Pairwise.nil
    | cons x t ih =>
      have ht := ih (fun y hy => h y (List.mem_cons_of_mem _ hy)) (fun i a b h1 h2 => ha (i + 1) a b (by simpa using h1) (by simpa using h2))
      refine List.pairwise_cons.2 ⟨fun y hy => ?_, ht⟩
      cases t with
      | nil => simp at hy
      | cons z t' =>
        have h1 := ha 0 x z rfl rfl
        rcases List.mem_cons.1 hy with rfl | hy'
        · exact h1
        · have h2 := (List.pairwise_cons.1 ht).1 y hy'
          have h3 := h z (List.mem_cons_of_mem _ List.mem_cons_self)
          unfold okR at h3
          omega
  · intro hp i x y h1 h2
    obtain ⟨l1, e1⟩ := List.getElem?_eq_some_iff.1 h1
    obtain ⟨l2, e2⟩ := List.getElem?_eq_some_iff.1 h2
    have := List.pairwise_iff_getElem.1 hp i (i + 1) l1 l2 (by omega)
    rw [e1, e2] at this
    exact this
theorem adj_snoc {l : List Rng} {j : Nat} {x : Rng} (hx : l[j]? = some x) (h : adjL (l.take j)) (hy : ∀ i y, j = i + 1 → l[i]? = some y → y.2.1 < x.1) : adjL (l.take (j + 1)) := by
  intro i a b h1 h2
  have hlt := (List.getElem?_eq_some_iff.1 h2).1
  rw [List.length_take] at hlt
  rw [List.getElem?_take_of_lt (by omega)] at h1 h2
  rcases Nat.lt_or_ge (i + 1) j with h3 | h3
  · exact h i a b (by rw [List.getElem?_take_of_lt (by omega)]; exact h1) (by rw [List.getElem?_take_of_lt (by omega)]; exact h2)
  · obtain rfl : i + 1 = j := by omega
    rw [hx] at h2
    cases h2
    exact hy i a rfl h1
theorem moves_drewN (S : Nat → Prop) (w : World) (q : Nat) : Moves S w (w.drewN q) := by
  induction q with
  | zero => exact Moves.refl _ _
  | succ q ih => exact ih.drew
structure AscInv (w : World) (o : Option Addr) (n cap : Nat) (X : Nat → Prop) (W : World) (B : Bool) : Prop where
  kept : Kept w 2 X W
  ch : W.heap[w.heap.size]? = some (chartO o n cap)
  bb : Boxed W (w.heap.size + 1) 4 (.bool B)
theorem AscInv.moves {w : World} {o : Option Addr} {n cap : Nat} {X X' : Nat → Prop} {A B : World} {s : Bool} (h : AscInv w o n cap X A s) (hm : Moves X A B) (hX : ∀ k, X' k → (X k ∨ A.heap.size ≤ k) ∧ k < B.heap.size) : AscInv w o n cap X' B s :=
  ⟨h.kept.moves hm hX, h.kept.row hm (by omega) h.ch, h.kept.row hm (by omega) h.bb⟩
set_option maxRecDepth 100000 in
set_option maxHeartbeats 2000000 in
theorem ascends_any (o : Option Addr) (l : List Rng) (cap : Nat) (hn : l.length ≤ 1000000) (w : World) (hA : AtR w o l) :
    Calls Tryd.prog 77 #[chartV o l.length cap] w fun e w' => (∃ B, e = .returned (.bool B) ∧ (B = true ↔ adjL l)) ∧ Below w.heap.size w w' := by
  refine (callsIn_wide (n := 6)).1 ?_
  have h1 : 1 ≤ 6 := by omega
  refine callsIn_of_wp_marks Tryd.func77 rfl trivial ?_ rfl
  simp only [Tryd.ntmps77, List.size_toArray, List.length_cons, List.length_nil, Nat.reduceAdd, Nat.reduceSub, Array.replicate_succ, Array.replicate_zero, List.push_toArray, List.append_toArray, List.nil_append, List.cons_append]
  obtain ⟨P, hP⟩ : ∃ P, (fun (e : Ending) w' => (∃ B, e = .returned (.bool B) ∧ (B = true ↔ adjL l)) ∧ Below w.heap.size w w') = P := ⟨_, rfl⟩
  have HP := Lib.hid hP
  rw [hP]
  clear hP
  obtain ⟨n, hnn⟩ : ∃ n, l.length = n := ⟨_, rfl⟩
  have HN := Lib.hid hnn
  rw [hnn] at hn ⊢
  have HA := Lib.hid hA
  clear hA hnn
  gi_wp2_with fail
  refine ⟨trivial, (callsIn_wide.2 (ranges_any o n cap _)).mono ?_⟩
  rintro e w2 ⟨rfl, hw2⟩
  simp only [World.size_alloc] at hw2 ⊢
  have BW : Below w.heap.size w w2 := by rw [← hw2]; exact (((Below.refl _ _).alloc (Nat.le_refl _) _).alloc (by simp) _).alloc (by simp; omega) _
  have z2 : w2.heap.size = w.heap.size + 3 := by rw [← hw2]; simp
  have C2 : w2.heap[w.heap.size]? = some (chartO o n cap) := by
    rw [← hw2, Below.heap_alloc _ _ _ (by simp; omega), Below.heap_alloc _ _ _ (by simp)]
    exact heap_alloc_new _ _
  have E2 : Boxed w2 (w.heap.size + 1) 4 (.bool false) := by
    rw [← hw2]
    have := Boxed.new (w.alloc (chartO o n cap)) 4 (.bool false)
    rw [World.size_alloc] at this
    exact this.alloc _
  have hb : w2.heap[w.heap.size + 1 + 1]? = some (chartO o n cap) := by
    rw [← hw2]
    have := heap_alloc_new ((w.alloc (chartO o n cap)).alloc (.cells #[.bool false] 4)) (chartO o n cap)
    simpa using this
  have A2 := HA.out.below BW
  have hlt : ∀ k, 0 < l.length → inB o k → k < w.heap.size := fun k h0 hk => HA.out.lt h0 hk
  clear hw2
  gi_wp2_with fail
  refine wpIn_seqX (n := 6) (Ow := fun _ => False) (Dep := DepR (w.heap.size + 1 + 1) o l) (encs := encR) (all := l.zipIdx) (by omega) rfl (enters_of Tryd.func75 (by kernel_rfl) rfl) (fun x => rfl) (seqRanges (by rw [HN.out]; exact hn) (by rw [HN.out]; exact hb) A2)
    (fun k h => h.elim) (fun k h => by rcases h with h | ⟨h0, h⟩; { omega }; { have := hlt k h0 h; omega })
    (fun X pre W => AscInv w o n cap X W false ∧ adjL (l.take pre.length)) (fun c X pre W => c = .ret ∧ AscInv w o n cap X W false ∧ ¬ adjL l) ?hI ?hIx ?h0
    (fun b x => { tmps := #[chartV o n cap, .pointer (some ⟨w.heap.size, 0, none⟩), .pointer (some ⟨w.heap.size + 1, 0, none⟩), .int .i64 (x.2 : Nat), .pointer (some ⟨b, 0, none⟩), chartV o n cap, .func (.func 75) #[] #[.pointer (some ⟨w.heap.size + 1 + 1, 0, none⟩)], .int .i64 (x.2 : Nat), rngV x.1, undef, undef, undef, undef, undef, undef, undef, undef, undef, undef, undef, undef, undef, undef], defers := [] })
    (fun A x B => A.alloc (rngO x.1) = B) (fun A x B h => by rw [← h]; exact Moves.of_below ((Below.refl _ _).alloc (Nat.le_refl _) _)) ?assign ?body ?done ?stop
  case hI =>
    rintro X X' xs A B ⟨h, hf⟩ hm hX
    exact ⟨h.moves hm hX, hf⟩
  case hIx =>
    rintro c X X' xs A B ⟨rfl, h, hf⟩ hm hX
    exact ⟨rfl, h.moves hm hX, hf⟩
  case h0 => exact ⟨⟨⟨fun k h => h.elim, BW, by omega⟩, C2, E2⟩, fun i x y hx => by simp at hx⟩
  case assign =>
    rintro l x A K hK
    gi_wp2
    rfl
  case body =>
    rintro lp X pre ⟨x, j⟩ A A' W1 hA1 hpx hAB hm hXn hXn1 hXlt ⟨hI, hf⟩
    obtain ⟨hj, hx, -⟩ := zip_pre hpx
    have hxb : W1.heap[A.heap.size]? = some (rngO x) := by
      have := heap_alloc_new A (rngO x)
      rw [hAB] at this
      exact row_keep this hm (by omega)
    obtain ⟨q0, q1, q2, _⟩ := rng_cells hxb
    have nB := hI.kept.free (o := o) (l := l) (cb := w.heap.size + 1 + 1) (by omega) hlt
    have ce := hI.bb.cell
    have fe := hI.bb.frozen
    have cc : W1.cell? ⟨w.heap.size, 0, none⟩ = some (.slice o n cap) := by rw [cell_of_row _ _ 0 _ _ _ hI.ch]; rfl
    have hAW := HA.out.below hI.kept.below
    have hz := hI.kept.size
    have hjl : j < 1000000 := by have := (List.getElem?_eq_some_iff.1 hx).1; rw [HN.out] at this; omega
    have hjn : j < n := by have := (List.getElem?_eq_some_iff.1 hx).1; rwa [HN.out] at this
    rw [← hj] at hf
    have HI := Lib.hid hI
    have HX := Lib.hid hx
    have HF := Lib.hid hf
    have HNB := Lib.hid nB
    have HJ := Lib.hid hj
    have HAW := Lib.hid hAW
    obtain ⟨a, b, v⟩ := x
    have good : (∀ i y, j = i + 1 → l[i]? = some y → y.2.1 < a) → ∀ q, Hid (seqEndX (DepR (w.heap.size + 1 + 1) o l) X (fun X pre W => AscInv w o n cap X W false ∧ adjL (l.take pre.length)) (fun c X pre W => c = .ret ∧ AscInv w o n cap X W false ∧ ¬ adjL l) (pre ++ [((a, b, v), j)]) W1 .normal ({ tmps := #[], defers := [] } : Act) (W1.drewN q)) := fun h q => by
      refine Lib.hid ⟨moves_drewN _ _ _, ⟨HI.out.kept.turn (moves_drewN (fun _ => False) W1 q) (fun k h => h.elim), HI.out.ch, HI.out.bb⟩, ?_⟩
      rw [List.length_append, ← HJ.out]
      exact adj_snoc HX.out HF.out h
    simp only at q0 q1 q2
    clear hI hx hf nB hpx hm hXlt hXn hXn1 hxb hAB hA1 hAW hj
    cases j with
    | zero =>
      have HR := good (fun i y h => by omega)
      clear good
      gi_wp2_with fail
      refine wpIn_quiet_round lp (by kernel_rfl) (by kernel_rfl) (by kernel_rfl) ?_
      repeat (gi_big_quiet_step (fail))
      refine wpQuietIn_nil ?_
      rintro _ ⟨nq, rfl⟩
      gi_wp2
      exact (HR _).out
    | succ k =>
      obtain ⟨y, hy⟩ : ∃ y, l[k]? = some y := ⟨_, List.getElem?_eq_getElem (by rw [HN.out]; omega)⟩
      obtain ⟨g, off, rfl, hc⟩ := HAW.out (by rw [HN.out]; omega)
      obtain ⟨_, k1, _⟩ := hc k y hy
      have hg := World.block_lt_of_cell? W1 _ k1
      have hw1 : IntKind.i64.wrap (((k : Nat) : Int) + 1 - 1) = (k : Nat) := by rw [show ((k : Nat) : Int) + 1 - 1 = (k : Nat) from by omega]; exact wrap_id (by omega) (by omega)
      have hw2 : IntKind.i64.wrap ((k : Nat) : Int) = (k : Nat) := wrap_id (by omega) (by omega)
      have hkn : k < n := by omega
      have bad : ¬ y.2.1 < a → ∀ q, Hid (seqEndX (DepR (w.heap.size + 1 + 1) (some ⟨g, off, none⟩) l) X (fun X pre W => AscInv w (some ⟨g, off, none⟩) n cap X W false ∧ adjL (l.take pre.length)) (fun c X pre W => c = .ret ∧ AscInv w (some ⟨g, off, none⟩) n cap X W false ∧ ¬ adjL l) (pre ++ [((a, b, v), k + 1)]) W1 .ret ({ tmps := #[], defers := [] } : Act) ((W1.drewN q).setCell ⟨w.heap.size + 1, 0, none⟩ (.bool false))) := fun h q => by
        have hm4 : Moves (fun k => k = w.heap.size + 1) W1 ((W1.drewN q).setCell ⟨w.heap.size + 1, 0, none⟩ (.bool false)) := (moves_drewN _ _ q).trans (Moves.setCell rfl)
        refine Lib.hid ⟨hm4.mono fun k h => HNB.out k (by omega) (by omega), rfl, ⟨HI.out.kept.turn hm4 (fun k h => by omega), row_keep HI.out.ch hm4 (by omega), ?_⟩, fun ha => h (ha k y _ hy HX.out)⟩
        exact (show Boxed (W1.drewN q) (w.heap.size + 1) 4 (.bool false) from HI.out.bb).set _
      have HG := Lib.hid good
      have HBD := Lib.hid bad
      have HY := Lib.hid hy
      obtain ⟨ya, yb, yv⟩ := y
      simp only at k1
      clear good bad hy hc
      by_cases hlt2 : yb < a
      · have HR := HG.out (fun i z h1 h2 => by
          obtain rfl : k = i := by omega
          rw [HY.out] at h2
          cases h2
          exact hlt2)
        have hd : ¬ a ≤ yb := by omega
        clear hlt2
        gi_wp2_with fail
        refine wpIn_quiet_round lp (by kernel_rfl) (by kernel_rfl) (by kernel_rfl) ?_
        repeat (gi_big_quiet_step (fail))
        refine wpQuietIn_nil ?_
        rintro _ ⟨nq, rfl⟩
        gi_wp2
        exact (HR _).out
      · have HR := HBD.out hlt2
        have hd : a ≤ yb := by omega
        clear hlt2
        gi_wp2_with fail
        refine wpIn_quiet_round lp (by kernel_rfl) (by kernel_rfl) (by kernel_rfl) ?_
        repeat (gi_big_quiet_step (fail))
        refine wpQuietIn_nil ?_
        rintro _ ⟨nq, rfl⟩
        gi_wp2
        exact (HR _).out
  case done =>
    rintro X D W hD hXD ⟨hI, hf⟩ hX hK
    rw [List.length_zipIdx, List.take_length] at hf
    have hfe := hI.bb.frozen
    have hce := hI.bb.cell
    have hm1 : Moves (fun k => k = w.heap.size + 1) W (W.setCell ⟨w.heap.size + 1, 0, none⟩ (.bool true)) := Moves.setCell rfl
    have hb1 : Boxed (W.setCell ⟨w.heap.size + 1, 0, none⟩ (.bool true)) (w.heap.size + 1) 4 (.bool true) := hI.bb.set _
    have hne : ¬ D = w.heap.size + 1 := by
      rintro rfl
      have := hI.bb
      unfold Boxed at this
      rw [hK] at this
      cases this
    have hK2 : (W.setCell ⟨w.heap.size + 1, 0, none⟩ (.bool true)).heap[D]? = some (.deferred (some [])) := row_keep hK hm1 hne
    have hb2 : Boxed ((W.setCell ⟨w.heap.size + 1, 0, none⟩ (.bool true)).putObj D (.deferred none)) (w.heap.size + 1) 4 (.bool true) := row_keep hb1 (Moves.putObj (S := fun k => k = D) rfl) (fun h => hne h.symm)
    have hpost : P (.returned (.bool true)) ((W.setCell ⟨w.heap.size + 1, 0, none⟩ (.bool true)).putObj D (.deferred none)) := by
      rw [← HP.out]
      exact ⟨⟨true, rfl, by simp [hf]⟩, Moves.below hI.kept.below hI.kept.below.size (hm1.mono (T := fun k => w.heap.size ≤ k) (fun k h => by omega) |>.trans (Moves.putObj (show w.heap.size ≤ D by omega))) (fun k h => h)⟩
    have HPP := Lib.hid hpost
    have hb2c := hb2.cell
    clear hpost hI hm1 hf hb1
    gi_wp2
    refine ⟨by simp, .inl ⟨_, _, rfl, run_takeDeferred hK2, ?_⟩⟩
    exact ⟨_, results_cell1 rfl _ _ _ _ _ rfl Tryd.underlying4 rfl hb2c, HPP.out⟩
  case stop =>
    rintro X D c pre W hD hXD hpre ⟨rfl, hI, hf⟩ hX hK
    have hm : Moves (fun k => k = D) W (W.putObj D (.deferred none)) := Moves.putObj rfl
    have hne : ¬ D = w.heap.size + 1 := by
      rintro rfl
      have := hI.bb
      unfold Boxed at this
      rw [hK] at this
      cases this
    have hb2c : (W.putObj D (.deferred none)).cell? ⟨w.heap.size + 1, 0, none⟩ = some (.bool false) := (show Boxed (W.putObj D (.deferred none)) (w.heap.size + 1) 4 (.bool false) from row_keep hI.bb hm (fun h => hne h.symm)).cell
    have hpost : P (.returned (.bool false)) (W.putObj D (.deferred none)) := by
      rw [← HP.out]
      exact ⟨⟨false, rfl, by simp [hf]⟩, Moves.below hI.kept.below hI.kept.below.size hm (fun k h => by omega)⟩
    have HPP := Lib.hid hpost
    have hK2 := hK
    clear hpost hI hm
    gi_wp2
    refine ⟨by simp, .inl ⟨_, _, rfl, run_takeDeferred hK2, ?_⟩⟩
    exact ⟨_, results_cell1 rfl _ _ _ _ _ rfl Tryd.underlying4 rfl hb2c, HPP.out⟩
/-- Ranges are a map. -/
def rightL (l : List Rng) : Prop := mapL l ∧ l.length ≤ 600
instance rightL_dec (l : List Rng) : Decidable (rightL l) := by unfold rightL; infer_instance
theorem isMap_any (o : Option Addr) (l : List Rng) (cap : Nat) (hn : l.length ≤ 1000000) (w : World) (hA : AtR w o l) :
    Calls Tryd.prog 58 #[chartV o l.length cap] w fun e w' => e = .returned (.bool (decide (rightL l))) ∧ Below w.heap.size w w' := by
  have A0 : Below w.heap.size w (w.alloc (chartO o l.length cap)) := (Below.refl _ _).alloc (Nat.le_refl _) _
  have hchk := checked_any o l cap hn _ (hA.below A0)
  have hq : chartO o l.length cap = .cells #[.slice o l.length cap] 67 (0, 0) := rfl
  have q0 : (w.alloc (chartO o l.length cap)).heap[w.heap.size]? = some (chartO o l.length cap) := heap_alloc_new _ _
  have HASC := Lib.hid fun (W : World) (hb : Below (w.alloc (chartO o l.length cap)).heap.size (w.alloc (chartO o l.length cap)) W) => ascends_any o l cap hn W ((hA.below A0).below hb)
  obtain ⟨D, hD⟩ : ∃ D, decide (rightL l) = D := ⟨_, rfl⟩
  rw [hD]
  have HD := Lib.hid hD
  obtain ⟨E, hE⟩ : ∃ E, errC (chkL l) = E := ⟨_, rfl⟩
  rw [hE] at hchk
  have HE := Lib.hid hE
  have HCHK := Lib.hid hchk
  have HA0 := Lib.hid A0
  have HQ0 := Lib.hid q0
  obtain ⟨n, hnn⟩ : ∃ n, l.length = n := ⟨_, rfl⟩
  rw [hnn] at HCHK HASC HA0 HQ0 ⊢
  have HN := Lib.hid hnn
  clear hchk hD hE q0 A0 hA hq hnn
  go_enter Tryd.func58, Tryd.ntmps58
  go_wp2_with fail
  refine HCHK.out.mono ?_
  rintro e w1 ⟨rfl, b1⟩
  have c1 : w1.cell? ⟨w.heap.size, 0, none⟩ = some (.slice o n cap) := by rw [cell_of_row _ _ 0 _ _ _ (row_below HQ0.out b1)]; rfl
  have HB1 := Lib.hid b1
  clear b1
  have hee := HE.out
  cases hc : chkL l with
  | none =>
    rw [hc] at hee
    have hE0 : E = .nilIface := by rw [← hee]; rfl
    subst hE0
    have hm := chk_ok.1 hc
    clear hee hc
    have HM := Lib.hid hm
    clear hm
    go_wp2_with fail
    refine (HASC.out w1 HB1.out).mono ?_
    rintro e w2 ⟨⟨B, rfl, hB⟩, b2⟩
    have hDB : D = B := by
      rw [← HD.out, Bool.eq_iff_iff, hB, decide_eq_true_eq]
      exact ⟨fun h => (adj_map HM.out.1).2 h.1.2, fun h => ⟨⟨HM.out.1, (adj_map HM.out.1).1 h⟩, HM.out.2⟩⟩
    subst hDB
    have BB := Lib.hid ((HA0.out.trans (HB1.out.mono (by simp))).trans (b2.mono (by have := HB1.out.size; simp at this; omega)))
    clear b2
    go_wp2
    go_ret
    exact ⟨rfl, BB.out⟩
  | some i =>
    rw [hc] at hee
    have hE0 : E = faultV 22 (i : Nat) := by rw [← hee]; rfl
    subst hE0
    have hDf : D = false := by
      rw [← HD.out]
      refine decide_eq_false fun h => ?_
      have := chk_ok.2 ⟨h.1.1, h.2⟩
      rw [hc] at this
      cases this
    subst hDf
    clear hee hc
    have BB := Lib.hid (HA0.out.trans (HB1.out.mono (by simp)))
    go_wp2
    go_ret
    exact ⟨rfl, BB.out⟩
end Go.Proofs.YtlmkefmfhdjmmaaDoor

namespace Go.Proofs.YtlmkefmfhdjmmaaDoor
open Go.RowKit Go.Shelf

/-- How many ranges, from the first on, end ahead of r. -/
def reachL (l : List Rng) (r : Int) : Nat := (l.takeWhile fun x => decide (x.2.1 < r)).length
abbrev layerV (o : Option Addr) (n cap : Nat) : Value := .agg #[.slice o n cap]
theorem reach_le (l : List Rng) (r : Int) : reachL l r ≤ l.length := by
  unfold reachL
  exact (List.takeWhile_prefix _).length_le
theorem reach_lt : ∀ {l : List Rng} {r : Int} {i : Nat} {x : Rng}, i < reachL l r → l[i]? = some x → x.2.1 < r
  | [], r, i, x, hi, hx => by simp at hx
  | y :: t, r, i, x, hi, hx => by
    unfold reachL at hi
    rw [List.takeWhile_cons] at hi
    split at hi
    · rename_i h
      cases i with
      | zero =>
        have : y = x := by simpa using hx
        subst this
        simpa using h
      | succ i =>
        exact reach_lt (l := t) (i := i) (by unfold reachL; simpa using hi) (by simpa using hx)
    · simp at hi
theorem reach_at {l : List Rng} {r : Int} {x : Rng} (hx : l[reachL l r]? = some x) : ¬ x.2.1 < r := by
  unfold reachL at hx
  induction l with
  | nil => simp at hx
  | cons y t ih =>
    rw [List.takeWhile_cons] at hx
    split at hx
    · exact ih (by simpa using hx)
    · rename_i h
      have : y = x := by simpa using hx
      subst this
      simpa using h
/-- The ends ascend. -/
theorem ends_asc {l : List Rng} (h : l.Pairwise (fun x y => x.2.1 < y.1)) (hok : ∀ x ∈ l, x.1 ≤ x.2.1) {i j : Nat} {x y : Rng} (hij : i ≤ j) (hx : l[i]? = some x) (hy : l[j]? = some y) : x.2.1 ≤ y.2.1 := by
  obtain ⟨hi, ex⟩ := List.getElem?_eq_some_iff.1 hx
  obtain ⟨hj, ey⟩ := List.getElem?_eq_some_iff.1 hy
  rcases Nat.lt_or_ge i j with h1 | h1
  · have := List.pairwise_iff_getElem.1 h i j hi hj h1
    rw [ex, ey] at this
    have := hok y (List.mem_of_getElem? hy)
    omega
  · obtain rfl : i = j := by omega
    rw [hx] at hy
    cases hy
    omega
/-- The closure's boxes: r, the layer. -/
theorem reach1_any {B C : Nat} {o : Option Addr} {l : List Rng} {n cap : Nat} {r : Int} {i : Nat} {x : Rng} (w : World) (hn : l.length = n) (hB : Boxed w B 3 (.int .i64 r)) (hC : w.heap[C]? = some (.cells #[.slice o n cap] 83 (0, 0))) (hA : AtR w o l) (hx : l[i]? = some x) :
    Calls Tryd.prog 88 #[.int .i64 (i : Nat), .pointer (some ⟨B, 0, none⟩), .pointer (some ⟨C, 0, none⟩)] w fun e w' => e = .returned (.bool (!decide (x.2.1 < r))) ∧ ∃ q, w' = w.drewN q := by
  have hi : i < n := by have := (List.getElem?_eq_some_iff.1 hx).1; omega
  obtain ⟨g, off, rfl, hc⟩ := hA (by omega)
  obtain ⟨_, k1, _⟩ := hc i x hx
  have cb := hB.cell
  have cc : w.cell? ⟨C, 0, none⟩ = some (.slice (some ⟨g, off, none⟩) n cap) := by rw [cell_of_row _ _ 0 _ _ _ hC]; rfl
  obtain ⟨a, b, v⟩ := x
  simp only at k1
  clear hc hA hx hB hC hn
  go_enter Tryd.func88, Tryd.ntmps88
  by_cases h : b < r
  · have h2 : ¬ r ≤ b := by omega
    rw [decide_eq_true h]
    go_wp2_with fail
    go_quiet (fail)
    go_wp2
    go_ret
    exact ⟨by first | (simp; done) | (simp; omega), _, rfl⟩
  · have h2 : r ≤ b := by omega
    rw [decide_eq_false h]
    go_wp2_with fail
    go_quiet (fail)
    go_wp2
    go_ret
    exact ⟨by first | (simp; done) | (simp; omega), _, rfl⟩
set_option maxHeartbeats 2000000 in
/-- sort.Search of a question that only looks. -/
theorem search_any (g : Nat) (cb : Array Value) (n m : Nat) (p : Nat → Bool) (w : World) (eg : ∀ args w, (callFunc g args).run Tryd.prog w = .ok (.enter g args) w) (hn : n ≤ 1000000) (hm : m ≤ n)
    (h0 : ∀ i, i < m → p i = false) (h1 : ∀ i, m ≤ i → i < n → p i = true)
    (hf : ∀ (q i : Nat), i < n → Calls Tryd.prog g (#[.int .i64 (i : Nat)] ++ cb) (w.drewN q) fun e w' => e = .returned (.bool (p i)) ∧ ∃ k, w' = (w.drewN q).drewN k) :
    Calls Tryd.prog 87 #[.int .i64 (n : Nat), .func (.func g) #[] cb] w fun e w' => e = .returned (.int .i64 (m : Nat)) ∧ ∃ q, w' = w.drewN q := by
  have HF := Lib.hid hf
  have H0 := Lib.hid h0
  have H1 := Lib.hid h1
  clear hf h0 h1
  go_enter Tryd.func87, Tryd.ntmps87
  go_wp2
  go_loopg [5, 6] n (fun k u v wr => ∃ (lo hi q : Nat), u = .int .i64 (lo : Nat) ∧ v = .int .i64 (hi : Nat) ∧ lo ≤ m ∧ m ≤ hi ∧ hi ≤ n ∧ hi - lo ≤ k ∧ wr = w.drewN q)
  case atStart => exact ⟨0, n, 0, rfl, rfl, Nat.zero_le _, hm, Nat.le_refl _, by omega, rfl⟩
  case round =>
    obtain ⟨lo, hi, q, rfl, rfl, hlo, hhi, hin, hk, rfl⟩ := hrel
    by_cases hlt : lo < hi
    · have hc := HF.out q ((lo + hi) / 2) (by omega)
      rw [show (((lo + hi) / 2 : Nat) : Int) = ((lo : Int) + (hi : Int)) / 2 by omega] at hc
      by_cases hp : (lo + hi) / 2 < m
      · rw [H0.out _ hp] at hc
        have HC := Lib.hid hc
        clear hc
        go_wp2_with (go_at_fn g; refine HC.out.mono ?_; rintro e w' ⟨rfl, nq, rfl⟩)
        go_roundg (hi - ((lo + hi) / 2 + 1))
        case measure => omega
        case rel => exact ⟨(lo + hi) / 2 + 1, hi, q + nq, by rw [show ((lo : Int) + (hi : Int)) / 2 + 1 = (((lo + hi) / 2 + 1 : Nat) : Int) by omega], rfl, by omega, hhi, hin, Nat.le_refl _, rfl⟩
      · rw [H1.out _ (by omega) (by omega)] at hc
        have HC := Lib.hid hc
        clear hc
        go_wp2_with (go_at_fn g; refine HC.out.mono ?_; rintro e w' ⟨rfl, nq, rfl⟩)
        go_roundg ((lo + hi) / 2 - lo)
        case measure => omega
        case rel => exact ⟨lo, (lo + hi) / 2, q + nq, rfl, by rw [show ((lo : Int) + (hi : Int)) / 2 = (((lo + hi) / 2 : Nat) : Int) by omega], hlo, by omega, by omega, Nat.le_refl _, rfl⟩
    · obtain rfl : lo = m := by omega
      obtain rfl : hi = lo := by omega
      go_wp2
      go_ret
      exact ⟨rfl, q, rfl⟩
theorem moves_drewN1 (w : World) (q : Nat) : Moves (fun _ => False) w (w.drewN q) := by
  induction q with
  | zero => exact Moves.refl _ _
  | succ q ih => exact ih.drew
def endsAt (l : List Rng) (r : Int) (i : Nat) : Bool := match l[i]? with
  | some x => !decide (x.2.1 < r)
  | none => true
abbrev layerO (o : Option Addr) (n cap : Nat) : Obj := .cells #[.slice o n cap] 83 (0, 0)
set_option maxHeartbeats 1000000 in
theorem reach_any (o : Option Addr) (l : List Rng) (cap : Nat) (r : Int) (hn : l.length ≤ 1000000) (hl : mapL l) (w : World) (hA : AtR w o l) :
    Calls Tryd.prog 80 #[layerV o l.length cap, .int .i64 r] w fun e w' => e = .returned (.int .i64 (reachL l r : Nat)) ∧ Below w.heap.size w w' := by
  obtain ⟨n, hnn⟩ : ∃ n, l.length = n := ⟨_, rfl⟩
  have A0 : Below w.heap.size w ((w.alloc (layerO o n cap)).alloc (.cells #[.int .i64 r] 3)) := ((Below.refl _ _).alloc (Nat.le_refl _) _).alloc (by simp) _
  have r0 : ((w.alloc (layerO o n cap)).alloc (.cells #[.int .i64 r] 3)).heap[w.heap.size]? = some (layerO o n cap) := by
    rw [Below.heap_alloc _ _ _ (by simp)]; exact heap_alloc_new _ _
  have r1 : Boxed ((w.alloc (layerO o n cap)).alloc (.cells #[.int .i64 r] 3)) (w.heap.size + 1) 3 (.int .i64 r) := by
    have := Boxed.new (w.alloc (layerO o n cap)) 3 (.int .i64 r); rwa [World.size_alloc] at this
  have hA1 := hA.below A0
  have hs := search_any 88 #[.pointer (some ⟨w.heap.size + 1, 0, none⟩), .pointer (some ⟨w.heap.size, 0, none⟩)] n (reachL l r) (endsAt l r) ((w.alloc (layerO o n cap)).alloc (.cells #[.int .i64 r] 3)) (enters_of Tryd.func88 (by kernel_rfl) rfl) (by omega) (by rw [← hnn]; exact reach_le l r)
    (fun i hi => by
      unfold endsAt
      cases hx : l[i]? with
      | none => have := reach_le l r; have := List.getElem?_eq_none_iff.1 hx; omega
      | some x => simpa using reach_lt hi hx)
    (fun i h1 h2 => by
      unfold endsAt
      cases hx : l[i]? with
      | none => rfl
      | some x =>
        obtain ⟨y, hy⟩ : ∃ y, l[reachL l r]? = some y := ⟨_, List.getElem?_eq_getElem (by omega)⟩
        have h3 := reach_at hy
        have h4 := ends_asc hl.2 (fun x hx => (hl.1 x hx).2.1) h1 hy hx
        simp
        omega)
    (fun q i hi => by
      obtain ⟨x, hx⟩ : ∃ x, l[i]? = some x := ⟨_, List.getElem?_eq_getElem (by omega)⟩
      have h := reach1_any (B := w.heap.size + 1) (C := w.heap.size) (r := r) (cap := cap) (n := n) (((w.alloc (layerO o n cap)).alloc (.cells #[.int .i64 r] 3)).drewN q) hnn r1 r0 hA1 hx
      unfold endsAt
      rw [hx]
      exact h)
  have HS := Lib.hid hs
  have HA0 := Lib.hid A0
  rw [hnn]
  clear hs A0 r0 r1 hA1 hA hl hnn
  go_enter Tryd.func80, Tryd.ntmps80
  go_wp2_with fail
  refine HS.out.mono ?_
  rintro e w' ⟨rfl, q, rfl⟩
  go_wp2
  go_ret
  exact ⟨rfl, HA0.out.trans (Moves.below (Below.refl _ _) (by simp; omega) (moves_drewN1 _ _) (fun k h => h.elim))⟩
theorem find_reach : ∀ {l : List Rng} {r : Int}, mapL l → findL l r = match l[reachL l r]? with
    | none => none
    | some x => if r < x.1 then none else some x.2.2
  | [], r, _ => rfl
  | y :: t, r, h => by
    obtain ⟨ht, hy, hlt⟩ := mapL_tail h
    unfold okR at hy
    by_cases h1 : y.2.1 < r
    · have hr : reachL (y :: t) r = reachL t r + 1 := by unfold reachL; rw [List.takeWhile_cons, if_pos (by simpa using h1)]; rfl
      rw [hr, findL, if_neg (by omega), List.getElem?_cons_succ]
      exact find_reach ht
    · have hr : reachL (y :: t) r = 0 := by unfold reachL; rw [List.takeWhile_cons, if_neg (by simpa using h1)]; rfl
      rw [hr, findL]
      show _ = if r < y.1 then none else some y.2.2
      by_cases h2 : r < y.1
      · rw [if_neg (by omega), if_pos h2]
        exact findL_none' fun z hz => by have := hlt z hz; omega
      · rw [if_pos (by omega), if_neg h2]
set_option maxHeartbeats 1000000 in
theorem says_any (o : Option Addr) (l : List Rng) (cap : Nat) (r : Int) (hn : l.length ≤ 1000000) (hl : mapL l) (w : World) (hA : AtR w o l) :
    Calls Tryd.prog 67 #[layerV o l.length cap, .int .i64 r] w fun e w' => e = .returned (ansF (findL l r)) ∧ Below w.heap.size w w' := by
  have A0 : Below w.heap.size w (w.alloc (layerO o l.length cap)) := (Below.refl _ _).alloc (Nat.le_refl _) _
  have hr := reach_any o l cap r hn hl _ (hA.below A0)
  have hfr := find_reach (r := r) hl
  have hle := reach_le l r
  have q0 : (w.alloc (layerO o l.length cap)).heap[w.heap.size]? = some (layerO o l.length cap) := heap_alloc_new _ _
  obtain ⟨m, hm⟩ : ∃ m, reachL l r = m := ⟨_, rfl⟩
  obtain ⟨n, hnn⟩ : ∃ n, l.length = n := ⟨_, rfl⟩
  obtain ⟨R, hR⟩ : ∃ R, findL l r = R := ⟨_, rfl⟩
  rw [hm] at hr hfr hle
  rw [hR] at hfr ⊢
  rw [hnn] at hr hle q0 A0 hn ⊢
  have HR := Lib.hid hr
  have HQ0 := Lib.hid q0
  have HA0 := Lib.hid A0
  have HA := Lib.hid hA
  have HN := Lib.hid hnn
  clear hr q0 A0 hA hnn hR hm hl
  go_enter Tryd.func67, Tryd.ntmps67
  go_wp2_with fail
  refine HR.out.mono ?_
  rintro e w1 ⟨rfl, b1⟩
  have c1 : w1.cell? ⟨w.heap.size, 0, none⟩ = some (.slice o n cap) := by rw [cell_of_row _ _ 0 _ _ _ (row_below HQ0.out b1)]; rfl
  have hA1 : AtR w1 o l := (HA.out.below HA0.out).below b1
  have HB := Lib.hid (HA0.out.trans (b1.mono (by simp)))
  clear b1
  rcases Nat.lt_or_ge m n with hlt | hge
  · obtain ⟨x, hx⟩ : ∃ x, l[m]? = some x := ⟨_, List.getElem?_eq_getElem (by rw [HN.out]; exact hlt)⟩
    obtain ⟨g, off, rfl, hc⟩ := hA1 (by rw [HN.out]; omega)
    obtain ⟨k0, k1, k2⟩ := hc m x hx
    rw [hx] at hfr
    simp only at hfr
    have hne : (((m : Nat) : Int) == ((n : Nat) : Int)) = false := by simp; omega
    obtain ⟨a, b, v⟩ := x
    simp only at k0 k1 k2 hfr
    clear hc hx
    by_cases h2 : r < a
    · rw [if_pos h2] at hfr
      subst hfr
      go_wp2
      go_ret2
      exact ⟨rfl, HB.out⟩
    · rw [if_neg h2] at hfr
      subst hfr
      go_wp2
      go_ret2
      exact ⟨rfl, HB.out⟩
  · obtain rfl : m = n := by omega
    have hx : l[m]? = none := List.getElem?_eq_none (by rw [HN.out]; exact Nat.le_refl _)
    rw [hx] at hfr
    simp only at hfr
    subst hfr
    clear hx
    go_wp2
    go_ret2
    exact ⟨rfl, HB.out⟩
end Go.Proofs.YtlmkefmfhdjmmaaDoor
