/- Shaken by bunq.py. -/
import Derived.Test.YtaoooocalpkhjaaDoorBuq9
import Derived.Test.YtaoooocalpkhjaaDoorBuq2
import Derived.Deep.RegionHeld3
namespace Go.Proofs.YtaoooocalpkhjaaDoor
open Go.RowKit Go.Shelf Go.Maps
attribute [local go_sem] Oper.semAt_some

def cutD (S : List Nat) : List Int := (padD S).take 40
theorem cutD_len (S : List Nat) : (cutD S).length = 40 := by
  unfold cutD padD
  rw [List.length_take, List.length_append, List.length_map, List.length_replicate]
  omega
theorem cutD_is {S : List Nat} (h : S.length ≤ 40) : cutD S = padD S := List.take_of_length_le (by rw [padD_len h]; exact Nat.le_refl _)
theorem seqV_enc {α : Type} {P : Program} {n f : Nat} {lb : Array Value} {encs encs' : α → Array Value} {Ow Dep : Nat → Prop} {all : List α} {V : List α → World → Prop} {w : World} (hs : SeqOfV P n f lb encs Ow Dep all V w) (h : ∀ x ∈ all, encs' x = encs x) : SeqOfV P n f lb encs' Ow Dep all V w := by
  intro W l J Jx hm hJ hJx hV hY h0
  refine hs W l J Jx hm hJ hJx hV (fun X xs x A hp hj => ?_) h0
  have := hY X xs x A hp hj
  rwa [h x (hp.subset (List.mem_append_right _ (List.mem_singleton.2 rfl)))] at this
theorem view_run {R : List PatP} {N i : Nat} {xs : List (List Nat)} (hx : xs <+: (finD R N).1) (hi : xs.length = i) (hi3 : i ≤ 300) (hle : i ≤ (runD R N (i * (N + 1))).1.length) :
    (i = (runD R N (i * (N + 1))).1.length ∧ xs = (finD R N).1) ∨ (i < (runD R N (i * (N + 1))).1.length ∧ (runD R N (i * (N + 1))).1 <+: (finD R N).1) := by
  have hQ : i * (N + 1) ≤ 300 * (N + 1) := Nat.mul_le_mul_right _ hi3
  rcases Nat.lt_or_ge i (runD R N (i * (N + 1))).1.length with h | h
  · exact .inr ⟨h, run_prefix R N hQ⟩
  · refine .inl ⟨by omega, ?_⟩
    have hnl : ¬ liveD R N (i * (N + 1)) := by
      unfold liveD
      rw [Nat.mul_div_cancel _ (by omega)]
      omega
    have hT : (finD R N).1 = (runD R N (i * (N + 1))).1 := by
      unfold finD
      rw [run_stop hnl hQ]
    obtain ⟨r, hr⟩ := hx
    have hl := congrArg List.length hr
    rw [List.length_append, hT] at hl
    have : r = [] := List.eq_nil_of_length_eq_zero (by omega)
    rw [← hr, this, List.append_nil]
theorem view_end {R : List PatP} {N i : Nat} (hi3 : i ≤ 300) (_hle : i ≤ (runD R N (i * (N + 1))).1.length) (hi : i = (finD R N).1.length) : runD R N (i * (N + 1)) = finD R N := by
  have h : (finD R N).1.length ≤ 300 := by omega
  rw [hi]
  exact (fin_end h).2.2
theorem view_at {R : List PatP} {N i : Nat} {xs : List (List Nat)} {x : List Nat} (hx : xs ++ [x] <+: (finD R N).1) (hi : xs.length = i) (hi3 : i ≤ 300) (hle : i ≤ (runD R N (i * (N + 1))).1.length) : (runD R N (i * (N + 1))).1[i]? = some x ∧ i < (runD R N (i * (N + 1))).1.length := by
  have hx1 : xs <+: (finD R N).1 := (List.prefix_append _ _).trans hx
  have hT : (finD R N).1[i]? = some x := by
    refine prefix_get hx ?_
    rw [List.getElem?_append_right (by omega), hi, Nat.sub_self]
    rfl
  rcases view_run hx1 hi hi3 hle with ⟨h1, h2⟩ | ⟨h1, h2⟩
  · have := (List.getElem?_eq_some_iff.1 hT).1
    rw [← h2] at this
    omega
  · refine ⟨?_, h1⟩
    obtain ⟨y, hy⟩ : ∃ y, (runD R N (i * (N + 1))).1[i]? = some y := ⟨_, List.getElem?_eq_getElem h1⟩
    rw [prefix_get h2 hy] at hT
    rw [hy, hT]
structure BldQ (w0 Ws : World) (G M N : Nat) (ru nx : Value) (Y0 : Nat → Prop) (gb eb : Nat) (b : BldS) (X : Nat → Prop) (W : World) : Prop where
  bi : BldI w0 G M N ru nx b (fun k => Y0 k ∨ k = gb ∨ k = eb ∨ X k) W
  box : Boxed W gb 122 (.pointer (some ⟨G, 0, none⟩))
  ev : W.heap[eb]? = some (.cells #[.pointer (some ⟨G, 4, none⟩)] 159 (0, 0))
  nX : ¬ X gb ∧ ¬ X eb
  hX : ∀ k, X k → Ws.heap.size ≤ k
  y0 : (∀ k, Y0 k → k < Ws.heap.size) ∧ Ws.heap.size ≤ gb ∧ Ws.heap.size ≤ eb
  mv : Moves (fun k => ¬ Y0 k) Ws W
theorem BldQ.moves {w0 Ws A B : World} {G M N gb eb : Nat} {ru nx : Value} {Y0 X X' : Nat → Prop} {b : BldS} (h : BldQ w0 Ws G M N ru nx Y0 gb eb b X A) (hm : Moves X A B) (hX' : ∀ k, X' k → (X k ∨ A.heap.size ≤ k) ∧ k < B.heap.size) : BldQ w0 Ws G M N ru nx Y0 gb eb b X' B := by
  have lg := (Array.getElem?_eq_some_iff.1 (show A.heap[gb]? = _ from h.box)).1
  have le := (Array.getElem?_eq_some_iff.1 h.ev).1
  have hz := hm.size
  have hs := h.mv.size
  refine ⟨h.bi.moves hm (fun k hk => .inr (.inr (.inr hk))) (fun k hk => ?_), row_keep h.box hm h.nX.1, row_keep h.ev hm h.nX.2, ⟨fun hk => ?_, fun hk => ?_⟩, fun k hk => ?_, h.y0, h.mv.trans (hm.mono fun k hk hy => ?_)⟩
  · rcases hk with hk | hk | hk | hk
    · exact ⟨.inl (.inl hk), by have := h.y0.1 k hk; omega⟩
    · exact ⟨.inl (.inr (.inl hk)), by omega⟩
    · exact ⟨.inl (.inr (.inr (.inl hk))), by omega⟩
    · refine ⟨?_, (hX' k hk).2⟩
      rcases (hX' k hk).1 with h5 | h5
      · exact .inl (.inr (.inr (.inr h5)))
      · exact .inr h5
  · rcases (hX' _ hk).1 with h5 | h5
    · exact h.nX.1 h5
    · omega
  · rcases (hX' _ hk).1 with h5 | h5
    · exact h.nX.2 h5
    · omega
  · rcases (hX' k hk).1 with h5 | h5
    · exact h.hX k h5
    · omega
  · have := h.y0.1 k hy
    have := h.hX k hk
    omega
theorem BldQ.step {w0 Ws A B : World} {G M N gb eb : Nat} {ru nx : Value} {Y0 X : Nat → Prop} {b b' : BldS} (h : BldQ w0 Ws G M N ru nx Y0 gb eb b X A) (hi : BldI w0 G M N ru nx b' (fun k => Y0 k ∨ k = gb ∨ k = eb ∨ X k) B) (hm : Moves (fun k => ¬ (Y0 k ∨ k = gb ∨ k = eb ∨ X k)) A B) : BldQ w0 Ws G M N ru nx Y0 gb eb b' X B :=
  ⟨hi, row_keep h.box hm (fun hn => hn (.inr (.inl rfl))), row_keep h.ev hm (fun hn => hn (.inr (.inr (.inl rfl)))), h.nX, h.hX, h.y0, h.mv.trans (hm.mono fun _ hk hy => hk (.inl hy))⟩
theorem BldQ.below {w0 Ws A B : World} {G M N gb eb : Nat} {ru nx : Value} {Y0 X : Nat → Prop} {b : BldS} (h : BldQ w0 Ws G M N ru nx Y0 gb eb b X A) (hb : Below A.heap.size A B) : BldQ w0 Ws G M N ru nx Y0 gb eb b X B :=
  h.moves (Moves.of_below hb) (fun k hk => ⟨.inl hk, by have := h.bi.ltY k (.inr (.inr (.inr hk))); have := hb.size; omega⟩)
structure BldP (w0 Ws : World) (R : List PatP) (G M N : Nat) (ru nx : Value) (Y0 : Nat → Prop) (gb eb : Nat) (X : Nat → Prop) (pre : List (List Nat)) (b : BldS) (W : World) : Prop where
  q : BldQ w0 Ws G M N ru nx Y0 gb eb b X W
  a : b.A = (runD R N (pre.length * (N + 1))).1
  w : b.wl = (runD R N (pre.length * (N + 1))).2
  f : b.fl = pre.map (doneD R)
  le : b.A.length ≤ 300
  ge : pre.length ≤ b.A.length
  px : pre <+: (finD R N).1
def BldX (w0 Ws : World) (R : List PatP) (G M N : Nat) (ru nx : Value) (Y0 : Nat → Prop) (gb eb : Nat) (X : Nat → Prop) (W : World) : Prop := ∃ b, BldQ w0 Ws G M N ru nx Y0 gb eb b X W ∧ 300 < b.A.length ∧ 300 < (finD R N).1.length
theorem BldP.view {w0 Ws W : World} {l : List RulX} {G M N gb eb : Nat} {ru nx : Value} {Y0 X : Nat → Prop} {pre : List (List Nat)} {b : BldS} (h : BldP w0 Ws (l.map leftX) G M N ru nx Y0 gb eb X pre b W) (hr : rightsL l) (hl : l.length ≤ 40) : ViewD G (finD (l.map leftX) N).1 pre W := by
  have h1 := h.le
  have h2 := h.ge
  refine h.q.bi.met.view (by omega) (fun T hT => ?_) ?_
  · rw [h.a] at hT
    rw [(know_run hr N _ T hT).1]
    exact hl
  · rw [h.a]
    rw [h.a] at h2
    exact view_run h.px rfl (by rw [h.a] at h1; omega) h2
structure BldL (w0 Ws W4 : World) (R : List PatP) (G M N : Nat) (ru nx : Value) (Y0 : Nat → Prop) (gb eb : Nat) (X : Nat → Prop) (fl : List Nat) (q : Nat) (b : BldS) (W : World) : Prop where
  bq : BldQ w0 Ws G M N ru nx Y0 gb eb b X W
  a : b.A = (runD R N q).1
  w : b.wl = (runD R N q).2
  f : b.fl = fl
  mv : Moves (fun k => ¬ (Y0 k ∨ k = gb ∨ k = eb ∨ X k)) W4 W
theorem run_ways_le (R : List PatP) (n : Nat) : ∀ q, (runD R n q).2.length ≤ q
  | 0 => by simp [runD]
  | q + 1 => by
    have ih := run_ways_le R n q
    by_cases h : liveD R n q
    · obtain ⟨S, hS⟩ : ∃ S, (runD R n q).1[q / (n + 1)]? = some S := ⟨_, List.getElem?_eq_getElem h⟩
      rw [run_next hS]
      simp only [List.length_append, List.length_singleton]
      omega
    · rw [run_halt h]
      omega
theorem BldL.way {w0 Ws W4 W : World} {l : List RulX} {G M N gb eb q : Nat} {ru nx : Value} {Y0 X : Nat → Prop} {fl : List Nat} {b : BldS} (h : BldL w0 Ws W4 (l.map leftX) G M N ru nx Y0 gb eb X fl q b W) (hr : rightsL l) (hl : l.length ≤ 40) (hq : q ≤ 99999) {S : List Nat} (hS : (runD (l.map leftX) N q).1[q / (N + 1)]? = some S) :
    Calls Tryd.prog 77 #[.pointer (some ⟨G, 4, none⟩), setsV (padD (stepD (l.map leftX) S ((q % (N + 1) : Nat) : Int)))] W fun e W3 => ∃ i, e = .returned (.int .i64 (i : Nat)) ∧ Boxed W3 gb 122 (.pointer (some ⟨G, 0, none⟩)) ∧ W3.cell? ⟨G, 6, none⟩ = some b.wv ∧ G < W3.heap.size ∧ gb < W3.heap.size ∧
      ∃ g cap w6, (appSem #[26, 26] 26 #[b.wv, .slice (some ⟨W3.heap.size, 0, none⟩) 1 1]).run Tryd.prog (W3.alloc (.cells #[.int .i64 ((i : Nat) : Int)] 3)) = .ok (.slice (some ⟨g, 0, none⟩) (b.wl.length + 1) cap) w6 ∧
        Boxed w6 gb 122 (.pointer (some ⟨G, 0, none⟩)) ∧ w6.cell? ⟨G, 6, none⟩ = some b.wv ∧ w6.frozen? ⟨G, 6, none⟩ = false ∧ G < w6.heap.size ∧ ∃ w7, w6.setCell ⟨G, 6, none⟩ (.slice (some ⟨g, 0, none⟩) (b.wl.length + 1) cap) = w7 ∧
        ∃ b7, BldL w0 Ws W4 (l.map leftX) G M N ru nx Y0 gb eb X fl (q + 1) b7 w7 := by
  obtain ⟨A, ao, ac, fl', fo, fc, wl, wo, wc⟩ := b
  obtain ⟨h1, h2, h3, h4, h5⟩ := h
  simp only at h2 h3 h4
  subst h2
  subst h3
  subst h4
  refine (number_runD hr hl N q hq hS _ G M ac nx _ ru _ ((N : Nat) : Int) ao W h1.bi.met).mono ?_
  rintro e W3 ⟨i, hi, hN⟩
  obtain ⟨he, ao', ac', hB, hm⟩ := h1.bi.num hN
  obtain ⟨g, cap, w6, k1, k2, k3, k4, k5, k6, k7⟩ := hB.way i (by have := run_ways_le (l.map leftX) N q; show (runD (l.map leftX) N q).2.length ≤ _; omega)
  have hm7 := hm.trans k6
  have hbx := row_keep h1.box hm (fun hn => hn (.inr (.inl rfl)))
  refine ⟨i, he, hbx, (bldD_cells hB.rowG).2.2.2.2.2.2, hB.lts.1, (Array.getElem?_eq_some_iff.1 hbx).1, g, cap, w6, k1, row_keep h1.box (hm.trans k5) (fun hn => hn (.inr (.inl rfl))), k2, k3, k4, _, rfl, _, ⟨h1.step k7 hm7, rfl, hi.symm, rfl, h5.trans hm7⟩⟩
theorem BldL.fit {w0 Ws W4 W : World} {R : List PatP} {G M N gb eb q : Nat} {ru nx : Value} {Y0 X : Nat → Prop} {fl : List Nat} {b : BldS} (h : BldL w0 Ws W4 R G M N ru nx Y0 gb eb X fl q b W) (i : Nat) (hl : fl.length ≤ 2000000) :
    ∃ g cap w6, (appSem #[23, 23] 23 #[b.fv, .slice (some ⟨W.heap.size, 0, none⟩) 1 1]).run Tryd.prog (W.alloc (.cells #[.int .i64 ((i : Nat) : Int)] 2)) = .ok (.slice (some ⟨g, 0, none⟩) (b.fl.length + 1) cap) w6 ∧
      w6.cell? ⟨G, 1, none⟩ = some b.fv ∧ w6.frozen? ⟨G, 1, none⟩ = false ∧ G < w6.heap.size ∧ Moves (fun k => ¬ (Y0 k ∨ k = gb ∨ k = eb ∨ X k)) W w6 ∧ ∃ w7, w6.setCell ⟨G, 1, none⟩ (.slice (some ⟨g, 0, none⟩) (b.fl.length + 1) cap) = w7 ∧
      ∃ b7, BldL w0 Ws W4 R G M N ru nx Y0 gb eb X (fl ++ [i]) q b7 w7 := by
  obtain ⟨h1, h2, h3, h4, h5⟩ := h
  obtain ⟨g, cap, w6, k1, k2, k3, k4, k5, k6, k7⟩ := h1.bi.fit i (by rw [h4]; exact hl)
  exact ⟨g, cap, w6, k1, k2, k3, k4, k5, _, rfl, _, ⟨h1.step k7 k6, h2, h3, by show b.fl ++ [i] = _; rw [h4], h5.trans k6⟩⟩
theorem BldL.below {w0 Ws W4 A B : World} {R : List PatP} {G M N gb eb q : Nat} {ru nx : Value} {Y0 X : Nat → Prop} {fl : List Nat} {b : BldS} (h : BldL w0 Ws W4 R G M N ru nx Y0 gb eb X fl q b A) (hb : Below A.heap.size A B) : BldL w0 Ws W4 R G M N ru nx Y0 gb eb X fl q b B :=
  ⟨h.bq.below hb, h.a, h.w, h.f, h.mv.trans (Moves.of_below hb)⟩
def BuildR (w0 Ws : World) (R : List PatP) (G M N : Nat) (ru nx : Value) (Y0 : Nat → Prop) (e : Ending) (w' : World) : Prop :=
  ∃ b, e = .returned (.bool (decide ((finD R N).1.length ≤ 300))) ∧ BldI w0 G M N ru nx b Y0 w' ∧ Moves (fun k => ¬ Y0 k) Ws w' ∧ ((finD R N).1.length ≤ 300 → b.A = (finD R N).1 ∧ b.wl = (finD R N).2 ∧ b.fl = (finD R N).1.map (doneD R))
end Go.Proofs.YtaoooocalpkhjaaDoor
namespace Go.Proofs.YtaoooocalpkhjaaDoor
open Go.RowKit

theorem lsA {α : Type} {l : List α} {i : Nat} {a : α} : l.toArray.setIfInBounds i a = (l.set i a).toArray := List.setIfInBounds_toArray _ _ _
theorem lsB {α : Type} {a b : α} {l : List α} : (b :: l).set 0 a = a :: l := List.set_cons_zero
theorem lsC {α : Type} {a b : α} {l : List α} {i : Nat} : (b :: l).set (i + 1) a = b :: l.set i a := List.set_cons_succ
theorem wpT {P : Program} {md : Region.Mode} {ops : Array Oper} {Q : Exit → Act → World → Prop} {S : World → Prop} {i : Nat} {oi : Oper} {v : Value} {fuel : Nat} {listed : Array Bool} {a : Act} {w : World} (hi : ops[i]? = some oi) (hy : YieldsIf P ops S oi v a) (hS : S w)
    (h : wpAnyH P md ops Q S fuel (listed.setIfInBounds i true) (a.put oi.dst v) w) (hs : Region.noSelect ops = true := by kernel_rfl) (hf : Region.free md ops listed i = true := by kernel_rfl) (hr : (Region.ready md ops listed).contains i = true := by kernel_rfl)
    (hQ : ∀ c a w, Q (.panic c) (a.put oi.dst v) w → Q (.panic c) a w := by exact fun _ _ _ h => h) : wpAnyH P md ops Q S (fuel + 1) listed a w :=
  wpAnyH_take hi hs hf hr hQ hy hS h
end Go.Proofs.YtaoooocalpkhjaaDoor
