/- lay: the tight map of maps. sorted: ranges, put at their places one by one. Right, Find and Sort of package span. count: of how many numbers a map says something. Of how many numbers a map says something, counted place by place. Plain laws of ranges: sorted in whatever order, what is said of a number. -/
import Derived.Test.YtlmkefmfhdjmmaaDoorBunN7
import Derived.Test.YtlmkefmfhdjmmaaDoorBunN5
import Derived.Test.YtlmkefmfhdjmmaaDoorBunN3
namespace Go.Proofs.YtlmkefmfhdjmmaaDoor
open Go.RowKit Go.Shelf Go.Maps
attribute [local go_sem] Oper.semAt_some
attribute [local go_sem ↓] app_hide

section
variable {P : Program} (w : World) (a : Addr) (m : Mode)
@[go_sem] theorem run_store_func (f : Fn) (r c : Array Value) : (store a (.func f r c) m).run P w = stored P w a (.func f r c) m := run_store P w a _ m rfl
end
theorem lay_next {ls : List (List Rng)} {m : List Rng} {j : Nat} {x y : Int} (h : LayUpto ls m ((placesL (turnsL ls)).getD j 0)) (hls : ∀ a ∈ ls, ∀ x ∈ a, okR x) (hx : (placesL (turnsL ls))[j]? = some x) (hy : (placesL (turnsL ls))[j + 1]? = some y) :
    LayUpto ls (layStep ls x y m) ((placesL (turnsL ls)).getD (j + 1) 0) := by
  have hr := places_rise (turnsL ls)
  obtain ⟨l1, e1⟩ := List.getElem?_eq_some_iff.1 hx
  obtain ⟨l2, e2⟩ := List.getElem?_eq_some_iff.1 hy
  have hxy := List.pairwise_iff_getElem.1 hr j (j + 1) l1 l2 (by omega)
  rw [e1, e2] at hxy
  rw [show (placesL (turnsL ls)).getD j 0 = x from by simp [List.getD, hx]] at h
  rw [show (placesL (turnsL ls)).getD (j + 1) 0 = y from by simp [List.getD, hy]]
  refine h.step hls hxy fun t ht hh => ?_
  obtain ⟨i, hi⟩ := List.mem_iff_getElem?.1 ((places_mem _ t).2 ht)
  obtain ⟨l3, e3⟩ := List.getElem?_eq_some_iff.1 hi
  rcases Nat.lt_or_ge i j with h1 | h1
  · have := List.pairwise_iff_getElem.1 hr i j l3 l1 h1
    rw [e1, e3] at this
    omega
  · rcases Nat.lt_or_ge (j + 1) i with h2 | h2
    · have := List.pairwise_iff_getElem.1 hr (j + 1) i l2 l3 h2
      rw [e2, e3] at this
      omega
    · rcases (by omega : i = j ∨ i = j + 1) with rfl | rfl
      · rw [hx] at hi; cases hi; omega
      · rw [hy] at hi; cases hi; omega
theorem lay_first (ls : List (List Rng)) : LayUpto ls [] ((placesL (turnsL ls)).getD 0 0) := by
  refine LayUpto.none fun t ht => ?_
  obtain ⟨i, hi⟩ := List.mem_iff_getElem?.1 ((places_mem _ t).2 ht)
  obtain ⟨l3, e3⟩ := List.getElem?_eq_some_iff.1 hi
  obtain ⟨x, hx⟩ : ∃ x, (placesL (turnsL ls))[0]? = some x := ⟨_, List.getElem?_eq_getElem (by omega)⟩
  obtain ⟨l1, e1⟩ := List.getElem?_eq_some_iff.1 hx
  rw [show (placesL (turnsL ls)).getD 0 0 = x from by simp [List.getD, hx]]
  rcases Nat.eq_zero_or_pos i with rfl | h1
  · rw [hx] at hi; cases hi; omega
  · have := List.pairwise_iff_getElem.1 (places_rise (turnsL ls)) 0 i l1 l3 h1
    rw [e1, e3] at this
    omega
theorem lay_last {ls : List (List Rng)} {m : List Rng} (h : LayUpto ls m ((placesL (turnsL ls)).getD ((placesL (turnsL ls)).length - 1) 0)) : isLay ls m := by
  refine h.all fun t ht => ?_
  obtain ⟨i, hi⟩ := List.mem_iff_getElem?.1 ((places_mem _ t).2 ht)
  obtain ⟨l3, e3⟩ := List.getElem?_eq_some_iff.1 hi
  obtain ⟨x, hx⟩ : ∃ x, (placesL (turnsL ls))[(placesL (turnsL ls)).length - 1]? = some x := ⟨_, List.getElem?_eq_getElem (by omega)⟩
  obtain ⟨l1, e1⟩ := List.getElem?_eq_some_iff.1 hx
  rw [show (placesL (turnsL ls)).getD ((placesL (turnsL ls)).length - 1) 0 = x from by simp [List.getD, hx]]
  rcases Nat.lt_or_ge i ((placesL (turnsL ls)).length - 1) with h1 | h1
  · have := List.pairwise_iff_getElem.1 (places_rise (turnsL ls)) i _ l3 l1 h1
    rw [e1, e3] at this
    omega
  · obtain rfl : i = (placesL (turnsL ls)).length - 1 := by omega
    rw [hx] at hi; cases hi; omega
theorem str_at {ps : List Int} {i : Nat} {z : Int × Int} (h : (strL ps)[i]? = some z) : ∃ y, ps[i]? = some z.1 ∧ ps[i + 1]? = some y ∧ z.2 = y - 1 := by
  have hlt := (List.getElem?_eq_some_iff.1 h).1
  rw [strL_length] at hlt
  obtain ⟨x, hx⟩ : ∃ x, ps[i]? = some x := ⟨_, List.getElem?_eq_getElem (by omega)⟩
  obtain ⟨y, hy⟩ : ∃ y, ps[i + 1]? = some y := ⟨_, List.getElem?_eq_getElem (by omega)⟩
  have := strL_get hx hy
  rw [h] at this
  cases this
  exact ⟨y, hx, hy, rfl⟩
theorem pre_at {α : Type} {l pre : List α} {x : α} (h : pre ++ [x] <+: l) : l[pre.length]? = some x := by
  obtain ⟨t, ht⟩ := h
  rw [← ht]
  simp
theorem layStep_length (ls : List (List Rng)) (p q : Int) (m : List Rng) : (layStep ls p q m).length ≤ m.length + 1 := by
  unfold layStep
  split
  · exact joinL_length _ _
  · omega
theorem infoLayer : (Tryd.prog.info? 83).map (fun i => (i.zero, i.size, i.bytes)) = some (some (.agg #[.slice none 0 0]), 1, 24) := by kernel_rfl
/-- append of one layer. -/
theorem layer_own {W : World} {base k : Nat} {v : Value} {xs : List Value} {o : Option Addr} {n c : Nat} (ho : W.ownsRow base 83 1 v k xs) (hk : k ≤ 100000) (hbase : base ≤ W.heap.size) {e : Nat} (he : W.heap[e]? = some (layerO o n c)) :
    ∃ g cap w6, (appSem #[81, 81] 81 #[v, .slice (some ⟨e, 0, none⟩) 1 1]).run Tryd.prog W = .ok (.slice (some ⟨g, 0, none⟩) (k + 1) cap) w6 ∧
      w6.ownsRow base 83 1 (.slice (some ⟨g, 0, none⟩) (k + 1) cap) (k + 1) (xs ++ [.slice o n c]) ∧ W.grownBy w6 v.ownBlock := by
  obtain ⟨i0, hi, hz0, hz1, hz2⟩ := info_parts infoLayer
  have c0 : W.cell? ⟨e, 0, none⟩ = some (.slice o n c) := by rw [cell_of_row _ _ 0 _ _ _ he]; rfl
  obtain ⟨v', w6, hr, h2, h3, h4, h5⟩ := run_append_own_at (P := Tryd.prog) W base 81 81 83 i0 (.agg #[.slice none 0 0]) 1 24 Tryd.underlying81 hi hz0 hz1 hz2 rfl (by decide) v k xs ho ⟨e, 0, none⟩ 1 1 [.slice o n c] rfl
    (fun j u hj => by
      match j, hj with
      | 0, hj => cases hj; exact c0) (fun u hu => by rw [List.mem_singleton.1 hu]; rfl) (by unfold maxLen; omega) (by omega) hbase
  obtain ⟨g, cap, rfl⟩ := ownsRow_succ h2
  exact ⟨g, cap, w6, hr, h2, h3⟩
theorem own_geN {w : World} {base k : Nat} {e : TypeId} {size : Nat} {v : Value} {n : Nat} {xs : List Value} (h : w.ownsRow base e size v n xs) (hk : v.ownBlock = some k) : base ≤ k ∧ k < w.heap.size := by
  rcases h.2 with ⟨rfl, _⟩ | ⟨g, cap, cur, rfl, hb, hh, _⟩
  · simp [Value.ownBlock] at hk
  · obtain rfl : g = k := by simpa [Value.ownBlock] using hk
    exact ⟨hb, (Array.getElem?_eq_some_iff.1 hh).1⟩
theorem Moves.far {S X : Nat → Prop} {w A B : World} (h : Moves S w A) (hm : Moves X A B) (hX : ∀ k, X k → w.heap.size ≤ k) : Moves S w B :=
  ⟨hm.os.trans h.os, hm.tape.trans h.tape, hm.output.trans h.output, Nat.le_trans h.size hm.size, fun k hk hs => (hm.block k (Nat.lt_of_lt_of_le hk h.size) (fun hx => by have := hX k hx; omega)).trans (h.block k hk hs)⟩
/-- What holds between two rounds. -/
structure LayInv (w8 : World) (mb : Nat) (ls : List (List Rng)) (X : Nat → Prop) (j : Nat) (W : World) (m : List Rng) (o : Option Addr) (cap : Nat) : Prop where
  far : ∀ k, X k → w8.heap.size ≤ k
  kept : Moves (fun k => k = mb) w8 W
  box : Boxed W mb 22 (.slice o m.length cap)
  row : W.ownsRow w8.heap.size 49 3 (.slice o m.length cap) m.length (cellsR m)
  notX : ∀ k, (Value.slice o m.length cap).ownBlock = some k → ¬ X k
  upto : LayUpto ls m ((placesL (turnsL ls)).getD j 0)
  few : m.length ≤ j
theorem LayInv.moves {w8 : World} {mb : Nat} {ls : List (List Rng)} {X X' : Nat → Prop} {j : Nat} {A B : World} {m : List Rng} {o : Option Addr} {cap : Nat} (h : LayInv w8 mb ls X j A m o cap) (hmb : mb < w8.heap.size) (hm : Moves X A B) (hX : ∀ k, X' k → (X k ∨ A.heap.size ≤ k) ∧ k < B.heap.size) : LayInv w8 mb ls X' j B m o cap := by
  have hz := h.kept.size
  refine ⟨fun k hk => ?_, h.kept.far hm h.far, row_keep h.box hm (fun hx => by have := h.far mb hx; omega), own_moves1N h.row hm h.notX, fun k hk hx => ?_, h.upto, h.few⟩
  · rcases (hX k hk).1 with h1 | h1
    · exact h.far k h1
    · omega
  · rcases (hX k hx).1 with h1 | h1
    · exact h.notX k hk h1
    · have := (own_geN h.row hk).2; omega
abbrev tight1 (x : LayX) : LayX := (x.1, x.2.1, x.2.1.length)
theorem listsOf_tight (xs : List LayX) : listsOf (xs.map tight1) = listsOf xs := by unfold listsOf; rw [List.map_map]; rfl
def cellsLay (ls : List LayX) : List Value := ls.map fun x => .slice x.1 x.2.1.length x.2.1.length
def LayPost (xs : List LayX) (w : World) (e : Ending) (w' : World) : Prop :=
  Below w.heap.size w w' ∧ ((¬ (∀ x ∈ xs, rightL x.2.1) ∧ e = .returned (.tuple #[.slice none 0 0, faultV 22 0])) ∨
    ((∀ x ∈ xs, rightL x.2.1) ∧ ∃ o m, isLay (listsOf xs) m ∧ m.length ≤ (turnsL (listsOf xs)).length ∧ e = .returned (.tuple #[.slice o m.length m.length, .nilIface]) ∧ AtR w' o m))
set_option maxRecDepth 100000 in
set_option maxHeartbeats 2000000 in
theorem lay_any (G O cp : Nat) (xs : List LayX) (hk : xs.length ≤ 1000) (hk0 : 0 < xs.length) (hbig : (turnsL (listsOf xs)).length ≤ 600) (w : World)
    (hX : ∀ (j : Nat) (x : LayX), xs[j]? = some x → w.cell? ⟨G, O + j, none⟩ = some (.slice x.1 x.2.1.length x.2.2) ∧ AtR w x.1 x.2.1 ∧ x.2.1.length ≤ x.2.2 ∧ x.2.1.length ≤ 1000) :
    Calls Tryd.prog 39 #[.slice (some ⟨G, O, none⟩) xs.length cp] w (LayPost xs w) := by
  refine (callsIn_wide (n := 6)).1 ?_
  have h1 : 1 ≤ 6 := by omega
  refine callsIn_of_wp_marks Tryd.func39 rfl trivial ?_ rfl
  simp only [Tryd.ntmps39, List.size_toArray, List.length_cons, List.length_nil, Nat.reduceAdd, Nat.reduceSub, Array.replicate_succ, Array.replicate_zero, List.push_toArray, List.append_toArray, List.nil_append, List.cons_append]
  obtain ⟨P, hP⟩ : ∃ P, LayPost xs w = P := ⟨_, rfl⟩
  have HP := Lib.hid hP
  rw [hP]
  obtain ⟨k, hkk⟩ : ∃ k, xs.length = k := ⟨_, rfl⟩
  have HK := Lib.hid hkk
  rw [hkk] at hk hk0 ⊢
  have HX := Lib.hid hX
  have HBIG := Lib.hid hbig
  have hGl : G < w.heap.size := by
    obtain ⟨x, hx⟩ : ∃ x, xs[0]? = some x := ⟨_, List.getElem?_eq_getElem (by rw [hkk]; omega)⟩
    exact World.block_lt_of_cell? w _ (hX 0 x hx).1
  clear hP hkk hX hbig
  gi_wp2_with fail
  refine wpIn_wide.2 (wp_scope_forth 0 rfl ((wpIn_wide (n := 6)).1 ?_))
  gi_wp2_with fail
  obtain ⟨w0, hw0⟩ : ∃ w0, (w.alloc (.cells #[.nilFunc] 69)).alloc (.cells #[.slice none 0 0] 22) = w0 := ⟨_, rfl⟩
  rw [hw0]
  have B0 : Below w.heap.size w w0 := by rw [← hw0]; exact ((Below.refl _ _).alloc (Nat.le_refl _) _).alloc (by simp) _
  have z0 : w0.heap.size = w.heap.size + 2 := by rw [← hw0]; simp
  have F0 : Boxed w0 w.heap.size 69 .nilFunc := by rw [← hw0]; exact (Boxed.new w _ _).alloc _
  have M0 : Boxed w0 (w.heap.size + 1) 22 (.slice none 0 0) := by
    rw [← hw0]; have := Boxed.new (w.alloc (.cells #[.nilFunc] 69)) 22 (.slice none 0 0); rwa [World.size_alloc] at this
  have HB0 := Lib.hid B0
  have HF0 := Lib.hid F0
  have HM0 := Lib.hid M0
  clear hw0 B0 F0 M0
  gi_loopg [4, 7, 17] k (fun m v er i wr => ∃ j : Nat, i = .int .i64 (j : Nat) ∧ j ≤ k ∧ m = k - j ∧ er = .nilIface ∧ Hid (wr.ownsRow w0.heap.size 83 1 v j (cellsLay (xs.take j))) ∧ Hid (∀ x ∈ xs.take j, rightL x.2.1) ∧ Hid (Below w0.heap.size w0 wr))
  case atStart => exact ⟨0, rfl, Nat.zero_le _, rfl, rfl, Lib.hid (World.ownsRow_nil _ _ _ _), Lib.hid (fun x hx => by simp at hx), Lib.hid (Below.refl _ _)⟩
  case round =>
    obtain ⟨j, rfl, hj, rfl, rfl, ho, hr, hb⟩ := hrel
    have Bw : Below w.heap.size w wr := HB0.out.trans (hb.out.mono (by omega))
    have hzw := hb.out.size
    rcases Nat.lt_or_ge j k with hlt | hge
    · obtain ⟨x, hx⟩ : ∃ x, xs[j]? = some x := ⟨_, List.getElem?_eq_getElem (by rw [HK.out]; exact hlt)⟩
      obtain ⟨c0, a0, n0, n1⟩ := HX.out j x hx
      have c1 := cell_keepN Bw c0
      have a1 := a0.below Bw
      have A2 : Below wr.heap.size wr (wr.alloc (layerO none 0 0)) := (Below.refl _ _).alloc (Nat.le_refl _) _
      have hlo := layerOf_any x.1 x.2.1 x.2.2 (by omega) n0 _ (a1.below A2)
      have q2 : (wr.alloc (layerO none 0 0)).heap[wr.heap.size]? = some (layerO none 0 0) := heap_alloc_new _ _
      have o2 := own_below ho.out A2
      have hgw : G < wr.heap.size := by omega
      have hj1 : j < 1000000 := by omega
      have HLO := Lib.hid hlo
      have HA2 := Lib.hid A2
      have HQ2 := Lib.hid q2
      have HO2 := Lib.hid o2
      have HXX := Lib.hid hx
      obtain ⟨o, l, lc⟩ := x
      simp only at c1 HLO
      obtain ⟨n, hnn⟩ : ∃ n, l.length = n := ⟨_, rfl⟩
      rw [hnn] at c1 HLO
      have HNN := Lib.hid hnn
      clear c0 a0 n0 n1 a1 A2 hlo q2 o2 hx hnn
      gi_wp2_with fail
      refine ⟨trivial, (callsIn_wide.2 HLO.out).mono ?_⟩
      rintro e w3 ⟨rfl, b3⟩
      have q3 := row_below HQ2.out b3
      have o3 := own_below HO2.out b3
      have B3 : Below w0.heap.size w0 w3 := hb.out.trans ((HA2.out.trans (b3.mono (by simp))).mono hzw)
      have d3 : w3.cell? ⟨wr.heap.size, 0, none⟩ = some (.slice none 0 0) := by rw [cell_of_row _ _ 0 _ _ _ q3]; rfl
      have f3 : w3.frozen? ⟨wr.heap.size, 0, none⟩ = false := frozen_of_row _ _ _ _ _ q3
      have lt3 := (Array.getElem?_eq_some_iff.1 q3).1
      have HB3 := Lib.hid B3
      have HO3 := Lib.hid o3
      have HQ3 := Lib.hid q3
      clear q3 o3 B3 b3 HLO HA2 HQ2 HO2
      by_cases hri : rightL l
      · rw [show layerR o l = .tuple #[.agg #[.slice o n n], .nilIface] from by unfold layerR; rw [if_pos hri, HNN.out]]
        obtain ⟨w4, hw4⟩ : ∃ w4, w3.setCell ⟨wr.heap.size, 0, none⟩ (.slice o n n) = w4 := ⟨_, rfl⟩
        have m4 : Moves (fun k => k = wr.heap.size) w3 w4 := by rw [← hw4]; exact Moves.setCell rfl
        have q4 : w4.heap[wr.heap.size]? = some (layerO o n n) := by rw [← hw4, heap_setCell_same _ _ 0 _ _ _ HQ3.out]; rfl
        have b4 : Below wr.heap.size w3 w4 := by rw [← hw4]; exact (Below.refl _ _).setCell (p := ⟨wr.heap.size, 0, none⟩) (Nat.le_refl _) _
        have o4 : w4.ownsRow w0.heap.size 83 1 u4 j (cellsLay (xs.take j)) := own_moves1N HO3.out m4 (fun k hk e => by
          have h1 := ho.out
          rcases h1.2 with ⟨h, _⟩ | ⟨g', cap', cur, h, _, hh, _⟩
          · rw [h] at hk; simp [Value.ownBlock] at hk
          · rw [h] at hk
            obtain rfl : g' = k := by simpa [Value.ownBlock] using hk
            have := (Array.getElem?_eq_some_iff.1 hh).1
            omega)
        have A5 : Below w4.heap.size w4 (w4.alloc (layerO o n n)) := (Below.refl _ _).alloc (Nat.le_refl _) _
        have z4 : w4.heap.size = w3.heap.size := by rw [← hw4]; simp
        obtain ⟨g6, cap6, w6, hr6, own6, gr6⟩ := layer_own (own_below o4 A5) (by omega) (by have := A5.size; omega) (e := w4.heap.size) (heap_alloc_new w4 (layerO o n n))
        have b6 : Below w0.heap.size w0 w6 := by
          have hb4 : Below w0.heap.size w0 w4 := HB3.out.trans (b4.mono hzw)
          have h5 : Below w0.heap.size w0 (w4.alloc (layerO o n n)) := hb4.trans (A5.mono hb4.size)
          exact h5.grown gr6 h5.size (fun k e => (own_geN (own_below o4 A5) e).1)
        have hcl : cellsLay (xs.take j) ++ [.slice o n n] = cellsLay (xs.take (j + 1)) := by
          unfold cellsLay
          rw [List.take_add_one, HXX.out, List.map_append]
          simp [HNN.out]
        rw [hcl] at own6
        have hrj : ∀ x ∈ xs.take (j + 1), rightL x.2.1 := by
          rw [List.take_add_one, HXX.out]
          intro x hx
          rcases List.mem_append.1 hx with h | h
          · exact hr.out x h
          · rw [show x = (o, l, lc) from by simpa using h]; exact hri
        obtain ⟨ov, cv, rfl⟩ := own_form ho.out
        rw [z4, ← hw4] at hr6
        have OWN6 := Lib.hid own6
        have B6 := Lib.hid b6
        have RJ := Lib.hid hrj
        clear hw4 m4 q4 b4 o4 A5 own6 gr6 b6 hcl hrj hri z4 ho hr hb HO3 HB3
        gi_wp2_with fail
        gi_roundg (k - (j + 1))
        case measure => omega
        case rel => exact ⟨j + 1, by simp, by omega, rfl, rfl, OWN6, RJ, B6⟩
      · rw [show layerR o l = .tuple #[.agg #[.slice none 0 0], faultV 22 0] from by unfold layerR; rw [if_neg hri]]
        obtain ⟨w4, hw4⟩ : ∃ w4, w3.setCell ⟨wr.heap.size, 0, none⟩ (.slice none 0 0) = w4 := ⟨_, rfl⟩
        have b4 : Below w.heap.size w w4 := by
          rw [← hw4]
          exact (HB0.out.trans (HB3.out.mono (by omega))).setCell (p := ⟨wr.heap.size, 0, none⟩) (by show w.heap.size ≤ wr.heap.size; omega) _
        have HPP : Hid (P (.returned (.tuple #[.slice none 0 0, faultV 22 0])) w4) := by
          rw [← HP.out]
          exact Lib.hid ⟨b4, .inl ⟨fun h => hri (h _ (List.mem_of_getElem? HXX.out)), rfl⟩⟩
        have HW4 := Lib.hid hw4
        clear hw4 b4 hri
        gi_wp2
        refine wpIn_goto ?_
        simp only [Exit.then, Exit.inBlock]
        show Exit.jump _ _ _ _ _ _
        simp only [Exit.jump, true_and]
        go_wp2
        rw [Exit.noGoto_ret, HW4.out]
        exact ⟨_, results_tmp2 (t := 2) (u := 3) rfl _ _ _, HPP.out⟩
    · obtain rfl : j = k := by omega
      have hall : xs.take j = xs := List.take_of_length_le (by rw [HK.out]; exact Nat.le_refl _)
      rw [hall] at ho hr
      obtain ⟨g, cp2, rfl, hcells⟩ : ∃ g cp2, u4 = .slice (some ⟨g, 0, none⟩) j cp2 ∧ ∀ (i : Nat) (v : Value), (cellsLay xs)[i]? = some v → wr.cell? ⟨g, i, none⟩ = some v := by
        rcases ho.out.2 with ⟨_, h0⟩ | ⟨g, cap', cur, hv, _, hg, _, _, _, htake⟩
        · omega
        · refine ⟨g, cap', hv, fun i v hi => ?_⟩
          rw [cell_of_row _ _ i _ _ _ hg]
          rw [← htake, List.getElem?_take] at hi
          split at hi
          · rwa [Array.getElem?_toList] at hi
          · cases hi
      have hgl : w0.heap.size ≤ g ∧ g < wr.heap.size := own_geN ho.out (by rfl)
      obtain ⟨w6, hw6⟩ : ∃ w6, (wr.setCell ⟨w.heap.size, 0, none⟩ (.func (.func 65) #[] #[.pointer (some ⟨wr.heap.size, 0, none⟩)])).alloc (.cells #[.slice (some ⟨g, 0, none⟩) j cp2] 81) = w6 := ⟨_, rfl⟩
      have F4 : Boxed wr w.heap.size 69 .nilFunc := row_below HF0.out hb.out
      have F5 : Boxed (wr.alloc (.cells #[.slice (some ⟨g, 0, none⟩) j cp2] 81)) w.heap.size 69 .nilFunc := F4.alloc _
      have c5 := F5.cell
      have f5 := F5.frozen
      have F6 : Boxed w6 w.heap.size 69 (.func (.func 65) #[] #[.pointer (some ⟨wr.heap.size, 0, none⟩)]) := by rw [← hw6]; exact (F4.set _).alloc _
      have m6 : Moves (fun k => k = w.heap.size) wr w6 := by rw [← hw6]; exact (Moves.setCell (S := fun k => k = w.heap.size) rfl).trans ((Moves.of_below ((Below.refl _ _).alloc (Nat.le_refl _) _)))
      have B6 : w6.heap[wr.heap.size]? = some (.cells #[.slice (some ⟨g, 0, none⟩) j cp2] 81 (0, 0)) := by
        rw [← hw6]
        have := heap_alloc_new (wr.setCell ⟨w.heap.size, 0, none⟩ (.func (.func 65) #[] #[.pointer (some ⟨wr.heap.size, 0, none⟩)])) (.cells #[.slice (some ⟨g, 0, none⟩) j cp2] 81)
        simpa using this
      have M6 : Boxed w6 (w.heap.size + 1) 22 (.slice none 0 0) := row_keep (row_below HM0.out hb.out) m6 (by omega)
      have z6 : w6.heap.size = wr.heap.size + 1 := by rw [← hw6]; simp
      have b6 : Below w.heap.size w w6 := Moves.below Bw Bw.size m6 (fun k h => by omega)
      have L6 : LaysAt w6 g 0 (xs.map tight1) := fun i x hx => by
        rw [List.getElem?_map] at hx
        cases hxi : xs[i]? with
        | none => rw [hxi] at hx; cases hx
        | some y =>
          rw [hxi] at hx
          cases hx
          obtain ⟨_, a0, _, n1⟩ := HX.out i y hxi
          refine ⟨?_, a0.below b6, (hr.out y (List.mem_of_getElem? hxi)).1, n1⟩
          rw [Nat.zero_add]
          refine cell_moves m6 (by show ¬ g = w.heap.size; omega) (hcells i _ ?_)
          unfold cellsLay
          rw [List.getElem?_map, hxi]
          rfl
      have hll : (xs.map tight1).length = j := by rw [List.length_map, HK.out]
      have htu := turns_any g 0 cp2 (xs.map tight1) (by rw [listsOf_tight]; have := HBIG.out; omega) (by rw [hll]; exact hk) w6 L6
      rw [hll, listsOf_tight] at htu
      have HTU := Lib.hid htu
      have HW6 := Lib.hid hw6
      have HF6 := Lib.hid F6
      have HB6 := Lib.hid B6
      have HM6 := Lib.hid M6
      have HL6 := Lib.hid L6
      have HBW6 := Lib.hid b6
      have HRR := Lib.hid hr.out
      have hdec : ¬ ((j : Nat) : Int) < (j : Nat) := by omega
      have hwl : w.heap.size < wr.heap.size := by omega
      clear hw6 F5 F6 m6 B6 M6 b6 L6 htu hcells hall ho hr
      gi_wp2_with fail
      refine ⟨trivial, (callsIn_wide.2 (laid_any _ j cp2 wr)).mono ?_⟩
      rintro e w5 ⟨rfl, rfl⟩
      gi_wp2_with fail
      rw [HW6.out]
      refine ⟨trivial, (callsIn_wide.2 HTU.out).mono ?_⟩
      rintro e w7 ⟨b, rfl, hb7, hset, bb7⟩
      gi_wp2_with fail
      refine ⟨trivial, (callsIn_wide.2 (stretches_any (some b) w7)).mono ?_⟩
      rintro e w8 ⟨rfl, hw8⟩
      have bb8 : Below w7.heap.size w7 w8 := by rw [← hw8]; exact (Below.refl _ _).alloc (Nat.le_refl _) _
      have hb8 : w8.heap[w7.heap.size]? = some (.cells #[.map (some b)] 90 (0, 0)) := by rw [← hw8]; exact heap_alloc_new w7 _
      have BB8 : Below w6.heap.size w6 w8 := bb7.trans (bb8.mono bb7.size)
      have hbl := hset.lt
      have S8 : SetOf w8 b (turnsL (listsOf xs)).length (turnsL (listsOf xs)) := hset.row (bb8.block b hbl)
      have HF8 := Lib.hid (show Boxed w8 w.heap.size 69 _ from row_below HF6.out BB8)
      have HB8 := Lib.hid (row_below HB6.out BB8)
      have M8 : Boxed w8 (w.heap.size + 1) 22 (.slice none 0 0) := row_below HM6.out BB8
      have HL8 : Hid (LaysAt w8 g 0 (xs.map tight1)) := Lib.hid fun i x hx => ⟨cell_keepN BB8 (HL6.out i x hx).1, (HL6.out i x hx).2.1.below BB8, (HL6.out i x hx).2.2⟩
      have HBW8 := Lib.hid (HBW6.out.trans (BB8.mono HBW6.out.size))
      have hz8 : wr.heap.size + 1 ≤ w8.heap.size := by have := BB8.size; omega
      have hT2 : ∀ x ∈ turnsL (listsOf xs), 0 ≤ x ∧ x ≤ 1114112 := fun t ht => by
        obtain ⟨a, ha, h2⟩ := List.mem_flatMap.1 ht
        obtain ⟨x, hx, h3⟩ := List.mem_flatMap.1 h2
        obtain ⟨y, hy, rfl⟩ := List.mem_map.1 ha
        have hok := (HRR.out y hy).1.1 x hx
        unfold okR at hok
        simp only [List.mem_cons, List.not_mem_nil, or_false] at h3
        omega
      have hseq := seqStretch (by have := HBIG.out; omega) (by have := HBIG.out; omega) hT2 hb8 S8
      have HSEQ := Lib.hid hseq
      have hls : ∀ a ∈ listsOf xs, ∀ x ∈ a, okR x := fun a ha x hx => by
        obtain ⟨y, hy, rfl⟩ := List.mem_map.1 ha
        exact (HRR.out y hy).1.1 x hx
      have HLS := Lib.hid hls
      have h0I : LayInv w8 (w.heap.size + 1) (listsOf xs) (fun _ => False) 0 w8 [] none 0 :=
        ⟨fun k h => h.elim, Moves.refl _ _, M8, World.ownsRow_nil _ _ _ _, fun k hk => by simp [Value.ownBlock] at hk, lay_first _, Nat.le_refl _⟩
      have H0I := Lib.hid h0I
      clear hw8 bb8 hb8 BB8 hbl S8 M8 hT2 hseq hls h0I hset bb7 HTU HW6 HF6 HB6 HM6 HL6 HBW6
      gi_wp2_with fail
      refine wpIn_seqX (n := 6) (Ow := fun _ => False) (Dep := fun _ => False) (encs := encP) (all := strL (placesL (turnsL (listsOf xs)))) (by omega) rfl (enters_of Tryd.func68 (by kernel_rfl) rfl) (fun x => rfl) HSEQ.out
        (fun k h => h.elim) (fun k h => h.elim)
        (fun X pre W => ∃ m o cap, LayInv w8 (w.heap.size + 1) (listsOf xs) X pre.length W m o cap) (fun c X pre W => False) ?hI ?hIx ?h0
        (fun _ x => { tmps := #[.slice (some ⟨G, O, none⟩) j cp, undef, .slice none 0 0, .nilIface, .slice (some ⟨g, 0, none⟩) j cp2, .pointer (some ⟨w.heap.size, 0, none⟩), .pointer (some ⟨w.heap.size + 1, 0, none⟩), .nilIface, undef, u9, u10, .int .i64 x.1, .int .i64 x.2, undef, undef, .slice (some ⟨G, O, none⟩) j cp, .int .i64 (j : Nat), .int .i64 (j : Nat), .bool false, u19, u20, u21, u22, u23, u24, u25, u26, u27, u28, u29, u30, u31, u32, .slice (some ⟨g, 0, none⟩) j cp2, .func (.func 65) #[] #[.pointer (some ⟨wr.heap.size, 0, none⟩)], .slice (some ⟨g, 0, none⟩) j cp2, .map (some b), .func (.func 68) #[] #[.pointer (some ⟨w7.heap.size, 0, none⟩)], .int .i64 x.1, .int .i64 x.2, undef, undef, undef, undef, undef, undef, undef, undef, undef, undef, undef, undef, undef, undef, undef, undef, undef, undef, undef, undef, undef, undef, undef, undef, undef], defers := [] })
        (fun A x B => A = B) (fun A x B h => by rw [h]; exact Moves.refl _ _) ?assign ?body ?done ?stop
      case hI =>
        rintro X X' xs A B ⟨m, o, c, h⟩ hm hX
        exact ⟨m, o, c, h.moves (by omega) hm hX⟩
      case hIx =>
        rintro c X X' xs A B h
        exact h.elim
      case h0 => exact ⟨[], none, 0, H0I.out⟩
      case assign =>
        rintro l x A K hK
        gi_wp2
        rfl
      case body =>
        rintro lp X pre ⟨p, q⟩ A A' W1 hA1 hpx hAB hm hXn hXn1 hXlt ⟨m, o, cap, hI⟩
        obtain ⟨y, hp1, hp2, hq⟩ := str_at (pre_at hpx)
        simp only at hp1 hq
        have hup := lay_next hI.upto HLS.out hp1 hp2
        have hkept := hI.kept
        have hF1 : Boxed W1 w.heap.size 69 _ := row_keep HF8.out hkept (by omega)
        have cf := hF1.cell
        have hB1 := row_keep HB8.out hkept (by omega)
        have hL1 : LaysAt W1 g 0 (xs.map tight1) := fun i x hx => ⟨cell_moves hkept (by show ¬ g = w.heap.size + 1; omega) (HL8.out i x hx).1, (HL8.out i x hx).2.1.moves hkept (fun h0 k hk e => by
          have hk2 : k < w.heap.size := by
            rw [List.getElem?_map] at hx
            cases hxi : xs[i]? with
            | none => rw [hxi] at hx; cases hx
            | some z =>
              rw [hxi] at hx
              cases hx
              exact (HX.out i z hxi).2.1.lt h0 hk
          omega), (HL8.out i x hx).2.2⟩
        have hzz := hkept.size
        have hla := laid1_any (B := wr.heap.size) (g := g) (off := 0) (cap := cp2) (ls := xs.map tight1) p W1 (by rw [hll]; exact hk) (by rw [hll]; exact hB1) hL1 (by omega)
        rw [listsOf_tight] at hla
        have hXb : ∀ k, X k → k < W1.heap.size := fun k h => by have h1 := hXlt k h; have h2 := hm.size; rw [← hAB] at h2; omega
        have hstep : layStep (listsOf xs) p y m = match saidL (listsOf xs) p with | some v => joinL m (p, y - 1, v) | none => m := rfl
        have hlen := layStep_length (listsOf xs) p y m
        obtain ⟨R, hR⟩ : ∃ R, saidL (listsOf xs) p = R := ⟨_, rfl⟩
        rw [hR] at hla hstep
        have hmb : ∀ z ∈ m, -1000000 ≤ z.2.1 ∧ z.2.1 ≤ 10000000 := fun z hz => by
          have := hI.upto.1.1 z hz
          unfold okR at this
          omega
        have hmn : m.length ≤ 10000 := by
          have h2 := hI.few
          have h3 := (List.getElem?_eq_some_iff.1 hp1).1
          have h4 := places_length (turnsL (listsOf xs))
          have h5 := HBIG.out
          omega
        have HI := Lib.hid hI
        have HLA := Lib.hid hla
        have HXB := Lib.hid hXb
        have HMB := Lib.hid hmb
        have HUP := Lib.hid hup
        have HST := Lib.hid hstep
        have HLN := Lib.hid hlen
        have HQ := Lib.hid hq
        have HPL := Lib.hid (show pre.length + 1 = (pre ++ [(p, q)]).length by simp)
        clear hI hla hXb hmb hup hstep hlen hq hF1 hB1 hL1 hkept hpx hm hXlt hXn hXn1 hAB hA1 hp1 hp2 hR
        gi_wp2_with fail
        refine ⟨trivial, CallsIn.inRound lp ((callsIn_wide.2 HLA.out).mono ?_)⟩
        rintro e W2 ⟨rfl, b2⟩
        have hz2 := b2.size
        have m12 : Moves (fun _ => False) W1 W2 := Moves.of_below b2
        have hbox2 : Boxed W2 (w.heap.size + 1) 22 (.slice o m.length cap) := row_keep HI.out.box m12 id
        have cm := hbox2.cell
        cases R with
        | none =>
          have hst := HST.out
          simp only at hst
          have hup := HUP.out
          rw [hst] at hup
          have HR : Hid (seqEndX (fun _ => False) X (fun X pre W => ∃ m o cap, LayInv w8 (w.heap.size + 1) (listsOf xs) X pre.length W m o cap) (fun c X pre W => False) (pre ++ [(p, q)]) W1 .normal ({ tmps := #[], defers := [] } : Act) W2) := by
            refine Lib.hid ⟨m12.mono (fun k h => h.elim), m, o, cap, HI.out.far, HI.out.kept.trans (m12.mono fun k h => h.elim), hbox2, own_moves1N HI.out.row m12 (fun k _ => id), HI.out.notX, ?_, ?_⟩
            · rw [← HPL.out]; exact hup
            · rw [← HPL.out]; have := HI.out.few; omega
          rw [show ansF none = .tuple #[.int .i64 0, .bool false] from rfl]
          clear hst hup m12 hbox2 b2
          gi_wp2
          exact HR.out
        | some v =>
          have hst := HST.out
          simp only at hst
          have hup := HUP.out
          rw [hst] at hup
          have hln := HLN.out
          rw [hst] at hln
          have row2 := own_moves1N HI.out.row m12 (fun k _ => id)
          have hj := join_any (base := w8.heap.size) (p, y - 1, v) W2 row2 HMB.out hmn (by omega)
          rw [← HQ.out] at hj hup hln
          rw [show ansF (some v) = .tuple #[.int .i64 v, .bool true] from rfl]
          have HJ := Lib.hid hj
          have HB2 := Lib.hid hbox2
          have HM12 := Lib.hid m12
          have HUP2 := Lib.hid hup
          have HLN2 := Lib.hid hln
          have HROW := Lib.hid row2
          obtain ⟨n, hnn⟩ : ∃ n, m.length = n := ⟨_, rfl⟩
          rw [hnn] at cm HJ
          have HNN := Lib.hid hnn
          clear hst hup hln row2 hj hbox2 m12 b2 hnn
          gi_wp2_with fail
          refine ⟨trivial, CallsIn.inRound lp ((callsIn_wide.2 HJ.out).mono ?_)⟩
          rintro e W3 ⟨g3, cap3, rfl, own3, mv3, hat3⟩
          have hne3 : ∀ k, (Value.slice o n cap).ownBlock = some k → w8.heap.size ≤ k := fun k hk => (own_geN HROW.out (by rw [HNN.out]; exact hk)).1
          have hbox3 : Boxed W3 (w.heap.size + 1) 22 (.slice o m.length cap) := row_keep HB2.out mv3 (fun h => by have := hne3 _ h; omega)
          have cm3 : W3.cell? ⟨w.heap.size + 1, 0, none⟩ = some (.slice o n cap) := by rw [← HNN.out]; exact hbox3.cell
          have fm3 : W3.frozen? ⟨w.heap.size + 1, 0, none⟩ = false := hbox3.frozen
          have hg3 : w8.heap.size ≤ g3 := (own_geN own3 (by rfl)).1
          have ms : Moves (fun k => k = w.heap.size + 1) W3 (W3.setCell ⟨w.heap.size + 1, 0, none⟩ (.slice (some ⟨g3, 0, none⟩) (joinL m (p, q, v)).length cap3)) := Moves.setCell rfl
          have HR : Hid (seqEndX (fun _ => False) X (fun X pre W => ∃ m o cap, LayInv w8 (w.heap.size + 1) (listsOf xs) X pre.length W m o cap) (fun c X pre W => False) (pre ++ [(p, q)]) W1 .normal ({ tmps := #[], defers := [] } : Act) (W3.setCell ⟨w.heap.size + 1, 0, none⟩ (.slice (some ⟨g3, 0, none⟩) (joinL m (p, q, v)).length cap3))) := by
            refine Lib.hid ⟨?_, joinL m (p, q, v), some ⟨g3, 0, none⟩, cap3, HI.out.far, ?_, ?_, ?_, ?_, ?_, ?_⟩
            · refine ((HM12.out.mono fun k h => h.elim).trans (mv3.mono fun k hk => ?_)).trans (ms.mono fun k hk => ?_)
              · exact ⟨HI.out.notX k (by rw [HNN.out]; exact hk), id⟩
              · exact ⟨fun h => by have := HI.out.far k h; omega, id⟩
            · exact ((HI.out.kept.trans (HM12.out.mono fun k h => h.elim)).far mv3 hne3).trans ms
            · exact hbox3.set _
            · exact own_moves1N own3 ms (fun k hk e => by
                obtain rfl : g3 = k := by simpa [Value.ownBlock] using hk
                omega)
            · intro k hk
              obtain rfl : g3 = k := by simpa [Value.ownBlock] using hk
              rcases hat3 with h | h
              · exact HI.out.notX _ (by rw [HNN.out]; exact h)
              · intro hx; have := HXB.out _ hx; omega
            · rw [← HPL.out]; exact HUP2.out
            · rw [← HPL.out]; have := HLN2.out; have := HI.out.few; omega
          clear hbox3 own3 mv3 hat3 ms hne3
          gi_wp2
          exact HR.out
      case done =>
        rintro X D W hD hXD ⟨m, o, c, hI⟩ hX hK
        have hps := places_length (turnsL (listsOf xs))
        have hup := hI.upto
        have hfew := hI.few
        rw [strL_length] at hup hfew
        have hlay := lay_last hup
        have hbg := HBIG.out
        have hc := own_cap hI.row
        have hm1 : Moves (fun k => k = D) W (W.putObj D (.deferred none)) := Moves.putObj rfl
        have hat : AtR (W.putObj D (.deferred none)) o m := (at_own hI.row).moves hm1 fun hp k hk e => by
          subst e
          rcases hI.row.2 with ⟨_, h0⟩ | ⟨g', cap', cur, hv, _, hg, _⟩
          · omega
          · obtain ⟨a, ha, hab⟩ := hk
            have he := (Value.slice.inj hv).1
            rw [he] at ha
            cases ha
            rw [← hab] at hK
            rw [hg] at hK
            cases hK
        have hpost : P (.returned (.tuple #[.slice o m.length m.length, .nilIface])) (W.putObj D (.deferred none)) := by
          rw [← HP.out]
          refine ⟨Moves.below HBW8.out HBW8.out.size ((hI.kept.mono (T := fun k => w.heap.size ≤ k) (fun k h => by omega)).trans (hm1.mono fun k h => by omega)) (fun k h => h), .inr ⟨HRR.out, o, m, hlay, by omega, rfl, hat⟩⟩
        have cm : W.cell? ⟨w.heap.size + 1, 0, none⟩ = some (.slice o m.length c) := hI.box.cell
        have HPP := Lib.hid hpost
        have hml : m.length ≤ 600 := by omega
        obtain ⟨n, hnn⟩ : ∃ n, m.length = n := ⟨_, rfl⟩
        rw [hnn] at cm hc hml HPP
        have h600 : ¬ (600 : Int) < ((n : Nat) : Int) := by omega
        clear hpost hI hup hfew hlay hm1 hat hX hnn
        gi_wp2
        simp only [Exit.jump]
        refine ⟨by simp, .inl ⟨_, _, rfl, run_takeDeferred hK, ?_⟩⟩
        exact ⟨_, results_tmp2 (t := 2) (u := 3) rfl _ _ _, HPP.out⟩
      case stop =>
        rintro X D c pre W hD hXD hpre h
        exact h.elim
end Go.Proofs.YtlmkefmfhdjmmaaDoor

namespace Go.Proofs.YtlmkefmfhdjmmaaDoor
open Go.RowKit Go.Shelf Go.Maps
attribute [local go_sem] Oper.semAt_some

theorem put_map {m : List Rng} {x : Rng} (hm : mapL m) (hx : okR x) (hno : ¬ lapL m x) : mapL (putAt m x) ∧ (putAt m x).Perm (x :: m) := by
  have hperm : (putAt m x).Perm (x :: m) := by
    unfold putAt insAt
    have h1 : (m.take (reachL m x.1) ++ [x] ++ m.drop (reachL m x.1)).Perm (x :: (m.take (reachL m x.1) ++ m.drop (reachL m x.1))) := by
      rw [List.append_assoc]
      exact List.perm_middle
    rwa [List.take_append_drop] at h1
  refine ⟨⟨fun y hy => ?_, ?_⟩, hperm⟩
  · rcases List.mem_cons.1 (hperm.mem_iff.1 hy) with rfl | h
    · exact hx
    · exact hm.1 y h
  · have hlow : ∀ y ∈ m.take (reachL m x.1), y.2.1 < x.1 := fun y hy => by
      obtain ⟨i, hi⟩ := List.mem_iff_getElem?.1 hy
      have hlt := (List.getElem?_eq_some_iff.1 hi).1
      rw [List.length_take] at hlt
      rw [List.getElem?_take_of_lt (by omega)] at hi
      exact reach_lt (by omega) hi
    have hup : ∀ y ∈ m.drop (reachL m x.1), x.2.1 < y.1 := fun y hy => by
      obtain ⟨i, hi⟩ := List.mem_iff_getElem?.1 hy
      rw [List.getElem?_drop] at hi
      have hl := (List.getElem?_eq_some_iff.1 hi).1
      obtain ⟨z, hz⟩ : ∃ z, m[reachL m x.1]? = some z := ⟨_, List.getElem?_eq_getElem (by omega)⟩
      have h1 := reach_at hz
      have h2 := ends_asc hm.2 (fun x hx => (hm.1 x hx).2.1) (by omega) hz hi
      have hym := List.mem_of_getElem? hi
      rcases Int.lt_or_le x.2.1 y.1 with h | h
      · exact h
      · exact absurd ⟨y, hym, h, by omega⟩ hno
    unfold putAt insAt
    have hsp := hm.2
    rw [← List.take_append_drop (reachL m x.1) m, List.pairwise_append] at hsp
    refine List.pairwise_append.2 ⟨List.pairwise_append.2 ⟨hsp.1, List.pairwise_singleton _ _, fun a ha b hb => ?_⟩, hsp.2.1, fun a ha b hb => ?_⟩
    · rw [List.mem_singleton.1 hb]; exact hlow a ha
    · rcases List.mem_append.1 ha with h | h
      · exact hsp.2.2 a h b hb
      · rw [List.mem_singleton.1 h]; exact hup b hb
def SortPost (l : List Rng) (w : World) (e : Ending) (w' : World) : Prop :=
  Below w.heap.size w w' ∧ ((∃ i : Nat, chkL l = some i ∧ e = .returned (.tuple #[.slice none 0 0, faultV 22 (i : Nat)])) ∨
    (chkL l = none ∧ ∃ (i : Nat) (x : Rng) (m : List Rng), l[i]? = some x ∧ mapL m ∧ m.Perm (l.take i) ∧ lapL m x ∧ e = .returned (.tuple #[.slice none 0 0, faultV 30 (i : Nat)])) ∨
    (chkL l = none ∧ ∃ (m : List Rng) (o : Option Addr), mapL m ∧ m.Perm l ∧ e = .returned (.tuple #[.slice o m.length m.length, .nilIface]) ∧ AtR w' o m))
/-- What holds between two rounds. -/
structure SortInv (w8 : World) (mb eb : Nat) (l : List Rng) (X : Nat → Prop) (j : Nat) (W : World) (m : List Rng) (o : Option Addr) (cap : Nat) (err : Value) : Prop where
  far : ∀ k, X k → w8.heap.size ≤ k
  kept : Moves (fun k => k = mb ∨ k = eb) w8 W
  box : W.heap[mb]? = some (layerO o m.length cap)
  eb : Boxed W eb 51 err
  row : W.ownsRow w8.heap.size 49 3 (.slice o m.length cap) m.length (cellsR m)
  notX : ∀ k, (Value.slice o m.length cap).ownBlock = some k → ¬ X k
  map : mapL m
  perm : m.Perm (l.take j)
theorem SortInv.moves {w8 : World} {mb eb : Nat} {l : List Rng} {X X' : Nat → Prop} {j : Nat} {A B : World} {m : List Rng} {o : Option Addr} {cap : Nat} {err : Value} (h : SortInv w8 mb eb l X j A m o cap err) (hmb : mb < w8.heap.size) (heb : eb < w8.heap.size) (hm : Moves X A B) (hX : ∀ k, X' k → (X k ∨ A.heap.size ≤ k) ∧ k < B.heap.size) : SortInv w8 mb eb l X' j B m o cap err := by
  have hz := h.kept.size
  refine ⟨fun k hk => ?_, h.kept.far hm h.far, row_keep h.box hm (fun hx => by have := h.far mb hx; omega), row_keep h.eb hm (fun hx => by have := h.far eb hx; omega), own_moves1N h.row hm h.notX, fun k hk hx => ?_, h.map, h.perm⟩
  · rcases (hX k hk).1 with h1 | h1
    · exact h.far k h1
    · omega
  · rcases (hX k hx).1 with h1 | h1
    · exact h.notX k hk h1
    · have := (own_geN h.row hk).2; omega
theorem Moves.far2 {S X : Nat → Prop} {w A B : World} (h : Moves S w A) (hm : Moves X A B) (hX : ∀ k, X k → S k ∨ w.heap.size ≤ k) : Moves S w B :=
  ⟨hm.os.trans h.os, hm.tape.trans h.tape, hm.output.trans h.output, Nat.le_trans h.size hm.size, fun k hk hs => (hm.block k (Nat.lt_of_lt_of_le hk h.size) (fun hx => by rcases hX k hx with h1 | h1; { exact hs h1 }; { omega })).trans (h.block k hk hs)⟩
structure SortBad (w8 : World) (mb eb : Nat) (X : Nat → Prop) (W : World) (i : Nat) : Prop where
  far : ∀ k, X k → w8.heap.size ≤ k
  kept : Moves (fun k => k = mb ∨ k = eb) w8 W
  eb : Boxed W eb 51 (faultV 30 (i : Nat))
theorem SortBad.moves {w8 : World} {mb eb : Nat} {X X' : Nat → Prop} {i : Nat} {A B : World} (h : SortBad w8 mb eb X A i) (heb : eb < w8.heap.size) (hm : Moves X A B) (hX : ∀ k, X' k → (X k ∨ A.heap.size ≤ k) ∧ k < B.heap.size) : SortBad w8 mb eb X' B i := by
  have hz := h.kept.size
  refine ⟨fun k hk => ?_, h.kept.far hm h.far, row_keep h.eb hm (fun hx => by have := h.far eb hx; omega)⟩
  rcases (hX k hk).1 with h1 | h1
  · exact h.far k h1
  · omega
end Go.Proofs.YtlmkefmfhdjmmaaDoor

namespace Go.Proofs.YtlmkefmfhdjmmaaDoor
open Go.RowKit Go.Shelf Go.Maps
attribute [local go_sem] Oper.semAt_some

set_option maxHeartbeats 1000000 in
theorem Right_any (o : Option Addr) (l : List Rng) (cap : Nat) (hn : l.length ≤ 1000000) (hc : l.length ≤ cap) (w : World) (hA : AtR w o l) :
    Calls Tryd.prog 44 #[.slice o l.length cap] w fun e w' => e = .returned (.bool (decide (rightL l))) ∧ Below w.heap.size w w' := by
  have h2 := Lib.hid (fun w1 (b1 : Below w.heap.size w w1) => isMap_any o l l.length hn w1 (hA.below b1))
  have h1 := Lib.hid (chartOf_any o l.length cap hc w)
  obtain ⟨D, hD⟩ : ∃ D, decide (rightL l) = D := ⟨_, rfl⟩
  rw [hD] at h2 ⊢
  obtain ⟨n, hnn⟩ : ∃ n, l.length = n := ⟨_, rfl⟩
  rw [hnn] at h1 h2 ⊢
  clear hD hnn hA
  go_enter Tryd.func44, Tryd.ntmps44
  go_wp2_with fail
  refine h1.out.mono ?_
  rintro e w1 ⟨rfl, b1⟩
  have B1 := Lib.hid b1
  clear b1
  go_wp2_with fail
  refine (h2.out w1 B1.out).mono ?_
  rintro e w2 ⟨rfl, b2⟩
  have B2 := Lib.hid (B1.out.trans (b2.mono B1.out.size))
  clear b2
  go_wp2
  go_ret
  exact ⟨rfl, B2.out⟩
set_option maxHeartbeats 1000000 in
theorem Find_any (o : Option Addr) (l : List Rng) (cap : Nat) (r : Int) (hn : l.length ≤ 1000000) (hc : l.length ≤ cap) (w : World) (hA : AtR w o l) :
    Calls Tryd.prog 26 #[.slice o l.length cap, .int .i64 r] w fun e w' => e = .returned (ansF (findL l r)) ∧ Below w.heap.size w w' := by
  have h2 := Lib.hid (fun w1 (b1 : Below w.heap.size w w1) => find_any o l l.length r hn w1 (hA.below b1))
  have h1 := Lib.hid (chartOf_any o l.length cap hc w)
  obtain ⟨D, hD⟩ : ∃ D, findL l r = D := ⟨_, rfl⟩
  rw [hD] at h2 ⊢
  obtain ⟨n, hnn⟩ : ∃ n, l.length = n := ⟨_, rfl⟩
  rw [hnn] at h1 h2 ⊢
  clear hD hnn hA
  obtain ⟨p, q, hpq⟩ : ∃ p q, ansF D = .tuple #[.int .i64 p, .bool q] := by cases D <;> exact ⟨_, _, rfl⟩
  rw [hpq] at h2 ⊢
  go_enter Tryd.func26, Tryd.ntmps26
  go_wp2_with fail
  refine h1.out.mono ?_
  rintro e w1 ⟨rfl, b1⟩
  have B1 := Lib.hid b1
  clear b1
  go_wp2_with fail
  refine (h2.out w1 B1.out).mono ?_
  rintro e w2 ⟨rfl, b2⟩
  have B2 := Lib.hid (B1.out.trans (b2.mono B1.out.size))
  clear b2
  go_wp2
  go_ret2
  exact ⟨rfl, B2.out⟩
def SortP (l : List Rng) (w : World) (e : Ending) (w' : World) : Prop :=
  Below w.heap.size w w' ∧ ((∃ i : Nat, chkL l = some i ∧ e = .returned (.tuple #[.slice none 0 0, .int .i64 (i : Nat), .int .i64 22])) ∨
    (chkL l = none ∧ ∃ (i : Nat) (x : Rng) (m : List Rng), l[i]? = some x ∧ mapL m ∧ m.Perm (l.take i) ∧ lapL m x ∧ e = .returned (.tuple #[.slice none 0 0, .int .i64 (i : Nat), .int .i64 30])) ∨
    (chkL l = none ∧ ∃ (m : List Rng) (o : Option Addr), mapL m ∧ m.Perm l ∧ e = .returned (.tuple #[.slice o m.length m.length, .int .i64 0, .int .i64 0]) ∧ AtR w' o m))
abbrev ToldSays (ev : Value) (i c : Int) (w : World) : Prop :=
  Calls Tryd.prog 40 #[ev] w fun e w' => e = .returned (.tuple #[.int .i64 i, .int .i64 c]) ∧ Below w.heap.size w w'
theorem sort_told {l : List Rng} {w w1 w2 : World} {e : Ending} (hG : w.cell? ⟨2, 0, none⟩ = some (rtIN 51)) (h1 : Below w.heap.size w w1) (h : SortPost l w1 e w2) :
    ∃ so sn ev i c, e = .returned (.tuple #[.slice so sn sn, ev]) ∧ ToldSays ev i c w2 ∧ ∀ w3, Below w2.heap.size w2 w3 → SortP l w (.returned (.tuple #[.slice so sn sn, .int .i64 i, .int .i64 c])) w3 := by
  have b2 : Below w.heap.size w w2 := h1.trans (h.1.mono h1.size)
  have hG2 := cell_keepN b2 hG
  rcases h.2 with ⟨i, h3, rfl⟩ | ⟨h3, i, x, m, h4, h5, h6, h7, rfl⟩ | ⟨h3, m, o, h4, h5, rfl, h6⟩
  · exact ⟨none, 0, _, i, 22, rfl, told_fault 22 i w2 hG2, fun w3 b3 => ⟨b2.trans (b3.mono b2.size), .inl ⟨i, h3, rfl⟩⟩⟩
  · exact ⟨none, 0, _, i, 30, rfl, told_fault 30 i w2 hG2, fun w3 b3 => ⟨b2.trans (b3.mono b2.size), .inr (.inl ⟨h3, i, x, m, h4, h5, h6, h7, rfl⟩)⟩⟩
  · exact ⟨o, m.length, _, 0, 0, rfl, told_nilN w2, fun w3 b3 => ⟨b2.trans (b3.mono b2.size), .inr (.inr ⟨h3, m, o, h4, h5, rfl, h6.below b3⟩)⟩⟩
def LaidP (ls : List (List Rng)) (w : World) (e : Ending) (w' : World) : Prop :=
  Below w.heap.size w w' ∧ ((¬ (∀ l ∈ ls, rightL l) ∧ e = .returned (.tuple #[.slice none 0 0, .int .i64 22])) ∨
    ((∀ l ∈ ls, rightL l) ∧ ∃ o m, isLay ls m ∧ m.length ≤ (turnsL ls).length ∧ e = .returned (.tuple #[.slice o m.length m.length, .int .i64 0]) ∧ AtR w' o m))
theorem rights_lists {xs : List LayX} : (∀ x ∈ xs, rightL x.2.1) ↔ ∀ l ∈ listsOf xs, rightL l := by
  unfold listsOf
  simp only [List.mem_map, forall_exists_index, and_imp]
  exact ⟨fun h l x hx e => e ▸ h x hx, fun h x hx => h _ x hx rfl⟩
theorem lay_told {xs : List LayX} {w w1 w2 : World} {e : Ending} (hG : w.cell? ⟨2, 0, none⟩ = some (rtIN 51)) (h1 : Below w.heap.size w w1) (h : LayPost xs w1 e w2) :
    ∃ so sn ev i c, e = .returned (.tuple #[.slice so sn sn, ev]) ∧ ToldSays ev i c w2 ∧ ∀ w3, Below w2.heap.size w2 w3 → LaidP (listsOf xs) w (.returned (.tuple #[.slice so sn sn, .int .i64 c])) w3 := by
  have b2 : Below w.heap.size w w2 := h1.trans (h.1.mono h1.size)
  have hG2 := cell_keepN b2 hG
  rcases h.2 with ⟨h3, rfl⟩ | ⟨h3, o, m, h4, h5, rfl, h6⟩
  · exact ⟨none, 0, _, 0, 22, rfl, told_fault 22 0 w2 hG2, fun w3 b3 => ⟨b2.trans (b3.mono b2.size), .inl ⟨fun h => h3 (rights_lists.2 h), rfl⟩⟩⟩
  · exact ⟨o, m.length, _, 0, 0, rfl, told_nilN w2, fun w3 b3 => ⟨b2.trans (b3.mono b2.size), .inr ⟨rights_lists.1 h3, o, m, h4, h5, rfl, h6.below b3⟩⟩⟩
set_option maxHeartbeats 1000000 in
theorem Over_any (o o2 : Option Addr) (l l2 : List Rng) (cap cap2 : Nat) (hn : l.length ≤ 1000) (hn2 : l2.length ≤ 1000) (hbig : (turnsL [l, l2]).length ≤ 600) (hc : l.length ≤ cap) (hc2 : l2.length ≤ cap2) (w : World) (hA : AtR w o l) (hA2 : AtR w o2 l2) (hG : w.cell? ⟨2, 0, none⟩ = some (rtIN 51)) :
    Calls Tryd.prog 25 #[.slice o l.length cap, .slice o2 l2.length cap2] w (LaidP [l, l2] w) := by
  obtain ⟨w1, hw1⟩ : ∃ w1, w.alloc (.cells #[.slice o l.length cap, .slice o2 l2.length cap2] 22) = w1 := ⟨_, rfl⟩
  have B1 : Below w.heap.size w w1 := by rw [← hw1]; exact (Below.refl _ _).alloc (Nat.le_refl _) _
  have r1 : w1.heap[w.heap.size]? = some (.cells #[.slice o l.length cap, .slice o2 l2.length cap2] 22) := by rw [← hw1]; exact heap_alloc_new _ _
  have h2 := Lib.hid (lay_any w.heap.size 0 2 [(o, l, cap), (o2, l2, cap2)] (by simp) (by simp) hbig w1 (fun j x hx => by
    match j, hx with
    | 0, hx =>
      cases hx
      exact ⟨by rw [cell_of_row _ _ 0 _ _ _ r1]; rfl, hA.below B1, hc, hn⟩
    | 1, hx =>
      cases hx
      exact ⟨by rw [cell_of_row _ _ 1 _ _ _ r1]; rfl, hA2.below B1, hc2, hn2⟩))
  have h3 := Lib.hid (fun w2 e (h : LayPost [(o, l, cap), (o2, l2, cap2)] w1 e w2) => lay_told hG B1 h)
  rw [show listsOf [(o, l, cap), (o2, l2, cap2)] = [l, l2] from rfl] at h3
  obtain ⟨xs, hxs⟩ : ∃ xs, [(o, l, cap), (o2, l2, cap2)] = xs := ⟨_, rfl⟩
  have hx1 : xs.length = 2 := by rw [← hxs]; rfl
  rw [hxs] at h2 h3
  rw [hx1] at h2
  obtain ⟨P, hP⟩ : ∃ P, LaidP [l, l2] w = P := ⟨_, rfl⟩
  rw [hP] at h3 ⊢
  obtain ⟨n, hnn⟩ : ∃ n, l.length = n := ⟨_, rfl⟩
  obtain ⟨n2, hnn2⟩ : ∃ n, l2.length = n := ⟨_, rfl⟩
  rw [hnn, hnn2] at hw1 ⊢
  have HW := Lib.hid hw1
  clear hP hnn hnn2 hA hA2 hG hxs hx1 hw1 B1 r1 hbig hn hc hn2 hc2
  go_enter Tryd.func25, Tryd.ntmps25
  go_wp2_with fail
  rw [HW.out]
  refine h2.out.mono ?_
  rintro e w2 hs
  obtain ⟨so, sn, ev, i, c, rfl, ht, hpost⟩ := h3.out w2 e hs
  have HT := Lib.hid ht
  have HP := Lib.hid hpost
  clear hs ht hpost
  go_wp2_with fail
  refine HT.out.mono ?_
  rintro e w3 ⟨rfl, b3⟩
  have HPP := Lib.hid (HP.out w3 b3)
  clear b3 HP
  go_wp2
  exact HPP.out
end Go.Proofs.YtlmkefmfhdjmmaaDoor

namespace Go.Proofs.YtlmkefmfhdjmmaaDoor
open Go.RowKit Go.Shelf Go.Maps
attribute [local go_sem] Oper.semAt_some

def sumL (l : List Rng) : Int := l.foldl (fun n x => n + (x.2.1 - x.1 + 1)) 0
theorem sumL_snoc (l : List Rng) (x : Rng) : sumL (l ++ [x]) = sumL l + (x.2.1 - x.1 + 1) := by unfold sumL; rw [List.foldl_append]; rfl
theorem sum_take {l : List Rng} {j : Nat} {x : Rng} (hx : l[j]? = some x) : sumL (l.take (j + 1)) = sumL (l.take j) + (x.2.1 - x.1 + 1) := by
  rw [List.take_add_one, hx]; exact sumL_snoc _ _
theorem sum_bounds {l : List Rng} (h : ∀ x ∈ l, okR x) : ∀ j, 0 ≤ sumL (l.take j) ∧ sumL (l.take j) ≤ 1114112 * j := by
  intro j
  induction j with
  | zero => simp [sumL]
  | succ j ih =>
    cases hx : l[j]? with
    | none => rw [List.take_add_one, hx]; simp; omega
    | some x =>
      rw [sum_take hx]
      have := h x (List.mem_of_getElem? hx)
      unfold okR at this
      omega
def countL (l : List Rng) : Int := if rightL l then sumL l else 0
structure CntInv (w8 : World) (nb : Nat) (X : Nat → Prop) (W : World) (n : Int) : Prop where
  far : ∀ k, X k → w8.heap.size ≤ k
  kept : Moves (fun k => k = nb) w8 W
  box : Boxed W nb 3 (.int .i64 n)
theorem CntInv.moves {w8 : World} {nb : Nat} {X X' : Nat → Prop} {n : Int} {A B : World} (h : CntInv w8 nb X A n) (hnb : nb < w8.heap.size) (hm : Moves X A B) (hX : ∀ k, X' k → (X k ∨ A.heap.size ≤ k) ∧ k < B.heap.size) : CntInv w8 nb X' B n := by
  have hz := h.kept.size
  refine ⟨fun k hk => ?_, ⟨hm.os.trans h.kept.os, hm.tape.trans h.kept.tape, hm.output.trans h.kept.output, Nat.le_trans hz hm.size, fun k hk hs => (hm.block k (Nat.lt_of_lt_of_le hk hz) (fun hx => by have := h.far k hx; omega)).trans (h.kept.block k hk hs)⟩, row_keep h.box hm (fun hx => by have := h.far nb hx; omega)⟩
  rcases (hX k hk).1 with h1 | h1
  · exact h.far k h1
  · omega
end Go.Proofs.YtlmkefmfhdjmmaaDoor

namespace Go.Proofs.YtlmkefmfhdjmmaaDoor

def cnt (N : Nat) (p : Nat → Bool) : Nat := (List.range N).countP p
theorem cnt_succ (N : Nat) (p : Nat → Bool) : cnt (N + 1) p = cnt N p + if p N then 1 else 0 := by
  unfold cnt
  rw [List.range_succ, List.countP_append]
  simp [List.countP_cons]
theorem cnt_zero (p : Nat → Bool) : cnt 0 p = 0 := rfl
theorem cnt_in (a b : Nat) : ∀ N, cnt N (fun r => decide (a ≤ r ∧ r ≤ b)) = min N (b + 1) - a
  | 0 => by rw [cnt_zero]; omega
  | N + 1 => by
    rw [cnt_succ, cnt_in a b N]
    by_cases h : a ≤ N ∧ N ≤ b
    · simp only [h, and_self, decide_true, if_true]; omega
    · simp only [h, decide_false, Bool.false_eq_true, if_false]; omega
theorem cnt_or {p q : Nat → Bool} : ∀ N, (∀ r, r < N → ¬ (p r = true ∧ q r = true)) → cnt N (fun r => p r || q r) = cnt N p + cnt N q
  | 0, _ => rfl
  | N + 1, h => by
    rw [cnt_succ, cnt_succ, cnt_succ, cnt_or N fun r hr => h r (by omega)]
    have := h N (by omega)
    cases hp : p N <;> cases hq : q N <;> simp_all <;> omega
theorem cnt_le_or {p q : Nat → Bool} : ∀ N, cnt N p ≤ cnt N (fun r => p r || q r) ∧ cnt N q ≤ cnt N (fun r => p r || q r) ∧ cnt N (fun r => p r || q r) ≤ cnt N p + cnt N q
  | 0 => by simp [cnt_zero]
  | N + 1 => by
    have := cnt_le_or (p := p) (q := q) N
    rw [cnt_succ, cnt_succ, cnt_succ]
    cases hp : p N <;> cases hq : q N <;> simp_all <;> omega
theorem cnt_same {p q : Nat → Bool} (h : ∀ r, p r = q r) (N : Nat) : cnt N p = cnt N q := by
  rw [show p = q from funext h]
def saysB (m : List Rng) (r : Nat) : Bool := (findL m (r : Nat)).isSome
theorem says_iff {m : List Rng} {r : Int} : (findL m r).isSome = true ↔ ∃ x ∈ m, x.1 ≤ r ∧ r ≤ x.2.1 := by
  induction m with
  | nil => simp [findL]
  | cons x m ih =>
    unfold findL
    by_cases h : x.1 ≤ r ∧ r ≤ x.2.1
    · rw [if_pos h]; simp [h]
    · rw [if_neg h, ih]; simp [h]
theorem foldl_sum (l : List Rng) : ∀ n : Int, l.foldl (fun n x => n + (x.2.1 - x.1 + 1)) n = n + sumL l := by
  unfold sumL
  induction l with
  | nil => intro n; simp
  | cons x l ih => intro n; rw [List.foldl_cons, List.foldl_cons, ih, ih (0 + _)]; omega
theorem sum_cons (x : Rng) (l : List Rng) : sumL (x :: l) = (x.2.1 - x.1 + 1) + sumL l := by
  have h := foldl_sum l (0 + (x.2.1 - x.1 + 1))
  unfold sumL at h ⊢
  rw [List.foldl_cons, h]
  omega
theorem sum_cnt : ∀ m : List Rng, mapL m → sumL m = (cnt 1114112 (saysB m) : Nat)
  | [], _ => by
    have : ∀ N, cnt N (saysB []) = 0 := fun N => by
      induction N with
      | zero => rfl
      | succ N ih => rw [cnt_succ, ih]; rfl
    rw [this]; rfl
  | x :: m, h => by
    have hm : mapL m := ⟨fun y hy => h.1 y (List.mem_cons_of_mem _ hy), (List.pairwise_cons.1 h.2).2⟩
    have hx := h.1 x List.mem_cons_self
    unfold okR at hx
    have hs : ∀ r, saysB (x :: m) r = ((fun r : Nat => decide (x.1.toNat ≤ r ∧ r ≤ x.2.1.toNat)) r || saysB m r) := fun r => by
      unfold saysB
      rw [findL]
      by_cases hr : x.1 ≤ (r : Int) ∧ (r : Int) ≤ x.2.1
      · rw [if_pos hr]
        have : x.1.toNat ≤ r ∧ r ≤ x.2.1.toNat := by omega
        show (some x.2.2).isSome = (decide (x.1.toNat ≤ r ∧ r ≤ x.2.1.toNat) || _)
        rw [decide_eq_true this]
        rfl
      · rw [if_neg hr]
        have : ¬ (x.1.toNat ≤ r ∧ r ≤ x.2.1.toNat) := by omega
        show _ = (decide (x.1.toNat ≤ r ∧ r ≤ x.2.1.toNat) || _)
        rw [decide_eq_false this, Bool.false_or]
    rw [cnt_same hs, cnt_or, cnt_in, sum_cons, sum_cnt m hm]
    · omega
    · rintro r hr ⟨h1, h2⟩
      obtain ⟨y, hy, h3, h4⟩ := says_iff.1 h2
      have h5 := (List.pairwise_cons.1 h.2).1 y hy
      simp only [decide_eq_true_eq] at h1
      omega
/-- One map over another one says something of no fewer numbers than each, and of no more than both together. -/
theorem over_counts {a b c : List Rng} (ha : rightL a) (hb : rightL b) (hc : rightL c) (h : ∀ r, findL c r = (findL b r).or (findL a r)) : countL a ≤ countL c ∧ countL b ≤ countL c ∧ countL c ≤ countL a + countL b := by
  unfold countL
  rw [if_pos ha, if_pos hb, if_pos hc, sum_cnt a ha.1, sum_cnt b hb.1, sum_cnt c hc.1]
  have hs : ∀ r, saysB c r = (saysB b r || saysB a r) := fun r => by
    unfold saysB
    rw [h]
    simp
  rw [cnt_same hs]
  have := cnt_le_or (p := saysB b) (q := saysB a) 1114112
  omega
end Go.Proofs.YtlmkefmfhdjmmaaDoor

namespace Go.Proofs.YtlmkefmfhdjmmaaDoor

theorem find_perm {l a : List Rng} (hp : a.Perm l) (ha : mapL a) (r : Int) : findL a r = findL l r := by
  cases hf : findL l r with
  | none => exact findL_none' fun x hx => findL_none hf x (hp.mem_iff.1 hx)
  | some v =>
    obtain ⟨x, hx, h1, h2, rfl⟩ := findL_some hf
    exact find_mem ha (hp.mem_iff.2 hx) h1 h2
theorem map_unique {a b : List Rng} (ha : mapL a) (hb : mapL b) (h : a.Perm b) : a = b := by
  refine List.Perm.eq_of_pairwise (fun x y hx hy h1 h2 => ?_) ha.2 hb.2 h
  have k1 := ha.1 x hx
  have k2 := hb.1 y hy
  unfold okR at k1 k2
  omega
def apart (x y : Rng) : Prop := x.2.1 < y.1 ∨ y.2.1 < x.1
theorem apart_of {l a : List Rng} (ha : mapL a) (hp : a.Perm l) : l.Pairwise apart :=
  (hp.pairwise_iff (fun h => h.symm)).1 (ha.2.imp fun h => .inl h)
theorem lap_not {l a m : List Rng} {i : Nat} {x : Rng} (ha : mapL a) (hp : a.Perm l) (hx : l[i]? = some x) (hm : m.Perm (l.take i)) (hl : lapL m x) : False := by
  obtain ⟨y, hy, h1, h2⟩ := hl
  have hy2 := hm.mem_iff.1 hy
  obtain ⟨j, hj, hjy⟩ := List.mem_take_iff_getElem.1 hy2
  obtain ⟨hi, hix⟩ := List.getElem?_eq_some_iff.1 hx
  have h3 := (List.pairwise_iff_getElem.1 (apart_of ha hp)) j i (by omega) hi (by omega)
  rw [hjy, hix] at h3
  unfold apart at h3
  omega
theorem chk_perm {l m : List Rng} (hp : m.Perm l) : chkL m = none ↔ chkL l = none := by
  rw [chk_ok, chk_ok, hp.length_eq]
  refine and_congr_left fun _ => ⟨fun h y hy => h y (hp.mem_iff.2 hy), fun h y hy => h y (hp.mem_iff.1 hy)⟩
/-- What Sort answers, but for the place that it tells. -/
def SortC (l a : List Rng) (e : Int) : Prop :=
  (e = 22 ∧ a = [] ∧ chkL l ≠ none) ∨ (e = 30 ∧ a = [] ∧ chkL l = none ∧ ¬ ∃ b, mapL b ∧ b.Perm l) ∨ (e = 0 ∧ chkL l = none ∧ mapL a ∧ a.Perm l)
theorem sort_c {l : List Rng} {w w' : World} {e : Ending} (h : SortP l w e w') :
    ∃ (o : Option Addr) (a : List Rng) (i : Int) (c : Int), e = .returned (.tuple #[.slice o a.length a.length, .int .i64 i, .int .i64 c]) ∧ AtR w' o a ∧ SortC l a c := by
  rcases h.2 with ⟨i, h3, rfl⟩ | ⟨h3, i, x, m, h4, h5, h6, h7, rfl⟩ | ⟨h3, m, o, h4, h5, rfl, h6⟩
  · exact ⟨none, [], i, 22, rfl, fun h => absurd h (Nat.not_lt_zero _), .inl ⟨rfl, rfl, by rw [h3]; simp⟩⟩
  · exact ⟨none, [], i, 30, rfl, fun h => absurd h (Nat.not_lt_zero _), .inr (.inl ⟨rfl, rfl, h3, fun ⟨b, hb, hp⟩ => lap_not hb hp h4 h6 h7⟩)⟩
  · exact ⟨o, m, 0, 0, rfl, h6, .inr (.inr ⟨rfl, h3, h4, h5⟩)⟩
theorem sort_c_perm {l m a b : List Rng} {e f : Int} (hp : m.Perm l) (ha : SortC l a e) (hb : SortC m b f) : e = f ∧ a = b := by
  have hc := chk_perm hp
  rcases ha with ⟨rfl, rfl, h1⟩ | ⟨rfl, rfl, h1, h2⟩ | ⟨rfl, h1, h2, h3⟩ <;> rcases hb with ⟨rfl, rfl, k1⟩ | ⟨rfl, rfl, k1, k2⟩ | ⟨rfl, k1, k2, k3⟩
  · exact ⟨rfl, rfl⟩
  · exact absurd (hc.1 k1) h1
  · exact absurd (hc.1 k1) h1
  · exact absurd (hc.2 h1) k1
  · exact ⟨rfl, rfl⟩
  · exact absurd ⟨b, k2, k3.trans hp⟩ h2
  · exact absurd (hc.2 h1) k1
  · exact absurd ⟨a, h2, h3.trans hp.symm⟩ k2
  · exact ⟨rfl, map_unique h2 k2 (h3.trans (hp.symm.trans k3.symm))⟩
theorem lay_says1 {l b : List Rng} (h : isLay [l] b) (r : Int) : findL b r = findL l r := by
  have := h.2.2 r
  simpa only [saidL, Option.none_or] using this
theorem lay_says2 {a m b : List Rng} (h : isLay [a, m] b) (r : Int) : findL b r = (findL m r).or (findL a r) := by
  have := h.2.2 r
  simpa only [saidL, Option.none_or] using this
theorem lay_once {l a b : List Rng} (ha : isLay [l] a) (hb : isLay [a] b) : b = a :=
  isLay_unique hb ⟨ha.1, ha.2.1, fun r => by simp only [saidL, Option.none_or]⟩
theorem lay_self {l a b : List Rng} (ha : isLay [l] a) (hb : isLay [l, l] b) : b = a :=
  isLay_unique hb ⟨ha.1, ha.2.1, fun r => by
    rw [lay_says1 ha r]
    simp only [saidL, Option.none_or]
    cases findL l r <;> rfl⟩
theorem lay_nil1 {l a b : List Rng} (ha : isLay [l] a) (hb : isLay [[], l] b) : b = a :=
  isLay_unique hb ⟨ha.1, ha.2.1, fun r => by
    rw [lay_says1 ha r]
    simp only [saidL, Option.none_or, findL, Option.or_none]⟩
theorem lay_nil2 {l a b : List Rng} (ha : isLay [l] a) (hb : isLay [l, []] b) : b = a :=
  isLay_unique hb ⟨ha.1, ha.2.1, fun r => by
    rw [lay_says1 ha r]
    simp only [saidL, Option.none_or, findL]⟩
theorem count_lay {l a : List Rng} (hr : rightL l) (hra : rightL a) (ha : isLay [l] a) : countL a = countL l := by
  have h := over_counts (a := l) (b := []) (c := a) hr ⟨⟨fun x hx => by simp at hx, List.Pairwise.nil⟩, by simp⟩ hra (fun r => by rw [lay_says1 ha r]; simp [findL])
  have h0 : countL [] = 0 := by rfl
  omega
end Go.Proofs.YtlmkefmfhdjmmaaDoor
