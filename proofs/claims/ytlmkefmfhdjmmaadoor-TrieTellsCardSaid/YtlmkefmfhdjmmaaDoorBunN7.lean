/- layerOf, laid, stretches: what lay stands on. Rows of ranges that the call owns: one behind them, one between them; copy from row to row. slices.Insert of one range into a row of ranges that the call owns. put: a range at its place, unless it laps. join: a range behind a tight map. -/
import Derived.Test.YtlmkefmfhdjmmaaDoorBunN6
import Derived.Test.YtlmkefmfhdjmmaaDoorBunN3
import Derived.Maps.AppendAt
import Derived.Lib.AppendZerosOnto
import Derived.Lib.Overlaps
import Derived.Laws.CopyRow
import Derived.Test.YtlmkefmfhdjmmaaDoorBunN5
namespace Go.Proofs.YtlmkefmfhdjmmaaDoor
open Go.RowKit Go.Shelf Go.Maps

def layerR (o : Option Addr) (l : List Rng) : Value := if rightL l then .tuple #[layerV o l.length l.length, .nilIface] else .tuple #[layerV none 0 0, faultV 22 0]
set_option maxRecDepth 100000 in
set_option maxHeartbeats 1000000 in
theorem layerOf_any (o : Option Addr) (l : List Rng) (cap : Nat) (hn : l.length ≤ 1000000) (hcap : l.length ≤ cap) (w : World) (hA : AtR w o l) :
    Calls Tryd.prog 51 #[.slice o l.length cap] w fun e w' => e = .returned (layerR o l) ∧ Below w.heap.size w w' := by
  obtain ⟨w1, hw1⟩ : ∃ w1, w.alloc (layerO none 0 0) = w1 := ⟨_, rfl⟩
  have A1 : Below w.heap.size w w1 := by rw [← hw1]; exact (Below.refl _ _).alloc (Nat.le_refl _) _
  have z1 : w1.heap.size = w.heap.size + 1 := by rw [← hw1]; simp
  have r1 : w1.heap[w.heap.size]? = some (layerO none 0 0) := by rw [← hw1]; exact heap_alloc_new _ _
  have hch := chartOf_any o l.length cap hcap w1
  have hmap := fun W (h : AtR W o l) => isMap_any o l l.length hn W h
  obtain ⟨D, hD⟩ : ∃ D, decide (rightL l) = D := ⟨_, rfl⟩
  rw [hD] at hmap
  have HRES : Hid (layerR o l = if D then .tuple #[layerV o l.length l.length, .nilIface] else .tuple #[layerV none 0 0, faultV 22 0]) := by
    unfold layerR
    rw [← hD]
    by_cases h : rightL l
    · rw [if_pos h, decide_eq_true h]; exact Lib.hid rfl
    · rw [if_neg h, decide_eq_false h]; exact Lib.hid rfl
  obtain ⟨R, hR⟩ : ∃ R, layerR o l = R := ⟨_, rfl⟩
  rw [hR] at HRES ⊢
  obtain ⟨n, hnn⟩ : ∃ n, l.length = n := ⟨_, rfl⟩
  rw [hnn] at hch hmap HRES hcap hn ⊢
  have HCH := Lib.hid hch
  have HMAP := Lib.hid hmap
  have HA := Lib.hid (hA.below A1)
  have HA1 := Lib.hid A1
  have HR1 := Lib.hid r1
  have HW1 := Lib.hid hw1
  clear hch hmap hA A1 r1 hw1 hD hR hnn
  go_enter Tryd.func51, Tryd.ntmps51
  go_wp2_with fail
  rw [HW1.out]
  refine HCH.out.mono ?_
  rintro e w2 ⟨rfl, b2⟩
  have r2 := row_below HR1.out b2
  have a2 := HA.out.below b2
  have lt2 := (Array.getElem?_eq_some_iff.1 r2).1
  have A3 : Below w2.heap.size w2 (w2.alloc (layerO o n n)) := (Below.refl _ _).alloc (Nat.le_refl _) _
  have HM := Lib.hid (HMAP.out _ (a2.below A3))
  have r3 := row_below r2 A3
  have q3 : (w2.alloc (layerO o n n)).heap[w2.heap.size]? = some (layerO o n n) := heap_alloc_new _ _
  have B3 := HA1.out.trans ((b2.trans (A3.mono b2.size)).mono (by omega))
  have HR3 := Lib.hid r3
  have HQ3 := Lib.hid q3
  have HB3 := Lib.hid B3
  clear r2 a2 b2 A3 r3 q3 B3 HMAP HCH
  go_wp2_with fail
  refine HM.out.mono ?_
  rintro e w4 ⟨rfl, b4⟩
  have r4 := row_below HR3.out b4
  have q4 := row_below HQ3.out b4
  have B4 := HB3.out.trans (b4.mono HB3.out.size)
  have lt4 := (Array.getElem?_eq_some_iff.1 r4).1
  have c4 : w4.cell? ⟨w2.heap.size, 0, none⟩ = some (.slice o n n) := by rw [cell_of_row _ _ 0 _ _ _ q4]; rfl
  have d4 : w4.cell? ⟨w.heap.size, 0, none⟩ = some (.slice none 0 0) := by rw [cell_of_row _ _ 0 _ _ _ r4]; rfl
  have f4 : w4.frozen? ⟨w.heap.size, 0, none⟩ = false := frozen_of_row _ _ _ _ _ r4
  have HR4 := Lib.hid r4
  have HB4 := Lib.hid B4
  clear r4 q4 b4 B4
  cases D
  · go_wp2
    refine bodyPost_ret (v := .tuple #[.agg #[.slice none 0 0], faultV 22 0]) ?_ rfl ⟨by rw [HRES.out]; rfl, HB4.out.setCell (Nat.le_refl _) _⟩
    exact results_cell_tmp rfl _ _ w.heap.size 83 #[.slice none 0 0] (0, 0) _ _ rfl rfl (by rw [heap_setCell_same _ _ 0 _ _ _ HR4.out]; rfl) Tryd.underlying83 rfl (by kernel_rfl)
  · go_wp2
    refine bodyPost_ret (v := .tuple #[.agg #[.slice o n n], .nilIface]) ?_ rfl ⟨by rw [HRES.out]; rfl, HB4.out.setCell (Nat.le_refl _) _⟩
    exact results_cell_tmp rfl _ _ w.heap.size 83 #[.slice o n n] (0, 0) _ _ rfl rfl (by rw [heap_setCell_same _ _ 0 _ _ _ HR4.out]; rfl) Tryd.underlying83 rfl (by kernel_rfl)
theorem laid_any (o : Option Addr) (n cap : Nat) (w : World) : Calls Tryd.prog 52 #[.slice o n cap] w fun e w' => e = .returned (.func (.func 65) #[] #[.pointer (some ⟨w.heap.size, 0, none⟩)]) ∧ w.alloc (.cells #[.slice o n cap] 81) = w' := by
  go_enter Tryd.func52, Tryd.ntmps52
  go_wp2
  go_ret
  exact ⟨rfl, rfl⟩
theorem stretches_any (b : Option Nat) (w : World) : Calls Tryd.prog 53 #[.map b] w fun e w' => e = .returned (.func (.func 68) #[] #[.pointer (some ⟨w.heap.size, 0, none⟩)]) ∧ w.alloc (.cells #[.map b] 90) = w' := by
  go_enter Tryd.func53, Tryd.ntmps53
  go_wp2
  go_ret
  exact ⟨rfl, rfl⟩
end Go.Proofs.YtlmkefmfhdjmmaaDoor

namespace Go.Proofs.YtlmkefmfhdjmmaaDoor
open Go.RowKit Go.Shelf Go.Maps

theorem infoRng : (Tryd.prog.info? 49).map (fun i => (i.zero, i.size, i.bytes)) = some (some (rngV (0, 0, 0)), 3, 24) := by kernel_rfl
theorem cellsR_append (a b : List Rng) : cellsR (a ++ b) = cellsR a ++ cellsR b := by unfold cellsR; rw [List.flatMap_append]
theorem cellsR_one (x : Rng) : cellsR [x] = [.int .i64 x.1, .int .i64 x.2.1, .int .i64 x.2.2] := rfl
theorem cellsR_length : ∀ l : List Rng, (cellsR l).length = l.length * 3
  | [] => rfl
  | x :: l => by
    have := cellsR_length l
    unfold cellsR at this ⊢
    rw [List.flatMap_cons, List.length_append, this]
    simp
    omega
theorem cellsR_one' (l : List Rng) : ∀ u ∈ cellsR l, u.oneCell' = true := by
  intro u hu
  unfold cellsR at hu
  obtain ⟨x, _, hu⟩ := List.mem_flatMap.1 hu
  simp only [List.mem_cons, List.not_mem_nil, or_false] at hu
  rcases hu with rfl | rfl | rfl <;> rfl
theorem cellsR_get : ∀ {l : List Rng} {j : Nat} {x : Rng}, l[j]? = some x → (cellsR l)[j * 3]? = some (.int .i64 x.1) ∧ (cellsR l)[j * 3 + 1]? = some (.int .i64 x.2.1) ∧ (cellsR l)[j * 3 + 2]? = some (.int .i64 x.2.2)
  | [], j, x, h => by simp at h
  | y :: l, 0, x, h => by
    obtain rfl : y = x := by simpa using h
    exact ⟨rfl, rfl, rfl⟩
  | y :: l, j + 1, x, h => by
    have := cellsR_get (l := l) (j := j) (x := x) (by simpa using h)
    unfold cellsR at this ⊢
    rw [List.flatMap_cons]
    rw [show (j + 1) * 3 = j * 3 + 3 from by omega]
    simpa using this
theorem addr_atN (g i : Nat) : (⟨g, 0, none⟩ : Addr).add i = ⟨g, i, none⟩ := by unfold Addr.add; split <;> simp_all
/-- Of an ownN row each range is at its place. -/
theorem at_own {w : World} {base : Nat} {o : Option Addr} {l : List Rng} {cap : Nat} (h : w.ownsRow base 49 3 (.slice o l.length cap) l.length (cellsR l)) : AtR w o l := fun hn => by
  rcases h.2 with ⟨_, h0⟩ | ⟨g, cap', cur, e, _, hg, _, _, _, htake⟩
  · omega
  · obtain ⟨rfl, rfl⟩ : o = some ⟨g, 0, none⟩ ∧ cap = cap' := by simpa using e
    have key : ∀ i u, (cellsR l)[i]? = some u → w.cell? ⟨g, i, none⟩ = some u := fun i u hu => by
      rw [cell_of_row _ _ i _ _ _ hg]
      rw [← htake, List.getElem?_take] at hu
      split at hu
      · rwa [Array.getElem?_toList] at hu
      · cases hu
    refine ⟨g, 0, rfl, fun j x hx => ?_⟩
    obtain ⟨h0, h1, h2⟩ := cellsR_get hx
    rw [Nat.zero_add]
    exact ⟨key _ _ h0, key _ _ h1, key _ _ h2⟩
theorem own_capR {w : World} {base : Nat} {o : Option Addr} {l : List Rng} {cap : Nat} (h : w.ownsRow base 49 3 (.slice o l.length cap) l.length (cellsR l)) : l.length ≤ cap := own_cap h
/-- append of one range. -/
theorem rng_own {W : World} {base k : Nat} {v : Value} {xs : List Value} (x : Rng) (ho : W.ownsRow base 49 3 v k xs) (hk : k ≤ 100000) (hbase : base ≤ W.heap.size) {e : Nat} (he : W.heap[e]? = some (rngO x)) :
    ∃ g cap w6, (appSem #[22, 22] 22 #[v, .slice (some ⟨e, 0, none⟩) 1 1]).run Tryd.prog W = .ok (.slice (some ⟨g, 0, none⟩) (k + 1) cap) w6 ∧
      w6.ownsRow base 49 3 (.slice (some ⟨g, 0, none⟩) (k + 1) cap) (k + 1) (xs ++ cellsR [x]) ∧ W.grownBy w6 v.ownBlock ∧ (∀ j, (Value.slice (some ⟨g, 0, none⟩) (k + 1) cap).ownBlock = some j → v.ownBlock = some j ∨ j = W.heap.size) := by
  obtain ⟨i0, hi, hz0, hz1, hz2⟩ := info_parts infoRng
  obtain ⟨c0, c1, c2, _⟩ := rng_cells he
  obtain ⟨v', w6, hr, h2, h3, h4, h5⟩ := run_append_own_at (P := Tryd.prog) W base 22 22 49 i0 (rngV (0, 0, 0)) 3 24 Tryd.underlying22 hi hz0 hz1 hz2 rfl (by decide) v k xs ho ⟨e, 0, none⟩ 1 1 (cellsR [x]) rfl
    (fun j u hj => by
      match j, hj with
      | 0, hj => cases hj; exact c0
      | 1, hj => cases hj; exact c1
      | 2, hj => cases hj; exact c2) (cellsR_one' _) (by unfold maxLen; omega) (by omega) hbase
  obtain ⟨g, cap, rfl⟩ := ownsRow_succ h2
  exact ⟨g, cap, w6, hr, h2, h3, fun j hj => h5.imp (fun h => h.symm.trans hj) (fun h => by rw [h] at hj; cases hj; rfl)⟩
/-- copy behind a name that the walk does not open. -/
def copSem (ats : Array TypeId) (ty : TypeId) (args : Array Value) : Sem Value := Builtin.copy_ ats ty args
theorem cop_hide (ats : Array TypeId) (ty : TypeId) (args : Array Value) : Builtin.copy_ ats ty args = copSem ats ty args := rfl
theorem run_copyR (w : World) (ty : TypeId) (g o dLen dCap : Nat) (a : Addr) (sLen sCap : Nat) (cur : List Value) (t : TypeId) (cs : List Value) (k : Nat) (hk : Nat.min sLen dLen = k)
    (hg : w.heap[g]? = some (.cells cur.toArray t (0, 0))) (hn : cs.length = k * 3) (hsrc : ∀ j v, cs[j]? = some v → w.cell? (a.add j) = some v) (hfit : o + cs.length ≤ cur.length) (h1 : ∀ v ∈ cs, v.oneCell' = true) :
    (copSem #[22, 22] ty #[.slice (some ⟨g, o, none⟩) dLen dCap, .slice (some a) sLen sCap]).run Tryd.prog w =
      .ok (goInt k) (w.setRow g (cur.take o ++ cs ++ cur.drop (o + cs.length)).toArray) := by
  obtain ⟨i0, hi, hz0, hz1, hz2⟩ := info_parts infoRng
  have hl := run_loadCells_list (P := Tryd.prog) w a cs hsrc
  rw [hn] at hl
  have hst := run_storeCells_at Tryd.prog g o t cs 0 cur.toArray w hg (by simpa using hfit) h1
  simp [copSem, Builtin.copy_, run_underlying Tryd.underlying22, Builtin.lenOf, Builtin.firstCells, sizeOf, typeInfo, hi, hz1, hk, hl, hst]
/-- A row into which cells have been put between others. -/
theorem put_shift {α : Type} (L A X B : List α) (hA : L.take A.length = A) (hL : A.length + X.length + B.length ≤ L.length) :
    let L1 := L.take (A.length + X.length) ++ B ++ L.drop (A.length + X.length + B.length)
    ∃ R, L1.take A.length ++ X ++ L1.drop (A.length + X.length) = A ++ X ++ B ++ R ∧ (A ++ X ++ B ++ R).length = L.length := by
  intro L1
  refine ⟨L.drop (A.length + X.length + B.length), ?_, by simp; omega⟩
  have h1 : L1.take A.length = A := by
    show (L.take (A.length + X.length) ++ B ++ L.drop (A.length + X.length + B.length)).take A.length = A
    rw [List.append_assoc, List.take_append_of_le_length (by rw [List.length_take]; omega), List.take_take, Nat.min_eq_left (by omega), hA]
  have h2 : L1.drop (A.length + X.length) = B ++ L.drop (A.length + X.length + B.length) := by
    show (L.take (A.length + X.length) ++ B ++ L.drop (A.length + X.length + B.length)).drop (A.length + X.length) = _
    have hl : (L.take (A.length + X.length)).length = A.length + X.length := by rw [List.length_take]; omega
    have := List.drop_left (l₁ := L.take (A.length + X.length)) (l₂ := B ++ L.drop (A.length + X.length + B.length))
    rw [hl] at this
    rw [List.append_assoc]
    exact this
  rw [h1, h2]
  simp
theorem put_fresh {α : Type} (L A X B : List α) (hA : L.take A.length = A) (hL : A.length + X.length + B.length ≤ L.length) :
    let L1 := L.take A.length ++ X ++ L.drop (A.length + X.length)
    ∃ R, L1.take (A.length + X.length) ++ B ++ L1.drop (A.length + X.length + B.length) = A ++ X ++ B ++ R ∧ (A ++ X ++ B ++ R).length = L.length := by
  intro L1
  have e : L1 = (A ++ X) ++ L.drop (A.length + X.length) := by show L.take A.length ++ X ++ _ = _; rw [hA]
  have hl : (A ++ X).length = A.length + X.length := List.length_append
  refine ⟨L1.drop (A.length + X.length + B.length), ?_, ?_⟩
  · have h1 : L1.take (A.length + X.length) = A ++ X := by rw [e, ← hl, List.take_left]
    rw [h1]
  · have : L1.length = L.length := by rw [e, List.length_append, hl, List.length_drop]; omega
    rw [List.length_append, List.length_append, hl, List.length_drop, this]
    omega
end Go.Proofs.YtlmkefmfhdjmmaaDoor

namespace Go.Proofs.YtlmkefmfhdjmmaaDoor
open Go.RowKit Go.Shelf Go.Maps
attribute [local go_sem ↓] app_hide cop_hide

theorem own_of_row {W : World} {base g cap : Nat} {l : List Rng} {cur : List Value} (hg : W.heap[g]? = some (.cells cur.toArray 49 (0, 0))) (hb : base ≤ g) (hc : l.length ≤ cap) (hm : cap ≤ maxLen) (hs : cur.length = cap * 3) (ht : cur.take (l.length * 3) = cellsR l) :
    W.ownsRow base 49 3 (.slice (some ⟨g, 0, none⟩) l.length cap) l.length (cellsR l) :=
  ⟨cellsR_length l, .inr ⟨g, cap, _, rfl, hb, hg, hc, hm, by simpa using hs, by simpa using ht⟩⟩
def insAt (l : List Rng) (i : Nat) (x : Rng) : List Rng := l.take i ++ [x] ++ l.drop i
theorem insAt_length {l : List Rng} {i : Nat} (hi : i ≤ l.length) (x : Rng) : (insAt l i x).length = l.length + 1 := by unfold insAt; simp; omega
/-- What Insert leaves. -/
def InsPost (l : List Rng) (i : Nat) (x : Rng) (base : Nat) (v : Value) (w : World) (e : Ending) (w' : World) : Prop :=
  ∃ g cap, e = .returned (.slice (some ⟨g, 0, none⟩) (l.length + 1) cap) ∧ w'.ownsRow base 49 3 (.slice (some ⟨g, 0, none⟩) (l.length + 1) cap) (l.length + 1) (cellsR (insAt l i x)) ∧ w.grownBy w' v.ownBlock ∧ (v.ownBlock = some g ∨ w.heap.size ≤ g)
end Go.Proofs.YtlmkefmfhdjmmaaDoor

namespace Go.Proofs.YtlmkefmfhdjmmaaDoor
open Go.RowKit Go.Shelf Go.Maps

theorem Moves.of_grownN {w w' : World} {row : Option Nat} (h : w.grownBy w' row) : Moves (fun k => some k = row) w w' := ⟨h.os, h.tape, h.output, h.size, fun k hk hr => h.block k hk hr⟩
theorem own_moves1N {A B : World} {base : Nat} {e : TypeId} {size : Nat} {v : Value} {n : Nat} {xs : List Value} {S : Nat → Prop} (h : A.ownsRow base e size v n xs) (hm : Moves S A B) (hS : ∀ k, v.ownBlock = some k → ¬ S k) : B.ownsRow base e size v n xs := by
  refine ⟨h.1, ?_⟩
  rcases h.2 with hn | ⟨g, cap, cur, rfl, hg, hh, rest⟩
  · exact .inl hn
  · exact .inr ⟨g, cap, cur, rfl, hg, (hm.block _ (Array.getElem?_eq_some_iff.1 hh).1 (hS g (by simp [Value.ownBlock]))).trans hh, rest⟩
/-- Some range has a number that x has. -/
def lapL (l : List Rng) (x : Rng) : Prop := ∃ y ∈ l, y.1 ≤ x.2.1 ∧ x.1 ≤ y.2.1
theorem lap_at {l : List Rng} {x : Rng} (hl : mapL l) : (∃ z, l[reachL l x.1]? = some z ∧ z.1 ≤ x.2.1) ↔ lapL l x := by
  constructor
  · rintro ⟨z, hz, h1⟩
    have := reach_at hz
    exact ⟨z, List.mem_of_getElem? hz, h1, by omega⟩
  · rintro ⟨y, hy, h1, h2⟩
    obtain ⟨j, hj⟩ := List.mem_iff_getElem?.1 hy
    have hjr : reachL l x.1 ≤ j := by
      rcases Nat.lt_or_ge j (reachL l x.1) with h | h
      · have := reach_lt h hj; omega
      · exact h
    have hlt := (List.getElem?_eq_some_iff.1 hj).1
    obtain ⟨z, hz⟩ : ∃ z, l[reachL l x.1]? = some z := ⟨_, List.getElem?_eq_getElem (by omega)⟩
    refine ⟨z, hz, ?_⟩
    rcases Nat.lt_or_ge (reachL l x.1) j with h | h
    · obtain ⟨i1, e1⟩ := List.getElem?_eq_some_iff.1 hz
      obtain ⟨i2, e2⟩ := List.getElem?_eq_some_iff.1 hj
      have h3 := List.pairwise_iff_getElem.1 hl.2 _ _ i1 i2 h
      rw [e1, e2] at h3
      have h4 := hl.1 z (List.mem_of_getElem? hz)
      unfold okR at h4
      omega
    · obtain rfl : reachL l x.1 = j := by omega
      rw [hz] at hj
      cases hj
      exact h1
def putAt (l : List Rng) (x : Rng) : List Rng := insAt l (reachL l x.1) x
/-- What put leaves. -/
def PutPost (l : List Rng) (x : Rng) (base m : Nat) (v : Value) (w : World) (e : Ending) (w' : World) : Prop :=
  (lapL l x ∧ e = .returned (.bool false) ∧ Below w.heap.size w w') ∨
  (¬ lapL l x ∧ e = .returned (.bool true) ∧ ∃ g cap, w'.heap[m]? = some (layerO (some ⟨g, 0, none⟩) (l.length + 1) cap) ∧ w'.ownsRow base 49 3 (.slice (some ⟨g, 0, none⟩) (l.length + 1) cap) (l.length + 1) (cellsR (putAt l x)) ∧
    Moves (fun k => k = m ∨ v.ownBlock = some k) w w' ∧ (v.ownBlock = some g ∨ w.heap.size ≤ g))
end Go.Proofs.YtlmkefmfhdjmmaaDoor

namespace Go.Proofs.YtlmkefmfhdjmmaaDoor
open Go.RowKit Go.Shelf Go.Maps
attribute [local go_sem ↓] app_hide

def JoinPost (m : List Rng) (x : Rng) (base : Nat) (v : Value) (w : World) (e : Ending) (w' : World) : Prop :=
  ∃ g cap, e = .returned (.slice (some ⟨g, 0, none⟩) (joinL m x).length cap) ∧ w'.ownsRow base 49 3 (.slice (some ⟨g, 0, none⟩) (joinL m x).length cap) (joinL m x).length (cellsR (joinL m x)) ∧
    Moves (fun k => v.ownBlock = some k) w w' ∧ (v.ownBlock = some g ∨ w.heap.size ≤ g)
theorem cells_set (d : List Rng) (y : Rng) (t : Int) : (cellsR (d ++ [y])).set (d.length * 3 + 1) (.int .i64 t) = cellsR (d ++ [(y.1, t, y.2.2)]) := by
  rw [cellsR_append, cellsR_append, List.set_append_right _ _ (by rw [cellsR_length]; omega), cellsR_length, show d.length * 3 + 1 - d.length * 3 = 1 from by omega]
  rfl
theorem own_set {w : World} {base g cap : Nat} {d : List Rng} {y : Rng} (t : Int) (h : w.ownsRow base 49 3 (.slice (some ⟨g, 0, none⟩) (d.length + 1) cap) (d.length + 1) (cellsR (d ++ [y]))) :
    (w.setCell ⟨g, d.length * 3 + 1, none⟩ (.int .i64 t)).ownsRow base 49 3 (.slice (some ⟨g, 0, none⟩) (d.length + 1) cap) (d.length + 1) (cellsR (d ++ [(y.1, t, y.2.2)])) := by
  obtain ⟨g', cap', cur, hv, hbg, hg, hnc, hcm, hcs, htake⟩ := (show _ from h.2.resolve_left (fun h => by have := h.2; omega) : ∃ g' cap' cur, _)
  obtain ⟨rfl, rfl⟩ : g = g' ∧ cap = cap' := by simpa using hv
  refine ⟨by rw [cellsR_length]; simp, .inr ⟨g, cap, cur.setIfInBounds (d.length * 3 + 1) (.int .i64 t), rfl, hbg, ?_, hnc, hcm, by simpa using hcs, ?_⟩⟩
  · exact heap_setCell_same _ _ _ _ _ _ hg
  · rw [Array.toList_setIfInBounds, ← cells_set, ← htake, List.take_set]
theorem own_at {w : World} {base g cap : Nat} {l : List Rng} (h : w.ownsRow base 49 3 (.slice (some ⟨g, 0, none⟩) l.length cap) l.length (cellsR l)) {j : Nat} {x : Rng} (hx : l[j]? = some x) :
    w.cell? ⟨g, j * 3, none⟩ = some (.int .i64 x.1) ∧ w.cell? ⟨g, j * 3 + 1, none⟩ = some (.int .i64 x.2.1) ∧ w.cell? ⟨g, j * 3 + 2, none⟩ = some (.int .i64 x.2.2) ∧ w.frozen? ⟨g, j * 3 + 1, none⟩ = false := by
  have hlt := (List.getElem?_eq_some_iff.1 hx).1
  obtain ⟨g', cap', cur, hv, hbg, hg, hnc, hcm, hcs, htake⟩ := (show _ from h.2.resolve_left (fun h => by have := h.2; omega) : ∃ g' cap' cur, _)
  obtain ⟨rfl, rfl⟩ : g = g' ∧ cap = cap' := by simpa using hv
  have hat := at_own h (by omega)
  obtain ⟨g2, off, e, hc⟩ := hat
  obtain ⟨rfl, rfl⟩ : g = g2 ∧ 0 = off := by simpa using e
  obtain ⟨h0, h1, h2⟩ := hc j x hx
  rw [Nat.zero_add] at h0 h1 h2
  exact ⟨h0, h1, h2, frozen_of_row _ _ _ _ _ hg⟩
set_option maxRecDepth 100000 in
set_option maxHeartbeats 2000000 in
theorem join_any {o : Option Addr} {m : List Rng} {cap base : Nat} (x : Rng) (w : World) (ho : w.ownsRow base 49 3 (.slice o m.length cap) m.length (cellsR m)) (hb : ∀ y ∈ m, -1000000 ≤ y.2.1 ∧ y.2.1 ≤ 10000000) (hn : m.length ≤ 10000) (hbase : base ≤ w.heap.size) :
    Calls Tryd.prog 55 #[.slice o m.length cap, rngV x] w (JoinPost m x base (.slice o m.length cap) w) := by
  obtain ⟨w1, hw1⟩ : ∃ w1, w.alloc (rngO x) = w1 := ⟨_, rfl⟩
  have A1 : Below w.heap.size w w1 := by rw [← hw1]; exact (Below.refl _ _).alloc (Nat.le_refl _) _
  have z1 : w1.heap.size = w.heap.size + 1 := by rw [← hw1]; simp
  have x1 : w1.heap[w.heap.size]? = some (rngO x) := by rw [← hw1]; exact heap_alloc_new _ _
  have o1 := own_below ho A1
  have grow : (∀ y, m.getLast? = some y → ¬ (y.2.1 + 1 = x.1 ∧ y.2.2 = x.2.2)) → ∀ q, ∃ g6 cap6 w6, (appSem #[22, 22] 22 #[.slice o m.length cap, .slice (some ⟨w1.heap.size, 0, none⟩) 1 1]).run Tryd.prog ((w1.drewN q).alloc (rngO x)) = .ok (.slice (some ⟨g6, 0, none⟩) (m.length + 1) cap6) w6 ∧
      JoinPost m x base (.slice o m.length cap) w (.returned (.slice (some ⟨g6, 0, none⟩) (m.length + 1) cap6)) w6 := fun hno q => by
    have A2 : Below w1.heap.size w1 ((w1.drewN q).alloc (rngO x)) := (Moves.below (Below.refl _ _) (Nat.le_refl _) (moves_drewN1 w1 q) (fun k h => h.elim)).alloc (Nat.le_refl _) _
    have o2 := own_below o1 A2
    obtain ⟨g6, cap6, w6, hr, own6, gr6, hat⟩ := rng_own x o2 (by omega) (by have := A2.size; omega) (e := w1.heap.size) (heap_alloc_new (w1.drewN q) _)
    have hj : joinL m x = m ++ [x] := by
      unfold joinL
      cases hl : m.getLast? with
      | none => rfl
      | some y => simp only; rw [if_neg (hno y hl)]
    refine ⟨g6, cap6, w6, hr, g6, cap6, ?_, ?_, ?_, ?_⟩
    · rw [hj]; simp
    · rw [hj, cellsR_append, List.length_append]; exact own6
    · exact (Moves.of_below (A1.trans (A2.mono (by omega)))).trans ((Moves.of_grownN gr6).mono fun k hk => hk.symm)
    · rcases hat g6 (by simp [Value.ownBlock]) with h | h
      · exact .inl h
      · exact .inr (by have := A2.size; omega)
  have ext : ∀ d y, m = d ++ [y] → (y.2.1 + 1 = x.1 ∧ y.2.2 = x.2.2) → ∀ g, o = some ⟨g, 0, none⟩ → ∀ q, JoinPost m x base (.slice o m.length cap) w (.returned (.slice (some ⟨g, 0, none⟩) m.length cap)) ((w1.drewN q).setCell ⟨g, d.length * 3 + 1, none⟩ (.int .i64 x.2.1)) := fun d y hd hy g hg q => by
    subst hg
    have hl : m.getLast? = some y := by rw [hd]; simp
    have hdl : m.dropLast = d := by rw [hd]; simp
    have hj : joinL m x = d ++ [(y.1, x.2.1, y.2.2)] := by
      unfold joinL
      rw [hl]
      simp only
      rw [if_pos hy, hdl]
    have hlen : (joinL m x).length = m.length := by rw [hj, hd]; simp
    have hml : m.length = d.length + 1 := by rw [hd]; simp
    have o2 : (w1.drewN q).ownsRow base 49 3 (.slice (some ⟨g, 0, none⟩) m.length cap) m.length (cellsR m) := own_below o1 (Moves.below (Below.refl _ _) (Nat.le_refl _) (moves_drewN1 w1 q) (fun k h => h.elim))
    rw [hml] at o2
    have o3 := own_set (d := d) (y := y) x.2.1 (by rw [← hd]; exact o2)
    refine ⟨g, cap, by rw [hlen], ?_, ?_, .inl rfl⟩
    · rw [hlen, hj, hml]; exact o3
    · exact ((Moves.of_below A1).trans ((moves_drewN1 w1 q).mono fun k h => h.elim)).trans (Moves.setCell (by rfl))
  obtain ⟨P, hP⟩ : ∃ P, JoinPost m x base (.slice o m.length cap) w = P := ⟨_, rfl⟩
  rw [hP] at grow ext ⊢
  have GR := Lib.hid grow
  have EX := Lib.hid ext
  have HO1 := Lib.hid o1
  have HW1 := Lib.hid hw1
  have HBD := Lib.hid hb
  obtain ⟨n, hnn⟩ : ∃ n, m.length = n := ⟨_, rfl⟩
  have HN := Lib.hid hnn
  rw [hnn] at hn ⊢
  obtain ⟨q0, q1, q2, _⟩ := rng_cells x1
  clear grow ext hP ho o1 hw1 A1 x1 hnn hb
  obtain ⟨a, b, v⟩ := x
  simp only at q0 q1 q2 GR EX HW1
  go_enter Tryd.func55, Tryd.ntmps55
  go_wp2_with fail
  rw [HW1.out]
  rcases Nat.eq_zero_or_pos n with h0 | hpos
  · subst h0
    have hm0 : m = [] := List.eq_nil_of_length_eq_zero HN.out
    have G2 := Lib.hid (GR.out (fun y hy => by rw [hm0] at hy; simp at hy))
    clear hm0 GR EX
    go_wp2_with fail
    go_quiet (fail)
    obtain ⟨g6, cap6, w6, hr, hp⟩ := G2.out nq
    rw [HN.out] at hr hp
    obtain ⟨w2, hw2⟩ : ∃ w2, w1.drewN nq = w2 := ⟨_, rfl⟩
    have s0 : w2.cell? ⟨w.heap.size, 0, none⟩ = some (.int .i64 a) := by rw [← hw2]; exact q0
    have s1 : w2.cell? ⟨w.heap.size, 1, none⟩ = some (.int .i64 b) := by rw [← hw2]; exact q1
    have s2 : w2.cell? ⟨w.heap.size, 2, none⟩ = some (.int .i64 v) := by rw [← hw2]; exact q2
    have z2 : w2.heap.size = w1.heap.size := by rw [← hw2]; rfl
    rw [hw2] at hr ⊢
    rw [z1] at hr
    have HPP := Lib.hid hp
    clear hp hw2 q0 q1 q2
    go_wp2
    exact HPP.out
  · obtain ⟨k, rfl⟩ : ∃ k, n = k + 1 := ⟨n - 1, by omega⟩
    obtain ⟨y, hy⟩ : ∃ y, m[k]? = some y := ⟨_, List.getElem?_eq_getElem (by rw [HN.out]; omega)⟩
    have hd : m = m.take k ++ [y] := by
      have h1 : m = m.take (k + 1) := (List.take_of_length_le (by rw [HN.out]; exact Nat.le_refl _)).symm
      rw [List.take_add_one, hy] at h1
      exact h1
    have hdl : (m.take k).length = k := by rw [List.length_take, HN.out]; omega
    have hlast : m.getLast? = some y := by rw [List.getLast?_eq_getElem?, HN.out]; exact hy
    obtain ⟨g, rfl⟩ : ∃ g, o = some ⟨g, 0, none⟩ := by
      rcases HO1.out.2 with ⟨hv, h0⟩ | ⟨g', cap', cur, hv, _⟩
      · rw [HN.out] at h0; omega
      · exact ⟨g', by simpa using (Value.slice.inj hv).1⟩
    obtain ⟨k0, k1, k2, fz⟩ := own_at HO1.out hy
    have hyb := HBD.out y (List.mem_of_getElem? hy)
    have hgl := World.block_lt_of_cell? w1 _ k0
    obtain ⟨ya, yb, yv⟩ := y
    simp only at k0 k1 k2 hyb
    have hwy : IntKind.i64.wrap (yb + 1) = yb + 1 := wrap_id (by omega) (by omega)
    have hwk : IntKind.i64.wrap (((k : Nat) : Int) + 1 - 1) = (k : Nat) := by rw [show ((k : Nat) : Int) + 1 - 1 = (k : Nat) from by omega]; exact wrap_id (by omega) (by omega)
    have hwk2 : IntKind.i64.wrap ((k : Nat) : Int) = (k : Nat) := wrap_id (by omega) (by omega)
    have hkb : k < 1000000 := by omega
    by_cases e1 : yb + 1 = a
    · have hb1 : (yb + 1 == a) = true := by simpa using e1
      by_cases e2 : yv = v
      · have hb2 : (yv == v) = true := by simpa using e2
        have E2 := Lib.hid fun q => EX.out _ _ hd ⟨e1, e2⟩ g rfl q
        have HDL := Lib.hid hdl
        clear EX GR hd hlast hy hdl e1 e2
        go_wp2_with fail
        go_quiet (fail)
        have hp := E2.out nq
        rw [HN.out, HDL.out] at hp
        obtain ⟨w2, hw2⟩ : ∃ w2, w1.drewN nq = w2 := ⟨_, rfl⟩
        have s1 : w2.cell? ⟨w.heap.size, 1, none⟩ = some (.int .i64 b) := by rw [← hw2]; exact q1
        have t1 : w2.cell? ⟨g, k * 3 + 1, none⟩ = some (.int .i64 yb) := by rw [← hw2]; exact k1
        have t2 : w2.frozen? ⟨g, k * 3 + 1, none⟩ = false := by rw [← hw2]; exact fz
        rw [hw2] at hp ⊢
        have HPP := Lib.hid hp
        clear hp hw2 q0 q1 q2 k0 k1 k2 fz
        go_wp2
        exact HPP.out
      · have hb2 : (yv == v) = false := by simpa using e2
        have G2 := Lib.hid (GR.out (fun z hz => by rw [hlast] at hz; cases hz; exact fun h => e2 h.2))
        clear EX GR hd hlast hy hdl e1 e2
        go_wp2_with fail
        go_quiet (fail)
        obtain ⟨g6, cap6, w6, hr, hp⟩ := G2.out nq
        rw [HN.out] at hr hp
        obtain ⟨w2, hw2⟩ : ∃ w2, w1.drewN nq = w2 := ⟨_, rfl⟩
        have s0 : w2.cell? ⟨w.heap.size, 0, none⟩ = some (.int .i64 a) := by rw [← hw2]; exact q0
        have s1 : w2.cell? ⟨w.heap.size, 1, none⟩ = some (.int .i64 b) := by rw [← hw2]; exact q1
        have s2 : w2.cell? ⟨w.heap.size, 2, none⟩ = some (.int .i64 v) := by rw [← hw2]; exact q2
        have z2 : w2.heap.size = w1.heap.size := by rw [← hw2]; rfl
        rw [hw2] at hr ⊢
        rw [z1] at hr
        have HPP := Lib.hid hp
        clear hp hw2 q0 q1 q2
        go_wp2
        exact HPP.out
    · have hb1 : (yb + 1 == a) = false := by simpa using e1
      have G2 := Lib.hid (GR.out (fun z hz => by rw [hlast] at hz; cases hz; exact fun h => e1 h.1))
      clear EX GR hd hlast hy hdl e1
      go_wp2_with fail
      go_quiet (fail)
      obtain ⟨g6, cap6, w6, hr, hp⟩ := G2.out nq
      rw [HN.out] at hr hp
      obtain ⟨w2, hw2⟩ : ∃ w2, w1.drewN nq = w2 := ⟨_, rfl⟩
      have s0 : w2.cell? ⟨w.heap.size, 0, none⟩ = some (.int .i64 a) := by rw [← hw2]; exact q0
      have s1 : w2.cell? ⟨w.heap.size, 1, none⟩ = some (.int .i64 b) := by rw [← hw2]; exact q1
      have s2 : w2.cell? ⟨w.heap.size, 2, none⟩ = some (.int .i64 v) := by rw [← hw2]; exact q2
      have z2 : w2.heap.size = w1.heap.size := by rw [← hw2]; rfl
      rw [hw2] at hr ⊢
      rw [z1] at hr
      have HPP := Lib.hid hp
      clear hp hw2 q0 q1 q2
      go_wp2
      exact HPP.out
end Go.Proofs.YtlmkefmfhdjmmaaDoor
