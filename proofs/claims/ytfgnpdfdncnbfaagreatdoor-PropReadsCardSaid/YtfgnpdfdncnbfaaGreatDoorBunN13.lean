/- layerOf, laid, stretches: what lay stands on. Rows of ranges that the call owns: one behind them, one between them; copy from row to row. slices.Insert of one range into a row of ranges that the call owns. put: a range at its place, unless it laps. join: a range behind a tight map. -/
import Derived.Test.YtfgnpdfdncnbfaaGreatDoorBunN11
import Derived.Test.YtfgnpdfdncnbfaaGreatDoorBunN4
import Derived.Maps.AppendAt
import Derived.Lib.AppendZerosOnto
import Derived.Lib.Overlaps
import Derived.Laws.CopyRow
import Derived.Test.YtfgnpdfdncnbfaaGreatDoorBunN8
namespace Go.Proofs.YtfgnpdfdncnbfaaGreatDoor
open Go.RowKit Go.Shelf Go.Maps

def layerR (o : Option Addr) (l : List Rng) : Value := if rightL l then .tuple #[layerV o l.length l.length, .nilIface] else .tuple #[layerV none 0 0, faultV 22 0]
set_option maxRecDepth 100000 in
set_option maxHeartbeats 1000000 in
theorem layerOf_any (o : Option Addr) (l : List Rng) (cap : Nat) (hn : l.length ≤ 1000000) (hcap : l.length ≤ cap) (w : World) (hA : AtR w o l) :
    Calls Tryz.prog 60 #[.slice o l.length cap] w fun e w' => e = .returned (layerR o l) ∧ Below w.heap.size w w' := by
  obtain ⟨w1, hw1⟩ : ∃ w1, w.alloc (layerO none 0 0) = w1 := ⟨_, rfl⟩
  have A1 : Below w.heap.size w w1 := by rw [← hw1]; exact (Below.refl _ _).alloc (Nat.le_refl _) _
  have z1 : w1.heap.size = w.heap.size + 1 := by rw [← hw1]; simp
  have r1 : w1.heap[w.heap.size]? = some (layerO none 0 0) := by rw [← hw1]; exact heap_alloc_new _ _
  have hch := chartOf_any o l.length cap hcap w1
  have hmap := fun W (h : AtR W o l) => isMap_any o l l.length hn W h
  obtain ⟨D, hD⟩ : ∃ D, decide (rightL l) = D := ⟨_, rfl⟩
  rw [hD] at hmap
  have HRES : Hid (layerR o l = if D then .tuple #[layerV o l.length l.length, .nilIface] else .tuple #[layerV none 0 0, faultV 22 0]) := by
    unfold layerR
    rw [← hD]
    by_cases h : rightL l
    · rw [if_pos h, decide_eq_true h]; exact Lib.hid rfl
    · rw [if_neg h, decide_eq_false h]; exact Lib.hid rfl
  obtain ⟨R, hR⟩ : ∃ R, layerR o l = R := ⟨_, rfl⟩
  rw [hR] at HRES ⊢
  obtain ⟨n, hnn⟩ : ∃ n, l.length = n := ⟨_, rfl⟩
  rw [hnn] at hch hmap HRES hcap hn ⊢
  have HCH := Lib.hid hch
  have HMAP := Lib.hid hmap
  have HA := Lib.hid (hA.below A1)
  have HA1 := Lib.hid A1
  have HR1 := Lib.hid r1
  have HW1 := Lib.hid hw1
  clear hch hmap hA A1 r1 hw1 hD hR hnn
  go_enter Tryz.func60, Tryz.ntmps60
  go_wp2_with fail
  rw [HW1.out]
  refine HCH.out.mono ?_
  rintro e w2 ⟨rfl, b2⟩
  have r2 := row_below HR1.out b2
  have a2 := HA.out.below b2
  have lt2 := (Array.getElem?_eq_some_iff.1 r2).1
  have A3 : Below w2.heap.size w2 (w2.alloc (layerO o n n)) := (Below.refl _ _).alloc (Nat.le_refl _) _
  have HM := Lib.hid (HMAP.out _ (a2.below A3))
  have r3 := row_below r2 A3
  have q3 : (w2.alloc (layerO o n n)).heap[w2.heap.size]? = some (layerO o n n) := heap_alloc_new _ _
  have B3 := HA1.out.trans ((b2.trans (A3.mono b2.size)).mono (by omega))
  have HR3 := Lib.hid r3
  have HQ3 := Lib.hid q3
  have HB3 := Lib.hid B3
  clear r2 a2 b2 A3 r3 q3 B3 HMAP HCH
  go_wp2_with fail
  refine HM.out.mono ?_
  rintro e w4 ⟨rfl, b4⟩
  have r4 := row_below HR3.out b4
  have q4 := row_below HQ3.out b4
  have B4 := HB3.out.trans (b4.mono HB3.out.size)
  have lt4 := (Array.getElem?_eq_some_iff.1 r4).1
  have c4 : w4.cell? ⟨w2.heap.size, 0, none⟩ = some (.slice o n n) := by rw [cell_of_row _ _ 0 _ _ _ q4]; rfl
  have d4 : w4.cell? ⟨w.heap.size, 0, none⟩ = some (.slice none 0 0) := by rw [cell_of_row _ _ 0 _ _ _ r4]; rfl
  have f4 : w4.frozen? ⟨w.heap.size, 0, none⟩ = false := frozen_of_row _ _ _ _ _ r4
  have HR4 := Lib.hid r4
  have HB4 := Lib.hid B4
  clear r4 q4 b4 B4
  cases D
  · go_wp2
    refine bodyPost_ret (v := .tuple #[.agg #[.slice none 0 0], faultV 22 0]) ?_ rfl ⟨by rw [HRES.out]; rfl, HB4.out.setCell (Nat.le_refl _) _⟩
    exact results_cell_tmp rfl _ _ w.heap.size 96 #[.slice none 0 0] (0, 0) _ _ rfl rfl (by rw [heap_setCell_same _ _ 0 _ _ _ HR4.out]; rfl) Tryz.underlying96 rfl (by kernel_rfl)
  · go_wp2
    refine bodyPost_ret (v := .tuple #[.agg #[.slice o n n], .nilIface]) ?_ rfl ⟨by rw [HRES.out]; rfl, HB4.out.setCell (Nat.le_refl _) _⟩
    exact results_cell_tmp rfl _ _ w.heap.size 96 #[.slice o n n] (0, 0) _ _ rfl rfl (by rw [heap_setCell_same _ _ 0 _ _ _ HR4.out]; rfl) Tryz.underlying96 rfl (by kernel_rfl)
theorem laid_any (o : Option Addr) (n cap : Nat) (w : World) : Calls Tryz.prog 61 #[.slice o n cap] w fun e w' => e = .returned (.func (.func 80) #[] #[.pointer (some ⟨w.heap.size, 0, none⟩)]) ∧ w.alloc (.cells #[.slice o n cap] 94) = w' := by
  go_enter Tryz.func61, Tryz.ntmps61
  go_wp2
  go_ret
  exact ⟨rfl, rfl⟩
theorem stretches_any (b : Option Nat) (w : World) : Calls Tryz.prog 62 #[.map b] w fun e w' => e = .returned (.func (.func 83) #[] #[.pointer (some ⟨w.heap.size, 0, none⟩)]) ∧ w.alloc (.cells #[.map b] 103) = w' := by
  go_enter Tryz.func62, Tryz.ntmps62
  go_wp2
  go_ret
  exact ⟨rfl, rfl⟩
end Go.Proofs.YtfgnpdfdncnbfaaGreatDoor

namespace Go.Proofs.YtfgnpdfdncnbfaaGreatDoor
open Go.RowKit Go.Shelf Go.Maps

theorem infoRng : (Tryz.prog.info? 53).map (fun i => (i.zero, i.size, i.bytes)) = some (some (rngV (0, 0, 0)), 3, 24) := by kernel_rfl
theorem cellsR_append (a b : List Rng) : cellsR (a ++ b) = cellsR a ++ cellsR b := by unfold cellsR; rw [List.flatMap_append]
theorem cellsR_one (x : Rng) : cellsR [x] = [.int .i64 x.1, .int .i64 x.2.1, .int .i64 x.2.2] := rfl
theorem cellsR_length : ∀ l : List Rng, (cellsR l).length = l.length * 3
  | [] => rfl
  | x :: l => by
    have := cellsR_length l
    unfold cellsR at this ⊢
    rw [List.flatMap_cons, List.length_append, this]
    simp
    omega
theorem cellsR_one' (l : List Rng) : ∀ u ∈ cellsR l, u.oneCell' = true := by
  intro u hu
  unfold cellsR at hu
  obtain ⟨x, _, hu⟩ := List.mem_flatMap.1 hu
  simp only [List.mem_cons, List.not_mem_nil, or_false] at hu
  rcases hu with rfl | rfl | rfl <;> rfl
theorem cellsR_get : ∀ {l : List Rng} {j : Nat} {x : Rng}, l[j]? = some x → (cellsR l)[j * 3]? = some (.int .i64 x.1) ∧ (cellsR l)[j * 3 + 1]? = some (.int .i64 x.2.1) ∧ (cellsR l)[j * 3 + 2]? = some (.int .i64 x.2.2)
  | [], j, x, h => by simp at h
  | y :: l, 0, x, h => by
    obtain rfl : y = x := by simpa using h
    exact ⟨rfl, rfl, rfl⟩
  | y :: l, j + 1, x, h => by
    have := cellsR_get (l := l) (j := j) (x := x) (by simpa using h)
    unfold cellsR at this ⊢
    rw [List.flatMap_cons]
    rw [show (j + 1) * 3 = j * 3 + 3 from by omega]
    simpa using this
theorem addr_atN (g i : Nat) : (⟨g, 0, none⟩ : Addr).add i = ⟨g, i, none⟩ := by unfold Addr.add; split <;> simp_all
/-- Of an ownN row each range is at its place. -/
theorem at_own {w : World} {base : Nat} {o : Option Addr} {l : List Rng} {cap : Nat} (h : w.ownsRow base 53 3 (.slice o l.length cap) l.length (cellsR l)) : AtR w o l := fun hn => by
  rcases h.2 with ⟨_, h0⟩ | ⟨g, cap', cur, e, _, hg, _, _, _, htake⟩
  · omega
  · obtain ⟨rfl, rfl⟩ : o = some ⟨g, 0, none⟩ ∧ cap = cap' := by simpa using e
    have key : ∀ i u, (cellsR l)[i]? = some u → w.cell? ⟨g, i, none⟩ = some u := fun i u hu => by
      rw [cell_of_row _ _ i _ _ _ hg]
      rw [← htake, List.getElem?_take] at hu
      split at hu
      · rwa [Array.getElem?_toList] at hu
      · cases hu
    refine ⟨g, 0, rfl, fun j x hx => ?_⟩
    obtain ⟨h0, h1, h2⟩ := cellsR_get hx
    rw [Nat.zero_add]
    exact ⟨key _ _ h0, key _ _ h1, key _ _ h2⟩
theorem own_capR {w : World} {base : Nat} {o : Option Addr} {l : List Rng} {cap : Nat} (h : w.ownsRow base 53 3 (.slice o l.length cap) l.length (cellsR l)) : l.length ≤ cap := own_cap h
/-- append of one range. -/
theorem rng_own {W : World} {base k : Nat} {v : Value} {xs : List Value} (x : Rng) (ho : W.ownsRow base 53 3 v k xs) (hk : k ≤ 100000) (hbase : base ≤ W.heap.size) {e : Nat} (he : W.heap[e]? = some (rngO x)) :
    ∃ g cap w6, (appSem #[26, 26] 26 #[v, .slice (some ⟨e, 0, none⟩) 1 1]).run Tryz.prog W = .ok (.slice (some ⟨g, 0, none⟩) (k + 1) cap) w6 ∧
      w6.ownsRow base 53 3 (.slice (some ⟨g, 0, none⟩) (k + 1) cap) (k + 1) (xs ++ cellsR [x]) ∧ W.grownBy w6 v.ownBlock ∧ (∀ j, (Value.slice (some ⟨g, 0, none⟩) (k + 1) cap).ownBlock = some j → v.ownBlock = some j ∨ j = W.heap.size) := by
  obtain ⟨i0, hi, hz0, hz1, hz2⟩ := info_parts infoRng
  obtain ⟨c0, c1, c2, _⟩ := rng_cells he
  obtain ⟨v', w6, hr, h2, h3, h4, h5⟩ := run_append_own_at (P := Tryz.prog) W base 26 26 53 i0 (rngV (0, 0, 0)) 3 24 Tryz.underlying26 hi hz0 hz1 hz2 rfl (by decide) v k xs ho ⟨e, 0, none⟩ 1 1 (cellsR [x]) rfl
    (fun j u hj => by
      match j, hj with
      | 0, hj => cases hj; exact c0
      | 1, hj => cases hj; exact c1
      | 2, hj => cases hj; exact c2) (cellsR_one' _) (by unfold maxLen; omega) (by omega) hbase
  obtain ⟨g, cap, rfl⟩ := ownsRow_succ h2
  exact ⟨g, cap, w6, hr, h2, h3, fun j hj => h5.imp (fun h => h.symm.trans hj) (fun h => by rw [h] at hj; cases hj; rfl)⟩
/-- copy behind a name that the walk does not open. -/
def copSem (ats : Array TypeId) (ty : TypeId) (args : Array Value) : Sem Value := Builtin.copy_ ats ty args
theorem cop_hide (ats : Array TypeId) (ty : TypeId) (args : Array Value) : Builtin.copy_ ats ty args = copSem ats ty args := rfl
theorem run_copyR (w : World) (ty : TypeId) (g o dLen dCap : Nat) (a : Addr) (sLen sCap : Nat) (cur : List Value) (t : TypeId) (cs : List Value) (k : Nat) (hk : Nat.min sLen dLen = k)
    (hg : w.heap[g]? = some (.cells cur.toArray t (0, 0))) (hn : cs.length = k * 3) (hsrc : ∀ j v, cs[j]? = some v → w.cell? (a.add j) = some v) (hfit : o + cs.length ≤ cur.length) (h1 : ∀ v ∈ cs, v.oneCell' = true) :
    (copSem #[26, 26] ty #[.slice (some ⟨g, o, none⟩) dLen dCap, .slice (some a) sLen sCap]).run Tryz.prog w =
      .ok (goInt k) (w.setRow g (cur.take o ++ cs ++ cur.drop (o + cs.length)).toArray) := by
  obtain ⟨i0, hi, hz0, hz1, hz2⟩ := info_parts infoRng
  have hl := run_loadCells_list (P := Tryz.prog) w a cs hsrc
  rw [hn] at hl
  have hst := run_storeCells_at Tryz.prog g o t cs 0 cur.toArray w hg (by simpa using hfit) h1
  simp [copSem, Builtin.copy_, run_underlying Tryz.underlying26, Builtin.lenOf, Builtin.firstCells, sizeOf, typeInfo, hi, hz1, hk, hl, hst]
/-- A row into which cells have been put between others. -/
theorem put_shift {α : Type} (L A X B : List α) (hA : L.take A.length = A) (hL : A.length + X.length + B.length ≤ L.length) :
    let L1 := L.take (A.length + X.length) ++ B ++ L.drop (A.length + X.length + B.length)
    ∃ R, L1.take A.length ++ X ++ L1.drop (A.length + X.length) = A ++ X ++ B ++ R ∧ (A ++ X ++ B ++ R).length = L.length := by
  intro L1
  refine ⟨L.drop (A.length + X.length + B.length), ?_, by simp; omega⟩
  have h1 : L1.take A.length = A := by
    show (L.take (A.length + X.length) ++ B ++ L.drop (A.length + X.length + B.length)).take A.length = A
    rw [List.append_assoc, List.take_append_of_le_length (by rw [List.length_take]; omega), List.take_take, Nat.min_eq_left (by omega), hA]
  have h2 : L1.drop (A.length + X.length) = B ++ L.drop (A.length + X.length + B.length) := by
    show (L.take (A.length + X.length) ++ B ++ L.drop (A.length + X.length + B.length)).drop (A.length + X.length) = _
    have hl : (L.take (A.length + X.length)).length = A.length + X.length := by rw [List.length_take]; omega
    have := List.drop_left (l₁ := L.take (A.length + X.length)) (l₂ := B ++ L.drop (A.length + X.length + B.length))
    rw [hl] at this
    rw [List.append_assoc]
    exact this
  rw [h1, h2]
  simp
theorem put_fresh {α : Type} (L A X B : List α) (hA : L.take A.length = A) (hL : A.length + X.length + B.length ≤ L.length) :
    let L1 := L.take A.length ++ X ++ L.drop (A.length + X.length)
    ∃ R, L1.take (A.length + X.length) ++ B ++ L1.drop (A.length + X.length + B.length) = A ++ X ++ B ++ R ∧ (A ++ X ++ B ++ R).length = L.length := by
  intro L1
  have e : L1 = (A ++ X) ++ L.drop (A.length + X.length) := by show L.take A.length ++ X ++ _ = _; rw [hA]
  have hl : (A ++ X).length = A.length + X.length := List.length_append
  refine ⟨L1.drop (A.length + X.length + B.length), ?_, ?_⟩
  · have h1 : L1.take (A.length + X.length) = A ++ X := by rw [e, ← hl, List.take_left]
    rw [h1]
  · have : L1.length = L.length := by rw [e, List.length_append, hl, List.length_drop]; omega
    rw [List.length_append, List.length_append, hl, List.length_drop, this]
    omega
end Go.Proofs.YtfgnpdfdncnbfaaGreatDoor

namespace Go.Proofs.YtfgnpdfdncnbfaaGreatDoor
open Go.RowKit Go.Shelf Go.Maps
attribute [local go_sem ↓] app_hide cop_hide

theorem own_of_row {W : World} {base g cap : Nat} {l : List Rng} {cur : List Value} (hg : W.heap[g]? = some (.cells cur.toArray 53 (0, 0))) (hb : base ≤ g) (hc : l.length ≤ cap) (hm : cap ≤ maxLen) (hs : cur.length = cap * 3) (ht : cur.take (l.length * 3) = cellsR l) :
    W.ownsRow base 53 3 (.slice (some ⟨g, 0, none⟩) l.length cap) l.length (cellsR l) :=
  ⟨cellsR_length l, .inr ⟨g, cap, _, rfl, hb, hg, hc, hm, by simpa using hs, by simpa using ht⟩⟩
def insAt (l : List Rng) (i : Nat) (x : Rng) : List Rng := l.take i ++ [x] ++ l.drop i
theorem insAt_length {l : List Rng} {i : Nat} (hi : i ≤ l.length) (x : Rng) : (insAt l i x).length = l.length + 1 := by unfold insAt; simp; omega
/-- What Insert leaves. -/
def InsPost (l : List Rng) (i : Nat) (x : Rng) (base : Nat) (v : Value) (w : World) (e : Ending) (w' : World) : Prop :=
  ∃ g cap, e = .returned (.slice (some ⟨g, 0, none⟩) (l.length + 1) cap) ∧ w'.ownsRow base 53 3 (.slice (some ⟨g, 0, none⟩) (l.length + 1) cap) (l.length + 1) (cellsR (insAt l i x)) ∧ w.grownBy w' v.ownBlock ∧ (v.ownBlock = some g ∨ w.heap.size ≤ g)
set_option maxRecDepth 100000 in
set_option maxHeartbeats 1000000 in
/-- At the end. -/
theorem ins_end {o : Option Addr} {l : List Rng} {cap base e : Nat} (x : Rng) (w : World) (ho : w.ownsRow base 53 3 (.slice o l.length cap) l.length (cellsR l)) (hn : l.length ≤ 10000) (hbase : base ≤ w.heap.size) (he : w.heap[e]? = some (rngO x)) :
    Calls Tryz.prog 121 #[.slice o l.length cap, .int .i64 (l.length : Nat), .slice (some ⟨e, 0, none⟩) 1 1] w (InsPost l l.length x base (.slice o l.length cap) w) := by
  have hcap := own_cap ho
  have hcm : cap ≤ maxLen := by
    rcases ho.2 with ⟨h, _⟩ | ⟨g, cap', cur, h, _, _, _, hm, _⟩
    · simp at h; unfold maxLen; omega
    · cases h; exact hm
  unfold maxLen at hcm
  obtain ⟨g6, cap6, w6, hr, own6, hg6, hat⟩ := rng_own x ho (by omega) hbase he
  have HPOST : Hid (InsPost l l.length x base (.slice o l.length cap) w (.returned (.slice (some ⟨g6, 0, none⟩) (l.length + 1) cap6)) w6) := by
    refine Lib.hid ⟨g6, cap6, rfl, ?_, hg6, ?_⟩
    · have e1 : cellsR (insAt l l.length x) = cellsR l ++ cellsR [x] := by
        unfold insAt
        rw [List.take_length, List.drop_length, List.append_nil, cellsR_append]
      rw [e1]
      exact own6
    · rcases hat g6 (by simp [Value.ownBlock]) with h | h
      · exact .inl h
      · exact .inr (by omega)
  obtain ⟨P, hP⟩ : ∃ P, InsPost l l.length x base (.slice o l.length cap) w = P := ⟨_, rfl⟩
  rw [hP] at HPOST ⊢
  obtain ⟨n, hnn⟩ : ∃ n, l.length = n := ⟨_, rfl⟩
  rw [hnn] at hr hcap hn HPOST ⊢
  clear hP hnn ho he own6 hg6 hat
  go_enter Tryz.func121, Tryz.ntmps121
  go_wp2
  all_goals exact HPOST.out
set_option maxRecDepth 100000 in
set_option maxHeartbeats 1000000 in
/-- Between, where there is room. -/
theorem ins_room {g e : Nat} {l : List Rng} {cap base i : Nat} (x : Rng) (w : World) (ho : w.ownsRow base 53 3 (.slice (some ⟨g, 0, none⟩) l.length cap) l.length (cellsR l)) (hn : l.length ≤ 10000) (hi : i < l.length) (hroom : l.length < cap) (hne : e ≠ g) (he : w.heap[e]? = some (rngO x)) :
    Calls Tryz.prog 121 #[.slice (some ⟨g, 0, none⟩) l.length cap, .int .i64 (i : Nat), .slice (some ⟨e, 0, none⟩) 1 1] w (InsPost l i x base (.slice (some ⟨g, 0, none⟩) l.length cap) w) := by
  obtain ⟨g', cap', cur, hv, hbg, hg, hnc, hcm, hcs, htake⟩ := (show _ from ho.2.resolve_left (fun h => by have := h.2; omega) : ∃ g' cap' cur, _)
  obtain ⟨rfl, rfl⟩ : g = g' ∧ cap = cap' := by simpa using hv
  obtain ⟨L, hL⟩ : ∃ L, cur.toList = L := ⟨_, rfl⟩
  have hgL : w.heap[g]? = some (.cells L.toArray 53 (0, 0)) := by rw [← hL]; simpa using hg
  have hLl : L.length = cap * 3 := by rw [← hL]; simpa using hcs
  rw [hL] at htake
  have hsplit : cellsR l = cellsR (l.take i) ++ cellsR (l.drop i) := by rw [← cellsR_append, List.take_append_drop]
  have lA : (cellsR (l.take i)).length = i * 3 := by rw [cellsR_length, List.length_take, Nat.min_eq_left (by omega)]
  have lB : (cellsR (l.drop i)).length = (l.length - i) * 3 := by rw [cellsR_length, List.length_drop]
  have lX : (cellsR [x]).length = 3 := rfl
  have hA : L.take (cellsR (l.take i)).length = cellsR (l.take i) := by
    have h1 : L.take (cellsR (l.take i)).length = (L.take (l.length * 3)).take (cellsR (l.take i)).length := by rw [List.take_take, Nat.min_eq_left (by omega)]
    rw [h1, htake, hsplit, List.take_left]
  obtain ⟨R, hR, hRl⟩ := put_shift L _ (cellsR [x]) (cellsR (l.drop i)) hA (by omega)
  rw [lA, lB, lX] at hR
  have hcell : ∀ j v, (cellsR (l.drop i))[j]? = some v → w.drew.cell? ((⟨g, i * 3, none⟩ : Addr).add j) = some v := fun j v hj => by
    have hadd : (⟨g, i * 3, none⟩ : Addr).add j = ⟨g, i * 3 + j, none⟩ := by unfold Addr.add; split <;> simp_all
    rw [hadd]
    show w.cell? _ = _
    rw [cell_of_row _ _ (i * 3 + j) _ _ _ hgL]
    have h1 : (cellsR l)[i * 3 + j]? = some v := by rw [hsplit, List.getElem?_append_right (by omega), lA, show i * 3 + j - i * 3 = j from by omega]; exact hj
    rw [← htake, List.getElem?_take] at h1
    split at h1
    · simpa using h1
    · cases h1
  obtain ⟨c0, c1, c2, fz⟩ := rng_cells he
  have hc1 := fun ty => run_copyR w.drew ty g ((i + 1) * 3) (l.length - i) (cap - (i + 1)) ⟨g, i * 3, none⟩ (l.length + 1 - i) (cap - i) L 53 (cellsR (l.drop i)) (l.length - i) (by simp only [Nat.min_def]; split <;> omega) hgL lB hcell (by omega) (cellsR_one' _)
  obtain ⟨W1, hW1⟩ : ∃ W1, w.drew.setRow g (L.take ((i + 1) * 3) ++ cellsR (l.drop i) ++ L.drop ((i + 1) * 3 + (cellsR (l.drop i)).length)).toArray = W1 := ⟨_, rfl⟩
  have hg1 : W1.heap[g]? = some (.cells (L.take ((i + 1) * 3) ++ cellsR (l.drop i) ++ L.drop ((i + 1) * 3 + (cellsR (l.drop i)).length)).toArray 53 (0, 0)) := by rw [← hW1]; exact setRow_heap w.drew _ _ _ _ _ hgL
  have he1 : W1.heap[e]? = some (rngO x) := by rw [← hW1]; exact (setRow_other w.drew _ _ _ hne).trans he
  have hm1 : Moves (fun k => k = g) w W1 := by
    rw [← hW1]
    exact ⟨rfl, rfl, rfl, by simp [World.setRow], fun k hk hk2 => setRow_other w.drew _ _ _ hk2⟩
  rw [hW1] at hc1
  obtain ⟨d0, d1, d2, _⟩ := rng_cells he1
  have hc2 := fun ty => run_copyR W1 ty g (i * 3) (l.length + 1 - i) (cap - i) ⟨e, 0, none⟩ 1 1 _ 53 (cellsR [x]) 1 (by simp only [Nat.min_def]; split <;> omega) hg1 lX (fun j v hj => by
      match j, hj with
      | 0, hj => cases hj; exact d0
      | 1, hj => cases hj; exact d1
      | 2, hj => cases hj; exact d2) (by simp only [List.length_append, List.length_take, List.length_drop, lX, lB, hLl]; omega) (cellsR_one' _)
  obtain ⟨W2, hW2⟩ : ∃ W2, W1.setRow g ((L.take ((i + 1) * 3) ++ cellsR (l.drop i) ++ L.drop ((i + 1) * 3 + (cellsR (l.drop i)).length)).take (i * 3) ++ cellsR [x] ++ (L.take ((i + 1) * 3) ++ cellsR (l.drop i) ++ L.drop ((i + 1) * 3 + (cellsR (l.drop i)).length)).drop (i * 3 + (cellsR [x]).length)).toArray = W2 := ⟨_, rfl⟩
  rw [hW2] at hc2
  have hg2 : W2.heap[g]? = some (.cells (cellsR (l.take i) ++ cellsR [x] ++ cellsR (l.drop i) ++ R).toArray 53 (0, 0)) := by
    rw [← hR, ← hW2, lX, lB, show (i + 1) * 3 = i * 3 + 3 from by omega]
    exact setRow_heap W1 _ _ _ _ _ (by rw [hg1, lB, show (i + 1) * 3 = i * 3 + 3 from by omega])
  have hm2 : Moves (fun k => k = g) w W2 := hm1.trans (by
    rw [← hW2]
    exact ⟨rfl, rfl, rfl, by simp [World.setRow], fun k hk hk2 => setRow_other W1 _ _ _ hk2⟩)
  have hlen := insAt_length (i := i) (l := l) (by omega) x
  have hcells : cellsR (insAt l i x) = cellsR (l.take i) ++ cellsR [x] ++ cellsR (l.drop i) := by unfold insAt; rw [cellsR_append, cellsR_append]
  have hRl2 : (cellsR (l.take i) ++ cellsR [x] ++ cellsR (l.drop i) ++ R).length = cap * 3 := by rw [hRl, hLl]
  have hown := own_of_row (base := base) (cap := cap) (l := insAt l i x) hg2 hbg (by omega) hcm hRl2 (by
    have h3 : (insAt l i x).length * 3 = (cellsR (insAt l i x)).length := (cellsR_length _).symm
    rw [h3, hcells, List.take_left])
  rw [hlen] at hown
  have HPOST : Hid (InsPost l i x base (.slice (some ⟨g, 0, none⟩) l.length cap) w (.returned (.slice (some ⟨g, 0, none⟩) (l.length + 1) cap)) W2) :=
    Lib.hid ⟨g, cap, rfl, hown, ⟨hm2.os, hm2.tape, hm2.output, hm2.size, fun k hk h => hm2.block k hk (fun e => h (by rw [e]; rfl))⟩, .inl rfl⟩
  obtain ⟨P, hP⟩ : ∃ P, InsPost l i x base (.slice (some ⟨g, 0, none⟩) l.length cap) w = P := ⟨_, rfl⟩
  rw [hP] at HPOST ⊢
  have hov : ∀ lb cb, (callFunc 147 #[.slice (some ⟨e, 0, none⟩) 1 1, .slice (some ⟨g, (i + 1) * 3, none⟩) lb cb]).run Tryz.prog w = .ok (.value (.bool false)) w := fun lb cb => by
    obtain ⟨i0, hi0, hz0, hz1, hz2⟩ := info_parts infoRng
    rw [run_callFunc_extern Tryz.func147 (by kernel_rfl) (by kernel_rfl) (by kernel_rfl) (e := Extern.SlicesOverlaps.overlaps #[26, 26] #[4]) (by kernel_rfl),
      Lib.run_overlaps_apart w 26 4 53 Tryz.underlying26 3 (fun w => by simp [sizeOf, typeInfo, hi0, hz1]) ⟨e, 0, none⟩ ⟨g, (i + 1) * 3, none⟩ 1 1 lb cb hne 53 53 3 (cap * 3) (by simp [World.shape?, he]) (by simp [World.shape?, hgL, hLl]) (by omega) fz (frozen_of_row _ _ _ _ _ he)]
    rfl
  obtain ⟨n, hnn⟩ : ∃ n, l.length = n := ⟨_, rfl⟩
  rw [hnn] at hc1 hc2 hn hi hroom HPOST ⊢
  have hcm2 : cap ≤ 9223372036854775807 := by unfold maxLen at hcm; omega
  have hz2 : ¬ (i = n) := by omega
  have hz3 : ¬ cap = i := by omega
  have hz4 : ¬ cap = i + 1 := by omega
  clear hP hown hRl2 hcells hlen hm2 hg2 hW2 hm1 he1 hg1 hW1 fz c0 c1 c2 d0 d1 d2 hcell hR hRl hA lX lB lA hsplit hLl hgL htake hL hcs hg ho hv he hnn hnc hcm
  go_enter Tryz.func121, Tryz.ntmps121
  go_wp2_with (simp only [hov])
  go_region
  all_goals
    go_wp2
    exact HPOST.out
set_option maxRecDepth 100000 in
set_option maxHeartbeats 1000000 in
/-- Between, where there is no room. -/
theorem ins_grow {g e : Nat} {l : List Rng} {base i : Nat} (x : Rng) (w : World) (ho : w.ownsRow base 53 3 (.slice (some ⟨g, 0, none⟩) l.length l.length) l.length (cellsR l)) (hn : l.length ≤ 10000) (hbase : base ≤ w.heap.size) (hi : i < l.length) (he : w.heap[e]? = some (rngO x)) :
    Calls Tryz.prog 121 #[.slice (some ⟨g, 0, none⟩) l.length l.length, .int .i64 (i : Nat), .slice (some ⟨e, 0, none⟩) 1 1] w (InsPost l i x base (.slice (some ⟨g, 0, none⟩) l.length l.length) w) := by
  have hA0 := at_own ho
  obtain ⟨g', cap', cur, hv, hbg, hg, hnc, hcm, hcs, htake⟩ := (show _ from ho.2.resolve_left (fun h => by have := h.2; omega) : ∃ g' cap' cur, _)
  obtain ⟨rfl, rfl⟩ : g = g' ∧ l.length = cap' := by simpa using hv
  have hgl : g < w.heap.size := (Array.getElem?_eq_some_iff.1 hg).1
  have hel : e < w.heap.size := (Array.getElem?_eq_some_iff.1 he).1
  have hsplit : cellsR l = cellsR (l.take i) ++ cellsR (l.drop i) := by rw [← cellsR_append, List.take_append_drop]
  have lA : (cellsR (l.take i)).length = i * 3 := by rw [cellsR_length, List.length_take, Nat.min_eq_left (by omega)]
  have lB : (cellsR (l.drop i)).length = (l.length - i) * 3 := by rw [cellsR_length, List.length_drop]
  have lX : (cellsR [x]).length = 3 := rfl
  have key : ∀ j v, (cellsR l)[j]? = some v → w.cell? ⟨g, j, none⟩ = some v := fun j v hj => by
    rw [cell_of_row _ _ j _ _ _ hg]
    rw [← htake, List.getElem?_take] at hj
    split at hj
    · rwa [Array.getElem?_toList] at hj
    · cases hj
  obtain ⟨i0, hi0, hz0, hz1, hz2⟩ := info_parts infoRng
  have hold : (Builtin.firstCells i0.size i (.slice (some ⟨g, 0, none⟩) i l.length)).run Tryz.prog w.drew = .ok (cellsR (l.take i)).toArray w.drew := by
    rw [hz1]
    refine run_firstCells_some w.drew 3 i ⟨g, 0, none⟩ i l.length (cellsR (l.take i)) lA fun j v hj => ?_
    rw [addr_atN]
    refine key j v ?_
    rw [hsplit, List.getElem?_append_left (List.getElem?_eq_some_iff.1 hj).1]
    exact hj
  have hr0 := fun ty => Lib.run_append_grow_zeros (P := Tryz.prog) w 26 3 ty 53 i0 (rngV (0, 0, 0)) .i64 .i64 Tryz.underlying26 Tryz.underlying3 hi0 hz0 (some ⟨g, 0, none⟩) i l.length (cellsR (l.take i)) hold (l.length + 1 - i) (by omega) (by omega) (by omega) (by omega) (by rw [hz2]; omega) (by rw [hz2]; exact growslice_fits (by omega) (by omega))
  have hsum : i + (l.length + 1 - i) = l.length + 1 := by omega
  obtain ⟨G, hG⟩ : ∃ G, grownCap w (i + (l.length + 1 - i)) l.length 53 = G := ⟨_, rfl⟩
  have hGn : l.length + 1 ≤ G := by rw [← hG]; have := grownCap_ge w (i + (l.length + 1 - i)) l.length 53; omega
  have hGm : G ≤ maxLen := by rw [← hG]; exact grownCap_le_maxLen w _ _ _ (by unfold maxLen; omega)
  rw [hG, hsum] at hr0
  have hcast : (((l.length + 1 - i : Nat)) : Int) = ((l.length : Nat) : Int) + 1 - (i : Nat) := by omega
  rw [hcast] at hr0
  obtain ⟨L, hL⟩ : ∃ L, ((cellsR (l.take i)).toArray ++ Builtin.zeroCells (rngV (0, 0, 0)).cells (l.length + 1 - i) ++ Builtin.zeroCells (rngV (0, 0, 0)).cells (G - (l.length + 1))).toList = L := ⟨_, rfl⟩
  have hLa : ((cellsR (l.take i)).toArray ++ Builtin.zeroCells (rngV (0, 0, 0)).cells (l.length + 1 - i) ++ Builtin.zeroCells (rngV (0, 0, 0)).cells (G - (l.length + 1))) = L.toArray := by rw [← hL, Array.toArray_toList]
  have hz3' : (rngV (0, 0, 0)).cells.size = 3 := rfl
  have hLl : L.length = G * 3 := by
    rw [← hL]
    simp only [Array.length_toList, Array.size_append, List.size_toArray, size_zeroCells, hz3', lA]
    omega
  have hA : L.take (cellsR (l.take i)).length = cellsR (l.take i) := by
    rw [← hL, Array.toList_append, Array.toList_append, List.append_assoc]
    exact List.take_left
  rw [hLa] at hr0
  obtain ⟨W1, hW1⟩ : ∃ W1, w.drew.alloc (.cells L.toArray 53) = W1 := ⟨_, rfl⟩
  rw [hW1] at hr0
  have hg1 : W1.heap[w.heap.size]? = some (.cells L.toArray 53 (0, 0)) := by rw [← hW1]; exact heap_alloc_new w.drew _
  have hm1 : Moves (fun _ => False) w W1 := by rw [← hW1]; exact Moves.of_below ((Below.refl w.heap.size w).drew.alloc (Nat.le_refl _) _)
  obtain ⟨R, hR, hRl⟩ := put_fresh L _ (cellsR [x]) (cellsR (l.drop i)) hA (by omega)
  rw [lA, lB, lX] at hR
  have he1 := row_keep he hm1 id
  obtain ⟨d0, d1, d2, _⟩ := rng_cells he1
  have hc1 := fun ty => run_copyR W1 ty w.heap.size (i * 3) (l.length + 1 - i) (G - i) ⟨e, 0, none⟩ 1 1 L 53 (cellsR [x]) 1 (by simp only [Nat.min_def]; split <;> omega) hg1 lX (fun j v hj => by
      match j, hj with
      | 0, hj => cases hj; exact d0
      | 1, hj => cases hj; exact d1
      | 2, hj => cases hj; exact d2) (by omega) (cellsR_one' _)
  obtain ⟨W2, hW2⟩ : ∃ W2, W1.setRow w.heap.size (L.take (i * 3) ++ cellsR [x] ++ L.drop (i * 3 + (cellsR [x]).length)).toArray = W2 := ⟨_, rfl⟩
  rw [hW2] at hc1
  have hg2 : W2.heap[w.heap.size]? = some (.cells (L.take (i * 3) ++ cellsR [x] ++ L.drop (i * 3 + (cellsR [x]).length)).toArray 53 (0, 0)) := by rw [← hW2]; exact setRow_heap W1 _ _ _ _ _ hg1
  have hm2 : Moves (fun k => k = w.heap.size) w W2 := (hm1.mono fun k h => h.elim).trans (by
    rw [← hW2]
    exact ⟨rfl, rfl, rfl, by simp [World.setRow], fun k hk hk2 => setRow_other W1 _ _ _ hk2⟩)
  have hcell : ∀ j v, (cellsR (l.drop i))[j]? = some v → W2.drew.cell? ((⟨g, i * 3, none⟩ : Addr).add j) = some v := fun j v hj => by
    have hadd : (⟨g, i * 3, none⟩ : Addr).add j = ⟨g, i * 3 + j, none⟩ := by unfold Addr.add; split <;> simp_all
    rw [hadd]
    show W2.cell? _ = _
    refine cell_moves hm2 (by show ¬ g = w.heap.size; omega) (key _ _ ?_)
    rw [hsplit, List.getElem?_append_right (by omega), lA, show i * 3 + j - i * 3 = j from by omega]
    exact hj
  have hc2 := fun ty => run_copyR W2.drew ty w.heap.size ((i + 1) * 3) (l.length - i) (G - (i + 1)) ⟨g, i * 3, none⟩ (l.length - i) (l.length - i) _ 53 (cellsR (l.drop i)) (l.length - i) (by simp only [Nat.min_def]; split <;> omega) hg2 lB hcell (by simp only [List.length_append, List.length_take, List.length_drop, lX, lB, hLl]; omega) (cellsR_one' _)
  obtain ⟨W3, hW3⟩ : ∃ W3, W2.drew.setRow w.heap.size ((L.take (i * 3) ++ cellsR [x] ++ L.drop (i * 3 + (cellsR [x]).length)).take ((i + 1) * 3) ++ cellsR (l.drop i) ++ (L.take (i * 3) ++ cellsR [x] ++ L.drop (i * 3 + (cellsR [x]).length)).drop ((i + 1) * 3 + (cellsR (l.drop i)).length)).toArray = W3 := ⟨_, rfl⟩
  rw [hW3] at hc2
  have hg3 : W3.heap[w.heap.size]? = some (.cells (cellsR (l.take i) ++ cellsR [x] ++ cellsR (l.drop i) ++ R).toArray 53 (0, 0)) := by
    rw [← hR, ← hW3, lX, lB, show (i + 1) * 3 = i * 3 + 3 from by omega]
    exact setRow_heap W2.drew _ _ _ _ _ (by show W2.heap[w.heap.size]? = _; rw [hg2, lX])
  have hm3 : Moves (fun k => k = w.heap.size) w W3 := hm2.trans (by
    rw [← hW3]
    exact ⟨rfl, rfl, rfl, by simp [World.setRow], fun k hk hk2 => setRow_other W2.drew _ _ _ hk2⟩)
  have hlen := insAt_length (i := i) (l := l) (by omega) x
  have hcells : cellsR (insAt l i x) = cellsR (l.take i) ++ cellsR [x] ++ cellsR (l.drop i) := by unfold insAt; rw [cellsR_append, cellsR_append]
  have hRl2 : (cellsR (l.take i) ++ cellsR [x] ++ cellsR (l.drop i) ++ R).length = G * 3 := by rw [hRl, hLl]
  have hown := own_of_row (base := base) (cap := G) (l := insAt l i x) hg3 hbase (by omega) hGm hRl2 (by
    have h3 : (insAt l i x).length * 3 = (cellsR (insAt l i x)).length := (cellsR_length _).symm
    rw [h3, hcells, List.take_left])
  rw [hlen] at hown
  have HPOST : Hid (InsPost l i x base (.slice (some ⟨g, 0, none⟩) l.length l.length) w (.returned (.slice (some ⟨w.heap.size, 0, none⟩) (l.length + 1) G)) W3) :=
    Lib.hid ⟨w.heap.size, G, rfl, hown, ⟨hm3.os, hm3.tape, hm3.output, hm3.size, fun k hk h => hm3.block k hk (fun e => by omega)⟩, .inr (Nat.le_refl _)⟩
  obtain ⟨P, hP⟩ : ∃ P, InsPost l i x base (.slice (some ⟨g, 0, none⟩) l.length l.length) w = P := ⟨_, rfl⟩
  rw [hP] at HPOST ⊢
  have hr1 : ∀ ty, (appSem #[26, 3] ty #[.slice (some ⟨g, 0, none⟩) i l.length, .int .i64 (((l.length : Nat) : Int) + 1 - (i : Nat))]).run Tryz.prog w = .ok (.slice (some ⟨w.heap.size, 0, none⟩) (l.length + 1) G) W1 := hr0
  obtain ⟨n, hnn⟩ : ∃ n, l.length = n := ⟨_, rfl⟩
  rw [hnn] at hr1 hc1 hc2 hn hi HPOST hGn ⊢
  have hcm2 : G ≤ 9223372036854775807 := by unfold maxLen at hGm; omega
  have hq2 : ¬ (i = n) := by omega
  have hq3 : ¬ G = i := by omega
  have hq4 : ¬ G = i + 1 := by omega
  have hq5 : ¬ n = i := by omega
  have hq6 : IntKind.i64.wrap (((n : Nat) : Int) + 1 - (i : Nat)) = ((n : Nat) : Int) + 1 - (i : Nat) := wrap_id (by omega) (by omega)
  clear hP hr0 hown hRl2 hcells hlen hm3 hg3 hW3 hcell hm2 hg2 hW2 d0 d1 d2 he1 hR hRl hm1 hg1 hW1 hA hLl hLa hL hcast hG hGm hsum hold hi0 hz0 hz1 hz2 key lX lB lA hsplit hgl hel htake hcs hg ho hv hA0 he hnn hnc hcm
  go_enter Tryz.func121, Tryz.ntmps121
  go_wp2
  go_region
  all_goals
    go_wp2
    exact HPOST.out
theorem ins_any {o : Option Addr} {l : List Rng} {cap base e i : Nat} (x : Rng) (w : World) (ho : w.ownsRow base 53 3 (.slice o l.length cap) l.length (cellsR l)) (hn : l.length ≤ 10000) (hbase : base ≤ w.heap.size) (hi : i ≤ l.length) (hne : ∀ g, (Value.slice o l.length cap).ownBlock = some g → e ≠ g) (he : w.heap[e]? = some (rngO x)) :
    Calls Tryz.prog 121 #[.slice o l.length cap, .int .i64 (i : Nat), .slice (some ⟨e, 0, none⟩) 1 1] w (InsPost l i x base (.slice o l.length cap) w) := by
  rcases Nat.lt_or_ge i l.length with h | h
  · obtain ⟨g, rfl⟩ : ∃ g, o = some ⟨g, 0, none⟩ := by
      rcases ho.2 with ⟨hv, h0⟩ | ⟨g', cap', cur, hv, _⟩
      · omega
      · exact ⟨g', by simpa using (Value.slice.inj hv).1⟩
    have hc := own_cap ho
    rcases Nat.lt_or_ge l.length cap with h2 | h2
    · exact ins_room x w ho hn h h2 (hne g rfl) he
    · obtain rfl : cap = l.length := by omega
      exact ins_grow x w ho hn hbase h he
  · obtain rfl : i = l.length := by omega
    exact ins_end x w ho hn hbase he
end Go.Proofs.YtfgnpdfdncnbfaaGreatDoor

namespace Go.Proofs.YtfgnpdfdncnbfaaGreatDoor
open Go.RowKit Go.Shelf Go.Maps

theorem Moves.of_grownN {w w' : World} {row : Option Nat} (h : w.grownBy w' row) : Moves (fun k => some k = row) w w' := ⟨h.os, h.tape, h.output, h.size, fun k hk hr => h.block k hk hr⟩
theorem own_moves1N {A B : World} {base : Nat} {e : TypeId} {size : Nat} {v : Value} {n : Nat} {xs : List Value} {S : Nat → Prop} (h : A.ownsRow base e size v n xs) (hm : Moves S A B) (hS : ∀ k, v.ownBlock = some k → ¬ S k) : B.ownsRow base e size v n xs := by
  refine ⟨h.1, ?_⟩
  rcases h.2 with hn | ⟨g, cap, cur, rfl, hg, hh, rest⟩
  · exact .inl hn
  · exact .inr ⟨g, cap, cur, rfl, hg, (hm.block _ (Array.getElem?_eq_some_iff.1 hh).1 (hS g (by simp [Value.ownBlock]))).trans hh, rest⟩
/-- Some range has a number that x has. -/
def lapL (l : List Rng) (x : Rng) : Prop := ∃ y ∈ l, y.1 ≤ x.2.1 ∧ x.1 ≤ y.2.1
theorem lap_at {l : List Rng} {x : Rng} (hl : mapL l) : (∃ z, l[reachL l x.1]? = some z ∧ z.1 ≤ x.2.1) ↔ lapL l x := by
  constructor
  · rintro ⟨z, hz, h1⟩
    have := reach_at hz
    exact ⟨z, List.mem_of_getElem? hz, h1, by omega⟩
  · rintro ⟨y, hy, h1, h2⟩
    obtain ⟨j, hj⟩ := List.mem_iff_getElem?.1 hy
    have hjr : reachL l x.1 ≤ j := by
      rcases Nat.lt_or_ge j (reachL l x.1) with h | h
      · have := reach_lt h hj; omega
      · exact h
    have hlt := (List.getElem?_eq_some_iff.1 hj).1
    obtain ⟨z, hz⟩ : ∃ z, l[reachL l x.1]? = some z := ⟨_, List.getElem?_eq_getElem (by omega)⟩
    refine ⟨z, hz, ?_⟩
    rcases Nat.lt_or_ge (reachL l x.1) j with h | h
    · obtain ⟨i1, e1⟩ := List.getElem?_eq_some_iff.1 hz
      obtain ⟨i2, e2⟩ := List.getElem?_eq_some_iff.1 hj
      have h3 := List.pairwise_iff_getElem.1 hl.2 _ _ i1 i2 h
      rw [e1, e2] at h3
      have h4 := hl.1 z (List.mem_of_getElem? hz)
      unfold okR at h4
      omega
    · obtain rfl : reachL l x.1 = j := by omega
      rw [hz] at hj
      cases hj
      exact h1
def putAt (l : List Rng) (x : Rng) : List Rng := insAt l (reachL l x.1) x
/-- What put leaves. -/
def PutPost (l : List Rng) (x : Rng) (base m : Nat) (v : Value) (w : World) (e : Ending) (w' : World) : Prop :=
  (lapL l x ∧ e = .returned (.bool false) ∧ Below w.heap.size w w') ∨
  (¬ lapL l x ∧ e = .returned (.bool true) ∧ ∃ g cap, w'.heap[m]? = some (layerO (some ⟨g, 0, none⟩) (l.length + 1) cap) ∧ w'.ownsRow base 53 3 (.slice (some ⟨g, 0, none⟩) (l.length + 1) cap) (l.length + 1) (cellsR (putAt l x)) ∧
    Moves (fun k => k = m ∨ v.ownBlock = some k) w w' ∧ (v.ownBlock = some g ∨ w.heap.size ≤ g))
set_option maxRecDepth 100000 in
set_option maxHeartbeats 2000000 in
theorem put_any {o : Option Addr} {l : List Rng} {cap base m : Nat} (x : Rng) (w : World) (hm : w.heap[m]? = some (layerO o l.length cap)) (ho : w.ownsRow base 53 3 (.slice o l.length cap) l.length (cellsR l)) (hl : mapL l) (hn : l.length ≤ 10000) (hbase : base ≤ w.heap.size) :
    Calls Tryz.prog 109 #[.pointer (some ⟨m, 0, none⟩), rngV x] w (PutPost l x base m (.slice o l.length cap) w) := by
  have hml : m < w.heap.size := (Array.getElem?_eq_some_iff.1 hm).1
  have hap : ∀ g, (Value.slice o l.length cap).ownBlock = some g → g < w.heap.size ∧ ¬ g = m := fun g hg => by
    rcases ho.2 with ⟨h, _⟩ | ⟨g', cap', cur, h, _, hh, _⟩
    · rw [h] at hg; simp [Value.ownBlock] at hg
    · rw [h] at hg
      obtain rfl : g' = g := by simpa [Value.ownBlock] using hg
      refine ⟨(Array.getElem?_eq_some_iff.1 hh).1, ?_⟩
      rintro rfl
      rw [hm] at hh
      injection hh with hh
      injection hh with _ ht _
      exact absurd ht (by decide)
  obtain ⟨w1, hw1⟩ : ∃ w1, w.alloc (rngO x) = w1 := ⟨_, rfl⟩
  have A1 : Below w.heap.size w w1 := by rw [← hw1]; exact (Below.refl _ _).alloc (Nat.le_refl _) _
  have z1 : w1.heap.size = w.heap.size + 1 := by rw [← hw1]; simp
  have x1 : w1.heap[w.heap.size]? = some (rngO x) := by rw [← hw1]; exact heap_alloc_new _ _
  have m1 := row_below hm A1
  have o1 := own_below ho A1
  obtain ⟨n, hnn⟩ : ∃ n, l.length = n := ⟨_, rfl⟩
  obtain ⟨i, hii⟩ : ∃ i, reachL l x.1 = i := ⟨_, rfl⟩
  have hin : i ≤ n := by rw [← hnn, ← hii]; exact reach_le l x.1
  have hre := fun W (hA : AtR W o l) => reach_any o l cap x.1 (by omega) hl W hA
  have hlap := lap_at (x := x) hl
  obtain ⟨P, hP⟩ : ∃ P, PutPost l x base m (.slice o l.length cap) w = P := ⟨_, rfl⟩
  have HP := Lib.hid hP
  rw [hP]
  rw [hii] at hlap
  rw [hnn, hii] at hre
  rw [hnn] at m1 hn
  have HRE := Lib.hid hre
  have HLAP := Lib.hid hlap
  have HA1 := Lib.hid A1
  have HX1 := Lib.hid x1
  have HM1 := Lib.hid m1
  have HO1 := Lib.hid o1
  have HN := Lib.hid hnn
  have HII := Lib.hid hii
  have HW1 := Lib.hid hw1
  have HAP := Lib.hid hap
  obtain ⟨a, b, v⟩ := x
  simp only at HRE HX1 HW1
  have cm : w1.cell? ⟨m, 0, none⟩ = some (.slice o n cap) := by rw [cell_of_row _ _ 0 _ _ _ m1]; rfl
  obtain ⟨q0, q1, q2, _⟩ := rng_cells x1
  simp only at q0 q1 q2
  clear hP hlap hre A1 x1 m1 o1 hm ho hl hii hw1 hap
  go_enter Tryz.func109, Tryz.ntmps109
  go_wp2_with fail
  rw [HW1.out]
  go_wp2_with fail
  have hA1 : AtR w1.drew o l := at_own (by rw [HN.out]; have := HO1.out; rw [HN.out] at this; exact this)
  have HRC := Lib.hid (HRE.out w1.drew hA1)
  clear hA1
  go_region_with (go_at_call 100; refine HRC.out.mono ?_; rintro e w2 ⟨rfl, b2⟩)
  all_goals
    go_simp
    have B2 : Below w1.heap.size w1 w2 := (show Below w1.heap.size w1 w1.drew from (Below.refl _ _).drew).trans b2
    have HB2 := Lib.hid B2
    have m2 := row_below HM1.out B2
    have x2 := row_below HX1.out B2
    have o2 := own_below HO1.out B2
    have cm2 : w2.cell? ⟨m, 0, none⟩ = some (.slice o n cap) := by rw [cell_of_row _ _ 0 _ _ _ m2]; rfl
    obtain ⟨r0, r1, r2, _⟩ := rng_cells x2
    simp only at r0 r1 r2
    have HO2 := Lib.hid o2
    have HM2 := Lib.hid m2
    clear b2 B2 m2 x2 o2 cm q0 q1 q2 HRC
    have HAT : Hid (AtR w2 o l) := Lib.hid (at_own HO2.out)
    have HPF : lapL l (a, b, v) → ∀ q, Hid (P (.returned (.bool false)) (w2.drewN q)) := fun h q => by
      rw [← HP.out]
      exact Lib.hid (.inl ⟨h, rfl, (HA1.out.trans (HB2.out.mono (by omega))).trans (Moves.below (Below.refl _ _) (by have := HB2.out.size; omega) (moves_drewN1 _ _) (fun k h => h.elim))⟩)
    rcases Nat.lt_or_ge i n with hlt | hge
    focus
      obtain ⟨z, hz⟩ : ∃ z, l[i]? = some z := ⟨_, List.getElem?_eq_getElem (by rw [HN.out]; exact hlt)⟩
      obtain ⟨g, off, rfl, hc⟩ := HAT.out (by rw [HN.out]; omega)
      obtain ⟨k0, _, _⟩ := hc i z hz
      have hgl := World.block_lt_of_cell? w2 _ k0
      have HZ := Lib.hid hz
      obtain ⟨za, zb, zv⟩ := z
      simp only at k0
      clear hc hz
      by_cases hzb : za ≤ b
      focus
        have HPG := HPF (HLAP.out.1 ⟨_, HZ.out, hzb⟩)
        clear HPF
        go_wp2_with fail
        go_quiet (fail)
        go_wp2
        exact (HPG _).out
      have hno : ¬ lapL l (a, b, v) := fun h => by
        obtain ⟨z', hz', h'⟩ := HLAP.out.2 h
        rw [HZ.out] at hz'
        cases hz'
        exact hzb h'
      have HNO := Lib.hid hno
      clear hno HPF
      go_wp2_with fail
      go_quiet (fail)
      go_wp2_with fail
      clear k0 HZ HAT
      obtain ⟨o, hoo⟩ : ∃ o : Option Addr, some ⟨g, off, none⟩ = o := ⟨_, rfl⟩
      rw [hoo] at HO1 HAP HP HO2 HM1 HRE cm2 HM2 ⊢
    rotate_left 1
    focus
      have hie : n = i := by omega
      subst hie
      have hno : ¬ lapL l (a, b, v) := fun h => by
        obtain ⟨z', hz', h'⟩ := HLAP.out.2 h
        have := (List.getElem?_eq_some_iff.1 hz').1
        rw [HN.out] at this
        omega
      have HNO := Lib.hid hno
      clear hno HPF HAT
      go_wp2_with fail
      go_quiet (fail)
      go_wp2_with fail
    all_goals
      obtain ⟨w3, hw3⟩ : ∃ w3, w2.drewN nq = w3 := ⟨_, rfl⟩
      have D3 : Below w2.heap.size w2 w3 := by rw [← hw3]; exact Moves.below (Below.refl _ _) (Nat.le_refl _) (moves_drewN1 _ _) (fun k h => h.elim)
      have z3 : w2.heap.size = w3.heap.size := by rw [← hw3]; rfl
      rw [hw3]
      have B3 : Below w1.heap.size w1 w3 := HB2.out.trans (D3.mono HB2.out.size)
      have HB3 := Lib.hid B3
      have m3 := row_below HM2.out D3
      have x3 := row_below HX1.out B3
      have o3 := own_below HO2.out D3
      have cm3 : w3.cell? ⟨m, 0, none⟩ = some (.slice o n cap) := by rw [cell_of_row _ _ 0 _ _ _ m3]; rfl
      obtain ⟨s0, s1, s2, _⟩ := rng_cells x3
      simp only at s0 s1 s2
      have zb := B3.size
      have hm3l : m < w3.heap.size := by omega
      have A4 : Below w3.heap.size w3 (w3.drew.alloc (rngO (a, b, v))) := (Below.refl _ _).drew.alloc (Nat.le_refl _) _
      have o4 := own_below o3 A4
      have hins := ins_any (e := w3.heap.size) (i := reachL l a) (a, b, v) (w3.drew.alloc (rngO (a, b, v))) o4 (by rw [HN.out]; omega) (by have := A4.size; omega) (reach_le l a) (fun g hg => by have := (HAP.out g hg).1; omega) (heap_alloc_new w3.drew _)
      rw [HN.out, HII.out] at hins
      have m4 := row_below m3 A4
      have HINS := Lib.hid hins
      have HM4 := Lib.hid m4
      have HA4 := Lib.hid A4
      have HO4 := Lib.hid o4
      clear hw3 D3 B3 m3 x3 o3 A4 o4 hins m4 r0 r1 r2 cm2
      refine wp_region_any (by kernel_rfl) ?_
      try (change wpAny _ _ _ _ _ _ _ (World.drew _))
      refine wpAny_take (i := 0) (v := ?_) rfl (by kernel_rfl) (by kernel_rfl) (by kernel_rfl) (fun _ _ _ h => h) (Or.inl ⟨by kernel_rfl, ?_⟩) ?_
      rotate_left 1
      · (intro w; first | (go_simp; done) | (go_simp; with_reducible rfl))
      refine wpAny_take (i := 1) (v := ?_) rfl (by kernel_rfl) (by kernel_rfl) (by kernel_rfl) (fun _ _ _ h => h) (Or.inl ⟨by kernel_rfl, ?_⟩) ?_
      rotate_left 1
      · (intro w; first | (go_simp; done) | (go_simp; with_reducible rfl))
      refine wpAny_take (i := 2) (v := ?_) rfl (by kernel_rfl) (by kernel_rfl) (by kernel_rfl) (fun _ _ _ h => h) (Or.inl ⟨by kernel_rfl, ?_⟩) ?_
      rotate_left 1
      · (intro w; first | (go_simp; done) | (go_simp; with_reducible rfl))
      refine wpAny_take (i := 3) (v := ?_) rfl (by kernel_rfl) (by kernel_rfl) (by kernel_rfl) (fun _ _ _ h => h) (Or.inl ⟨by kernel_rfl, ?_⟩) ?_
      rotate_left 1
      · (intro w; first | (go_simp; done) | (go_simp; with_reducible rfl))
      refine wpAny_take (i := 4) (v := ?_) rfl (by kernel_rfl) (by kernel_rfl) (by kernel_rfl) (fun _ _ _ h => h) (Or.inl ⟨by kernel_rfl, ?_⟩) ?_
      rotate_left 1
      · (intro w; first | (go_simp; done) | (go_simp; with_reducible rfl))
      refine wpAny_take (i := 6) (v := ?_) rfl (by kernel_rfl) (by kernel_rfl) (by kernel_rfl) (fun _ _ _ h => h) (Or.inl ⟨by kernel_rfl, ?_⟩) ?_
      rotate_left 1
      · (intro w; first | (go_simp; done) | (go_simp; with_reducible rfl))
      refine wpAny_ready (rs := [5, 7]) (by kernel_rfl) (by simp) ?_
      refine AllReady.cons (o := { dst := some 39, op := .load 26 (.tmp 38), type := 26, pos := _, after := _, guard := none }) rfl ?_ ?_
      rotate_left 1
      refine AllReady.cons (o := { dst := some 41, op := .load 53 (.tmp 3), type := 53, pos := _, after := _, guard := none }) rfl ?_ AllReady.nil
      focus
        intro K hK
        rw [if_pos (by rfl)]
        go_wp2_with fail
        refine wpAny_ready (rs := [5, 8]) (by kernel_rfl) (by simp) ?_
        refine AllReady.cons (o := { dst := some 39, op := .load 26 (.tmp 38), type := 26, pos := _, after := _, guard := none }) rfl ?_ ?_
        rotate_left 1
        refine AllReady.cons (o := { dst := some 42, op := .buildSlice 26 1 #[(0, .tmp 41)], type := 26, pos := _, after := _, guard := none }) rfl ?_ AllReady.nil
        focus
          intro K hK
          rw [if_pos (by rfl)]
          go_wp2_with fail
          refine wpAny_ready (rs := [5]) (by kernel_rfl) (by simp) ?_
          refine AllReady.cons (o := { dst := some 39, op := .load 26 (.tmp 38), type := 26, pos := _, after := _, guard := none }) rfl ?_ AllReady.nil
          intro K hK
          rw [if_pos (by rfl)]
          go_wp2_with fail
        rotate_left 1
        focus
          intro K hK
          rw [if_pos (by rfl)]
          go_wp2_with fail
          refine wpAny_ready (rs := [8]) (by kernel_rfl) (by simp) ?_
          refine AllReady.cons (o := { dst := some 42, op := .buildSlice 26 1 #[(0, .tmp 41)], type := 26, pos := _, after := _, guard := none }) rfl ?_ AllReady.nil
          intro K hK
          rw [if_pos (by rfl)]
          go_wp2_with fail
      rotate_left 2
      focus
        intro K hK
        rw [if_pos (by rfl)]
        go_wp2_with fail
        refine wpAny_ready (rs := [7]) (by kernel_rfl) (by simp) ?_
        refine AllReady.cons (o := { dst := some 41, op := .load 53 (.tmp 3), type := 53, pos := _, after := _, guard := none }) rfl ?_ AllReady.nil
        intro K hK
        rw [if_pos (by rfl)]
        go_wp2_with fail
        refine wpAny_ready (rs := [8]) (by kernel_rfl) (by simp) ?_
        refine AllReady.cons (o := { dst := some 42, op := .buildSlice 26 1 #[(0, .tmp 41)], type := 26, pos := _, after := _, guard := none }) rfl ?_ AllReady.nil
        intro K hK
        rw [if_pos (by rfl)]
        go_wp2_with fail
      all_goals
        refine wpAny_ready (rs := [9]) (by kernel_rfl) (by simp) ?_
        refine AllReady.cons rfl (fun K hK => ?_) AllReady.nil
        go_simp
        go_wp2_with (go_at_call 121; refine HINS.out.mono ?_; rintro e w5 ⟨g5, cap5, rfl, own5, gr5, hat5⟩)
        have hne : ∀ hh : (Value.slice o n cap).ownBlock = some m, False := fun hh => (HAP.out m (by rw [HN.out]; exact hh)).2 rfl
        have m5 : w5.heap[m]? = some (layerO o n cap) := (gr5.block _ (Array.getElem?_eq_some_iff.1 HM4.out).1 (fun hh => hne hh.symm)).trans HM4.out
        have cm5 : w5.cell? ⟨m, 0, none⟩ = some (.slice o n cap) := by rw [cell_of_row _ _ 0 _ _ _ m5]; rfl
        have fm5 : w5.frozen? ⟨m, 0, none⟩ = false := frozen_of_row _ _ _ _ _ m5
        have hg5 : ¬ g5 = m := by
          rintro rfl
          rcases hat5 with h | h
          · exact hne h
          · have := HA4.out.size; omega
        have hms : Moves (fun k => k = m) w5 (w5.setCell ⟨m, 0, none⟩ (.slice (some ⟨g5, 0, none⟩) (n + 1) cap5)) := Moves.setCell rfl
        have HPT : Hid (P (.returned (.bool true)) (w5.setCell ⟨m, 0, none⟩ (.slice (some ⟨g5, 0, none⟩) (n + 1) cap5))) := by
          rw [← HP.out]
          refine Lib.hid (.inr ⟨HNO.out, rfl, g5, cap5, ?_, ?_, ?_, ?_⟩)
          · rw [heap_setCell_same _ _ 0 _ _ _ m5, HN.out]; rfl
          · rw [HN.out]
            refine own_moves1N (base := base) ?_ hms (fun k hk => ?_)
            · rw [HN.out] at own5
              rw [show putAt l (a, b, v) = insAt l _ (a, b, v) from by unfold putAt; rw [HII.out]]
              exact own5
            · have : g5 = k := by simpa [Value.ownBlock] using hk
              omega
          · refine ((Moves.of_below (HA1.out.trans ((HB3.out.trans (HA4.out.mono zb)).mono (by omega)))).trans (Moves.of_grownN gr5 |>.mono fun k hk => ?_)).trans (hms.mono fun k hk => .inl hk)
            exact .inr (by rw [HN.out]; exact hk.symm)
          · rcases hat5 with h | h
            · exact .inl (by rw [HN.out]; exact h)
            · exact .inr (by have := HA4.out.size; omega)
        clear own5 gr5 hat5 hne m5 hg5 hms
        refine wpAny_take (i := 10) (v := ?_) rfl (by kernel_rfl) (by kernel_rfl) (by kernel_rfl) (fun _ _ _ h => h) (Or.inl ⟨by kernel_rfl, ?_⟩) ?_
        rotate_left 1
        · (intro w; first | (go_simp; done) | (go_simp; with_reducible rfl))
        refine wpAny_take (i := 11) (v := ?_) rfl (by kernel_rfl) (by kernel_rfl) (by kernel_rfl) (fun _ _ _ h => h) (Or.inl ⟨by kernel_rfl, ?_⟩) ?_
        rotate_left 1
        · (intro w; first | (go_simp; done) | (go_simp; with_reducible rfl))
        refine wpAny_take (i := 12) (v := ?_) rfl (by kernel_rfl) (by kernel_rfl) (by kernel_rfl) (fun _ _ _ h => h) (Or.inl ⟨by kernel_rfl, ?_⟩) ?_
        rotate_left 1
        · (intro w; first | (go_simp; done) | (go_simp; with_reducible rfl))
        refine wpAny_ready (rs := [13]) (by kernel_rfl) (by simp) ?_
        refine AllReady.cons rfl (fun K hK => ?_) AllReady.nil
        go_simp
        go_wp2_with fail
        refine wpAny_done (by kernel_rfl) ?_ _
        go_simp
        go_wp2
        exact HPT.out
end Go.Proofs.YtfgnpdfdncnbfaaGreatDoor

namespace Go.Proofs.YtfgnpdfdncnbfaaGreatDoor
open Go.RowKit Go.Shelf Go.Maps
attribute [local go_sem ↓] app_hide

def JoinPost (m : List Rng) (x : Rng) (base : Nat) (v : Value) (w : World) (e : Ending) (w' : World) : Prop :=
  ∃ g cap, e = .returned (.slice (some ⟨g, 0, none⟩) (joinL m x).length cap) ∧ w'.ownsRow base 53 3 (.slice (some ⟨g, 0, none⟩) (joinL m x).length cap) (joinL m x).length (cellsR (joinL m x)) ∧
    Moves (fun k => v.ownBlock = some k) w w' ∧ (v.ownBlock = some g ∨ w.heap.size ≤ g)
theorem cells_set (d : List Rng) (y : Rng) (t : Int) : (cellsR (d ++ [y])).set (d.length * 3 + 1) (.int .i64 t) = cellsR (d ++ [(y.1, t, y.2.2)]) := by
  rw [cellsR_append, cellsR_append, List.set_append_right _ _ (by rw [cellsR_length]; omega), cellsR_length, show d.length * 3 + 1 - d.length * 3 = 1 from by omega]
  rfl
theorem own_set {w : World} {base g cap : Nat} {d : List Rng} {y : Rng} (t : Int) (h : w.ownsRow base 53 3 (.slice (some ⟨g, 0, none⟩) (d.length + 1) cap) (d.length + 1) (cellsR (d ++ [y]))) :
    (w.setCell ⟨g, d.length * 3 + 1, none⟩ (.int .i64 t)).ownsRow base 53 3 (.slice (some ⟨g, 0, none⟩) (d.length + 1) cap) (d.length + 1) (cellsR (d ++ [(y.1, t, y.2.2)])) := by
  obtain ⟨g', cap', cur, hv, hbg, hg, hnc, hcm, hcs, htake⟩ := (show _ from h.2.resolve_left (fun h => by have := h.2; omega) : ∃ g' cap' cur, _)
  obtain ⟨rfl, rfl⟩ : g = g' ∧ cap = cap' := by simpa using hv
  refine ⟨by rw [cellsR_length]; simp, .inr ⟨g, cap, cur.setIfInBounds (d.length * 3 + 1) (.int .i64 t), rfl, hbg, ?_, hnc, hcm, by simpa using hcs, ?_⟩⟩
  · exact heap_setCell_same _ _ _ _ _ _ hg
  · rw [Array.toList_setIfInBounds, ← cells_set, ← htake, List.take_set]
theorem own_at {w : World} {base g cap : Nat} {l : List Rng} (h : w.ownsRow base 53 3 (.slice (some ⟨g, 0, none⟩) l.length cap) l.length (cellsR l)) {j : Nat} {x : Rng} (hx : l[j]? = some x) :
    w.cell? ⟨g, j * 3, none⟩ = some (.int .i64 x.1) ∧ w.cell? ⟨g, j * 3 + 1, none⟩ = some (.int .i64 x.2.1) ∧ w.cell? ⟨g, j * 3 + 2, none⟩ = some (.int .i64 x.2.2) ∧ w.frozen? ⟨g, j * 3 + 1, none⟩ = false := by
  have hlt := (List.getElem?_eq_some_iff.1 hx).1
  obtain ⟨g', cap', cur, hv, hbg, hg, hnc, hcm, hcs, htake⟩ := (show _ from h.2.resolve_left (fun h => by have := h.2; omega) : ∃ g' cap' cur, _)
  obtain ⟨rfl, rfl⟩ : g = g' ∧ cap = cap' := by simpa using hv
  have hat := at_own h (by omega)
  obtain ⟨g2, off, e, hc⟩ := hat
  obtain ⟨rfl, rfl⟩ : g = g2 ∧ 0 = off := by simpa using e
  obtain ⟨h0, h1, h2⟩ := hc j x hx
  rw [Nat.zero_add] at h0 h1 h2
  exact ⟨h0, h1, h2, frozen_of_row _ _ _ _ _ hg⟩
set_option maxRecDepth 100000 in
set_option maxHeartbeats 2000000 in
theorem join_any {o : Option Addr} {m : List Rng} {cap base : Nat} (x : Rng) (w : World) (ho : w.ownsRow base 53 3 (.slice o m.length cap) m.length (cellsR m)) (hb : ∀ y ∈ m, -1000000 ≤ y.2.1 ∧ y.2.1 ≤ 10000000) (hn : m.length ≤ 10000) (hbase : base ≤ w.heap.size) :
    Calls Tryz.prog 64 #[.slice o m.length cap, rngV x] w (JoinPost m x base (.slice o m.length cap) w) := by
  obtain ⟨w1, hw1⟩ : ∃ w1, w.alloc (rngO x) = w1 := ⟨_, rfl⟩
  have A1 : Below w.heap.size w w1 := by rw [← hw1]; exact (Below.refl _ _).alloc (Nat.le_refl _) _
  have z1 : w1.heap.size = w.heap.size + 1 := by rw [← hw1]; simp
  have x1 : w1.heap[w.heap.size]? = some (rngO x) := by rw [← hw1]; exact heap_alloc_new _ _
  have o1 := own_below ho A1
  have grow : (∀ y, m.getLast? = some y → ¬ (y.2.1 + 1 = x.1 ∧ y.2.2 = x.2.2)) → ∀ q, ∃ g6 cap6 w6, (appSem #[26, 26] 26 #[.slice o m.length cap, .slice (some ⟨w1.heap.size, 0, none⟩) 1 1]).run Tryz.prog ((w1.drewN q).alloc (rngO x)) = .ok (.slice (some ⟨g6, 0, none⟩) (m.length + 1) cap6) w6 ∧
      JoinPost m x base (.slice o m.length cap) w (.returned (.slice (some ⟨g6, 0, none⟩) (m.length + 1) cap6)) w6 := fun hno q => by
    have A2 : Below w1.heap.size w1 ((w1.drewN q).alloc (rngO x)) := (Moves.below (Below.refl _ _) (Nat.le_refl _) (moves_drewN1 w1 q) (fun k h => h.elim)).alloc (Nat.le_refl _) _
    have o2 := own_below o1 A2
    obtain ⟨g6, cap6, w6, hr, own6, gr6, hat⟩ := rng_own x o2 (by omega) (by have := A2.size; omega) (e := w1.heap.size) (heap_alloc_new (w1.drewN q) _)
    have hj : joinL m x = m ++ [x] := by
      unfold joinL
      cases hl : m.getLast? with
      | none => rfl
      | some y => simp only; rw [if_neg (hno y hl)]
    refine ⟨g6, cap6, w6, hr, g6, cap6, ?_, ?_, ?_, ?_⟩
    · rw [hj]; simp
    · rw [hj, cellsR_append, List.length_append]; exact own6
    · exact (Moves.of_below (A1.trans (A2.mono (by omega)))).trans ((Moves.of_grownN gr6).mono fun k hk => hk.symm)
    · rcases hat g6 (by simp [Value.ownBlock]) with h | h
      · exact .inl h
      · exact .inr (by have := A2.size; omega)
  have ext : ∀ d y, m = d ++ [y] → (y.2.1 + 1 = x.1 ∧ y.2.2 = x.2.2) → ∀ g, o = some ⟨g, 0, none⟩ → ∀ q, JoinPost m x base (.slice o m.length cap) w (.returned (.slice (some ⟨g, 0, none⟩) m.length cap)) ((w1.drewN q).setCell ⟨g, d.length * 3 + 1, none⟩ (.int .i64 x.2.1)) := fun d y hd hy g hg q => by
    subst hg
    have hl : m.getLast? = some y := by rw [hd]; simp
    have hdl : m.dropLast = d := by rw [hd]; simp
    have hj : joinL m x = d ++ [(y.1, x.2.1, y.2.2)] := by
      unfold joinL
      rw [hl]
      simp only
      rw [if_pos hy, hdl]
    have hlen : (joinL m x).length = m.length := by rw [hj, hd]; simp
    have hml : m.length = d.length + 1 := by rw [hd]; simp
    have o2 : (w1.drewN q).ownsRow base 53 3 (.slice (some ⟨g, 0, none⟩) m.length cap) m.length (cellsR m) := own_below o1 (Moves.below (Below.refl _ _) (Nat.le_refl _) (moves_drewN1 w1 q) (fun k h => h.elim))
    rw [hml] at o2
    have o3 := own_set (d := d) (y := y) x.2.1 (by rw [← hd]; exact o2)
    refine ⟨g, cap, by rw [hlen], ?_, ?_, .inl rfl⟩
    · rw [hlen, hj, hml]; exact o3
    · exact ((Moves.of_below A1).trans ((moves_drewN1 w1 q).mono fun k h => h.elim)).trans (Moves.setCell (by rfl))
  obtain ⟨P, hP⟩ : ∃ P, JoinPost m x base (.slice o m.length cap) w = P := ⟨_, rfl⟩
  rw [hP] at grow ext ⊢
  have GR := Lib.hid grow
  have EX := Lib.hid ext
  have HO1 := Lib.hid o1
  have HW1 := Lib.hid hw1
  have HBD := Lib.hid hb
  obtain ⟨n, hnn⟩ : ∃ n, m.length = n := ⟨_, rfl⟩
  have HN := Lib.hid hnn
  rw [hnn] at hn ⊢
  obtain ⟨q0, q1, q2, _⟩ := rng_cells x1
  clear grow ext hP ho o1 hw1 A1 x1 hnn hb
  obtain ⟨a, b, v⟩ := x
  simp only at q0 q1 q2 GR EX HW1
  go_enter Tryz.func64, Tryz.ntmps64
  go_wp2_with fail
  rw [HW1.out]
  rcases Nat.eq_zero_or_pos n with h0 | hpos
  · subst h0
    have hm0 : m = [] := List.eq_nil_of_length_eq_zero HN.out
    have G2 := Lib.hid (GR.out (fun y hy => by rw [hm0] at hy; simp at hy))
    clear hm0 GR EX
    go_wp2_with fail
    go_quiet (fail)
    obtain ⟨g6, cap6, w6, hr, hp⟩ := G2.out nq
    rw [HN.out] at hr hp
    obtain ⟨w2, hw2⟩ : ∃ w2, w1.drewN nq = w2 := ⟨_, rfl⟩
    have s0 : w2.cell? ⟨w.heap.size, 0, none⟩ = some (.int .i64 a) := by rw [← hw2]; exact q0
    have s1 : w2.cell? ⟨w.heap.size, 1, none⟩ = some (.int .i64 b) := by rw [← hw2]; exact q1
    have s2 : w2.cell? ⟨w.heap.size, 2, none⟩ = some (.int .i64 v) := by rw [← hw2]; exact q2
    have z2 : w2.heap.size = w1.heap.size := by rw [← hw2]; rfl
    rw [hw2] at hr ⊢
    rw [z1] at hr
    have HPP := Lib.hid hp
    clear hp hw2 q0 q1 q2
    go_wp2
    exact HPP.out
  · obtain ⟨k, rfl⟩ : ∃ k, n = k + 1 := ⟨n - 1, by omega⟩
    obtain ⟨y, hy⟩ : ∃ y, m[k]? = some y := ⟨_, List.getElem?_eq_getElem (by rw [HN.out]; omega)⟩
    have hd : m = m.take k ++ [y] := by
      have h1 : m = m.take (k + 1) := (List.take_of_length_le (by rw [HN.out]; exact Nat.le_refl _)).symm
      rw [List.take_add_one, hy] at h1
      exact h1
    have hdl : (m.take k).length = k := by rw [List.length_take, HN.out]; omega
    have hlast : m.getLast? = some y := by rw [List.getLast?_eq_getElem?, HN.out]; exact hy
    obtain ⟨g, rfl⟩ : ∃ g, o = some ⟨g, 0, none⟩ := by
      rcases HO1.out.2 with ⟨hv, h0⟩ | ⟨g', cap', cur, hv, _⟩
      · rw [HN.out] at h0; omega
      · exact ⟨g', by simpa using (Value.slice.inj hv).1⟩
    obtain ⟨k0, k1, k2, fz⟩ := own_at HO1.out hy
    have hyb := HBD.out y (List.mem_of_getElem? hy)
    have hgl := World.block_lt_of_cell? w1 _ k0
    obtain ⟨ya, yb, yv⟩ := y
    simp only at k0 k1 k2 hyb
    have hwy : IntKind.i64.wrap (yb + 1) = yb + 1 := wrap_id (by omega) (by omega)
    have hwk : IntKind.i64.wrap (((k : Nat) : Int) + 1 - 1) = (k : Nat) := by rw [show ((k : Nat) : Int) + 1 - 1 = (k : Nat) from by omega]; exact wrap_id (by omega) (by omega)
    have hwk2 : IntKind.i64.wrap ((k : Nat) : Int) = (k : Nat) := wrap_id (by omega) (by omega)
    have hkb : k < 1000000 := by omega
    by_cases e1 : yb + 1 = a
    · have hb1 : (yb + 1 == a) = true := by simpa using e1
      by_cases e2 : yv = v
      · have hb2 : (yv == v) = true := by simpa using e2
        have E2 := Lib.hid fun q => EX.out _ _ hd ⟨e1, e2⟩ g rfl q
        have HDL := Lib.hid hdl
        clear EX GR hd hlast hy hdl e1 e2
        go_wp2_with fail
        go_quiet (fail)
        have hp := E2.out nq
        rw [HN.out, HDL.out] at hp
        obtain ⟨w2, hw2⟩ : ∃ w2, w1.drewN nq = w2 := ⟨_, rfl⟩
        have s1 : w2.cell? ⟨w.heap.size, 1, none⟩ = some (.int .i64 b) := by rw [← hw2]; exact q1
        have t1 : w2.cell? ⟨g, k * 3 + 1, none⟩ = some (.int .i64 yb) := by rw [← hw2]; exact k1
        have t2 : w2.frozen? ⟨g, k * 3 + 1, none⟩ = false := by rw [← hw2]; exact fz
        rw [hw2] at hp ⊢
        have HPP := Lib.hid hp
        clear hp hw2 q0 q1 q2 k0 k1 k2 fz
        go_wp2
        exact HPP.out
      · have hb2 : (yv == v) = false := by simpa using e2
        have G2 := Lib.hid (GR.out (fun z hz => by rw [hlast] at hz; cases hz; exact fun h => e2 h.2))
        clear EX GR hd hlast hy hdl e1 e2
        go_wp2_with fail
        go_quiet (fail)
        obtain ⟨g6, cap6, w6, hr, hp⟩ := G2.out nq
        rw [HN.out] at hr hp
        obtain ⟨w2, hw2⟩ : ∃ w2, w1.drewN nq = w2 := ⟨_, rfl⟩
        have s0 : w2.cell? ⟨w.heap.size, 0, none⟩ = some (.int .i64 a) := by rw [← hw2]; exact q0
        have s1 : w2.cell? ⟨w.heap.size, 1, none⟩ = some (.int .i64 b) := by rw [← hw2]; exact q1
        have s2 : w2.cell? ⟨w.heap.size, 2, none⟩ = some (.int .i64 v) := by rw [← hw2]; exact q2
        have z2 : w2.heap.size = w1.heap.size := by rw [← hw2]; rfl
        rw [hw2] at hr ⊢
        rw [z1] at hr
        have HPP := Lib.hid hp
        clear hp hw2 q0 q1 q2
        go_wp2
        exact HPP.out
    · have hb1 : (yb + 1 == a) = false := by simpa using e1
      have G2 := Lib.hid (GR.out (fun z hz => by rw [hlast] at hz; cases hz; exact fun h => e1 h.1))
      clear EX GR hd hlast hy hdl e1
      go_wp2_with fail
      go_quiet (fail)
      obtain ⟨g6, cap6, w6, hr, hp⟩ := G2.out nq
      rw [HN.out] at hr hp
      obtain ⟨w2, hw2⟩ : ∃ w2, w1.drewN nq = w2 := ⟨_, rfl⟩
      have s0 : w2.cell? ⟨w.heap.size, 0, none⟩ = some (.int .i64 a) := by rw [← hw2]; exact q0
      have s1 : w2.cell? ⟨w.heap.size, 1, none⟩ = some (.int .i64 b) := by rw [← hw2]; exact q1
      have s2 : w2.cell? ⟨w.heap.size, 2, none⟩ = some (.int .i64 v) := by rw [← hw2]; exact q2
      have z2 : w2.heap.size = w1.heap.size := by rw [← hw2]; rfl
      rw [hw2] at hr ⊢
      rw [z1] at hr
      have HPP := Lib.hid hp
      clear hp hw2 q0 q1 q2
      go_wp2
      exact HPP.out
end Go.Proofs.YtfgnpdfdncnbfaaGreatDoor
