/- slices.Insert of one range into a row of ranges that the call owns. -/
import Derived.Test.YtkhniogmogcjlaaDoorNRows
namespace Go.Proofs.YtkhniogmogcjlaaDoor
open Go.RowKit Go.Shelf Go.Maps
attribute [local go_sem ↓] app_hide cop_hide

theorem own_of_row {W : World} {base g cap : Nat} {l : List Rng} {cur : List Value} (hg : W.heap[g]? = some (.cells cur.toArray 38 (0, 0))) (hb : base ≤ g) (hc : l.length ≤ cap) (hm : cap ≤ maxLen) (hs : cur.length = cap * 3) (ht : cur.take (l.length * 3) = cellsR l) :
    W.ownsRow base 38 3 (.slice (some ⟨g, 0, none⟩) l.length cap) l.length (cellsR l) :=
  ⟨cellsR_length l, .inr ⟨g, cap, _, rfl, hb, hg, hc, hm, by simpa using hs, by simpa using ht⟩⟩
def insAt (l : List Rng) (i : Nat) (x : Rng) : List Rng := l.take i ++ [x] ++ l.drop i
theorem insAt_length {l : List Rng} {i : Nat} (hi : i ≤ l.length) (x : Rng) : (insAt l i x).length = l.length + 1 := by unfold insAt; simp; omega
/-- What Insert leaves. -/
def InsPost (l : List Rng) (i : Nat) (x : Rng) (base : Nat) (v : Value) (w : World) (e : Ending) (w' : World) : Prop :=
  ∃ g cap, e = .returned (.slice (some ⟨g, 0, none⟩) (l.length + 1) cap) ∧ w'.ownsRow base 38 3 (.slice (some ⟨g, 0, none⟩) (l.length + 1) cap) (l.length + 1) (cellsR (insAt l i x)) ∧ w.grownBy w' v.ownBlock ∧ (v.ownBlock = some g ∨ w.heap.size ≤ g)
set_option maxRecDepth 100000 in
set_option maxHeartbeats 1000000 in
/-- At the end. -/
theorem ins_end {o : Option Addr} {l : List Rng} {cap base e : Nat} (x : Rng) (w : World) (ho : w.ownsRow base 38 3 (.slice o l.length cap) l.length (cellsR l)) (hn : l.length ≤ 10000) (hbase : base ≤ w.heap.size) (he : w.heap[e]? = some (rngO x)) :
    Calls Tryd.prog 51 #[.slice o l.length cap, .int .i64 (l.length : Nat), .slice (some ⟨e, 0, none⟩) 1 1] w (InsPost l l.length x base (.slice o l.length cap) w) := by
  have hcap := own_cap ho
  have hcm : cap ≤ maxLen := by
    rcases ho.2 with ⟨h, _⟩ | ⟨g, cap', cur, h, _, _, _, hm, _⟩
    · simp at h; unfold maxLen; omega
    · cases h; exact hm
  unfold maxLen at hcm
  obtain ⟨g6, cap6, w6, hr, own6, hg6, hat⟩ := rng_own x ho (by omega) hbase he
  have HPOST : Hid (InsPost l l.length x base (.slice o l.length cap) w (.returned (.slice (some ⟨g6, 0, none⟩) (l.length + 1) cap6)) w6) := by
    refine Lib.hid ⟨g6, cap6, rfl, ?_, hg6, ?_⟩
    · have e1 : cellsR (insAt l l.length x) = cellsR l ++ cellsR [x] := by
        unfold insAt
        rw [List.take_length, List.drop_length, List.append_nil, cellsR_append]
      rw [e1]
      exact own6
    · rcases hat g6 (by simp [Value.ownBlock]) with h | h
      · exact .inl h
      · exact .inr (by omega)
  obtain ⟨P, hP⟩ : ∃ P, InsPost l l.length x base (.slice o l.length cap) w = P := ⟨_, rfl⟩
  rw [hP] at HPOST ⊢
  obtain ⟨n, hnn⟩ : ∃ n, l.length = n := ⟨_, rfl⟩
  rw [hnn] at hr hcap hn HPOST ⊢
  clear hP hnn ho he own6 hg6 hat
  go_enter Tryd.func51, Tryd.ntmps51
  go_wp2
  all_goals exact HPOST.out
set_option maxRecDepth 100000 in
set_option maxHeartbeats 1000000 in
/-- Between, where there is room. -/
theorem ins_room {g e : Nat} {l : List Rng} {cap base i : Nat} (x : Rng) (w : World) (ho : w.ownsRow base 38 3 (.slice (some ⟨g, 0, none⟩) l.length cap) l.length (cellsR l)) (hn : l.length ≤ 10000) (hi : i < l.length) (hroom : l.length < cap) (hne : e ≠ g) (he : w.heap[e]? = some (rngO x)) :
    Calls Tryd.prog 51 #[.slice (some ⟨g, 0, none⟩) l.length cap, .int .i64 (i : Nat), .slice (some ⟨e, 0, none⟩) 1 1] w (InsPost l i x base (.slice (some ⟨g, 0, none⟩) l.length cap) w) := by
  obtain ⟨g', cap', cur, hv, hbg, hg, hnc, hcm, hcs, htake⟩ := (show _ from ho.2.resolve_left (fun h => by have := h.2; omega) : ∃ g' cap' cur, _)
  obtain ⟨rfl, rfl⟩ : g = g' ∧ cap = cap' := by simpa using hv
  obtain ⟨L, hL⟩ : ∃ L, cur.toList = L := ⟨_, rfl⟩
  have hgL : w.heap[g]? = some (.cells L.toArray 38 (0, 0)) := by rw [← hL]; simpa using hg
  have hLl : L.length = cap * 3 := by rw [← hL]; simpa using hcs
  rw [hL] at htake
  have hsplit : cellsR l = cellsR (l.take i) ++ cellsR (l.drop i) := by rw [← cellsR_append, List.take_append_drop]
  have lA : (cellsR (l.take i)).length = i * 3 := by rw [cellsR_length, List.length_take, Nat.min_eq_left (by omega)]
  have lB : (cellsR (l.drop i)).length = (l.length - i) * 3 := by rw [cellsR_length, List.length_drop]
  have lX : (cellsR [x]).length = 3 := rfl
  have hA : L.take (cellsR (l.take i)).length = cellsR (l.take i) := by
    have h1 : L.take (cellsR (l.take i)).length = (L.take (l.length * 3)).take (cellsR (l.take i)).length := by rw [List.take_take, Nat.min_eq_left (by omega)]
    rw [h1, htake, hsplit, List.take_left]
  obtain ⟨R, hR, hRl⟩ := put_shift L _ (cellsR [x]) (cellsR (l.drop i)) hA (by omega)
  rw [lA, lB, lX] at hR
  have hcell : ∀ j v, (cellsR (l.drop i))[j]? = some v → w.drew.cell? ((⟨g, i * 3, none⟩ : Addr).add j) = some v := fun j v hj => by
    have hadd : (⟨g, i * 3, none⟩ : Addr).add j = ⟨g, i * 3 + j, none⟩ := by unfold Addr.add; split <;> simp_all
    rw [hadd]
    show w.cell? _ = _
    rw [cell_of_row _ _ (i * 3 + j) _ _ _ hgL]
    have h1 : (cellsR l)[i * 3 + j]? = some v := by rw [hsplit, List.getElem?_append_right (by omega), lA, show i * 3 + j - i * 3 = j from by omega]; exact hj
    rw [← htake, List.getElem?_take] at h1
    split at h1
    · simpa using h1
    · cases h1
  obtain ⟨c0, c1, c2, fz⟩ := rng_cells he
  have hc1 := fun ty => run_copyR w.drew ty g ((i + 1) * 3) (l.length - i) (cap - (i + 1)) ⟨g, i * 3, none⟩ (l.length + 1 - i) (cap - i) L 38 (cellsR (l.drop i)) (l.length - i) (by simp only [Nat.min_def]; split <;> omega) hgL lB hcell (by omega) (cellsR_one' _)
  obtain ⟨W1, hW1⟩ : ∃ W1, w.drew.setRow g (L.take ((i + 1) * 3) ++ cellsR (l.drop i) ++ L.drop ((i + 1) * 3 + (cellsR (l.drop i)).length)).toArray = W1 := ⟨_, rfl⟩
  have hg1 : W1.heap[g]? = some (.cells (L.take ((i + 1) * 3) ++ cellsR (l.drop i) ++ L.drop ((i + 1) * 3 + (cellsR (l.drop i)).length)).toArray 38 (0, 0)) := by rw [← hW1]; exact setRow_heap w.drew _ _ _ _ _ hgL
  have he1 : W1.heap[e]? = some (rngO x) := by rw [← hW1]; exact (setRow_other w.drew _ _ _ hne).trans he
  have hm1 : Moves (fun k => k = g) w W1 := by
    rw [← hW1]
    exact ⟨rfl, rfl, rfl, by simp [World.setRow], fun k hk hk2 => setRow_other w.drew _ _ _ hk2⟩
  rw [hW1] at hc1
  obtain ⟨d0, d1, d2, _⟩ := rng_cells he1
  have hc2 := fun ty => run_copyR W1 ty g (i * 3) (l.length + 1 - i) (cap - i) ⟨e, 0, none⟩ 1 1 _ 38 (cellsR [x]) 1 (by simp only [Nat.min_def]; split <;> omega) hg1 lX (fun j v hj => by
      match j, hj with
      | 0, hj => cases hj; exact d0
      | 1, hj => cases hj; exact d1
      | 2, hj => cases hj; exact d2) (by simp only [List.length_append, List.length_take, List.length_drop, lX, lB, hLl]; omega) (cellsR_one' _)
  obtain ⟨W2, hW2⟩ : ∃ W2, W1.setRow g ((L.take ((i + 1) * 3) ++ cellsR (l.drop i) ++ L.drop ((i + 1) * 3 + (cellsR (l.drop i)).length)).take (i * 3) ++ cellsR [x] ++ (L.take ((i + 1) * 3) ++ cellsR (l.drop i) ++ L.drop ((i + 1) * 3 + (cellsR (l.drop i)).length)).drop (i * 3 + (cellsR [x]).length)).toArray = W2 := ⟨_, rfl⟩
  rw [hW2] at hc2
  have hg2 : W2.heap[g]? = some (.cells (cellsR (l.take i) ++ cellsR [x] ++ cellsR (l.drop i) ++ R).toArray 38 (0, 0)) := by
    rw [← hR, ← hW2, lX, lB, show (i + 1) * 3 = i * 3 + 3 from by omega]
    exact setRow_heap W1 _ _ _ _ _ (by rw [hg1, lB, show (i + 1) * 3 = i * 3 + 3 from by omega])
  have hm2 : Moves (fun k => k = g) w W2 := hm1.trans (by
    rw [← hW2]
    exact ⟨rfl, rfl, rfl, by simp [World.setRow], fun k hk hk2 => setRow_other W1 _ _ _ hk2⟩)
  have hlen := insAt_length (i := i) (l := l) (by omega) x
  have hcells : cellsR (insAt l i x) = cellsR (l.take i) ++ cellsR [x] ++ cellsR (l.drop i) := by unfold insAt; rw [cellsR_append, cellsR_append]
  have hRl2 : (cellsR (l.take i) ++ cellsR [x] ++ cellsR (l.drop i) ++ R).length = cap * 3 := by rw [hRl, hLl]
  have hown := own_of_row (base := base) (cap := cap) (l := insAt l i x) hg2 hbg (by omega) hcm hRl2 (by
    have h3 : (insAt l i x).length * 3 = (cellsR (insAt l i x)).length := (cellsR_length _).symm
    rw [h3, hcells, List.take_left])
  rw [hlen] at hown
  have HPOST : Hid (InsPost l i x base (.slice (some ⟨g, 0, none⟩) l.length cap) w (.returned (.slice (some ⟨g, 0, none⟩) (l.length + 1) cap)) W2) :=
    Lib.hid ⟨g, cap, rfl, hown, ⟨hm2.os, hm2.tape, hm2.output, hm2.size, fun k hk h => hm2.block k hk (fun e => h (by rw [e]; rfl))⟩, .inl rfl⟩
  obtain ⟨P, hP⟩ : ∃ P, InsPost l i x base (.slice (some ⟨g, 0, none⟩) l.length cap) w = P := ⟨_, rfl⟩
  rw [hP] at HPOST ⊢
  have hov : ∀ lb cb, (callFunc 64 #[.slice (some ⟨e, 0, none⟩) 1 1, .slice (some ⟨g, (i + 1) * 3, none⟩) lb cb]).run Tryd.prog w = .ok (.value (.bool false)) w := fun lb cb => by
    obtain ⟨i0, hi0, hz0, hz1, hz2⟩ := info_parts infoRng
    rw [run_callFunc_extern Tryd.func64 (by kernel_rfl) (by kernel_rfl) (by kernel_rfl) (e := Extern.SlicesOverlaps.overlaps #[22, 22] #[4]) (by kernel_rfl),
      Lib.run_overlaps_apart w 22 4 38 Tryd.underlying22 3 (fun w => by simp [sizeOf, typeInfo, hi0, hz1]) ⟨e, 0, none⟩ ⟨g, (i + 1) * 3, none⟩ 1 1 lb cb hne 38 38 3 (cap * 3) (by simp [World.shape?, he]) (by simp [World.shape?, hgL, hLl]) (by omega) fz (frozen_of_row _ _ _ _ _ he)]
    rfl
  obtain ⟨n, hnn⟩ : ∃ n, l.length = n := ⟨_, rfl⟩
  rw [hnn] at hc1 hc2 hn hi hroom HPOST ⊢
  have hcm2 : cap ≤ 9223372036854775807 := by unfold maxLen at hcm; omega
  have hz2 : ¬ (i = n) := by omega
  have hz3 : ¬ cap = i := by omega
  have hz4 : ¬ cap = i + 1 := by omega
  clear hP hown hRl2 hcells hlen hm2 hg2 hW2 hm1 he1 hg1 hW1 fz c0 c1 c2 d0 d1 d2 hcell hR hRl hA lX lB lA hsplit hLl hgL htake hL hcs hg ho hv he hnn hnc hcm
  go_enter Tryd.func51, Tryd.ntmps51
  go_wp2_with (simp only [hov])
  go_region
  all_goals
    go_wp2
    exact HPOST.out
set_option maxRecDepth 100000 in
set_option maxHeartbeats 1000000 in
/-- Between, where there is no room. -/
theorem ins_grow {g e : Nat} {l : List Rng} {base i : Nat} (x : Rng) (w : World) (ho : w.ownsRow base 38 3 (.slice (some ⟨g, 0, none⟩) l.length l.length) l.length (cellsR l)) (hn : l.length ≤ 10000) (hbase : base ≤ w.heap.size) (hi : i < l.length) (he : w.heap[e]? = some (rngO x)) :
    Calls Tryd.prog 51 #[.slice (some ⟨g, 0, none⟩) l.length l.length, .int .i64 (i : Nat), .slice (some ⟨e, 0, none⟩) 1 1] w (InsPost l i x base (.slice (some ⟨g, 0, none⟩) l.length l.length) w) := by
  have hA0 := at_own ho
  obtain ⟨g', cap', cur, hv, hbg, hg, hnc, hcm, hcs, htake⟩ := (show _ from ho.2.resolve_left (fun h => by have := h.2; omega) : ∃ g' cap' cur, _)
  obtain ⟨rfl, rfl⟩ : g = g' ∧ l.length = cap' := by simpa using hv
  have hgl : g < w.heap.size := (Array.getElem?_eq_some_iff.1 hg).1
  have hel : e < w.heap.size := (Array.getElem?_eq_some_iff.1 he).1
  have hsplit : cellsR l = cellsR (l.take i) ++ cellsR (l.drop i) := by rw [← cellsR_append, List.take_append_drop]
  have lA : (cellsR (l.take i)).length = i * 3 := by rw [cellsR_length, List.length_take, Nat.min_eq_left (by omega)]
  have lB : (cellsR (l.drop i)).length = (l.length - i) * 3 := by rw [cellsR_length, List.length_drop]
  have lX : (cellsR [x]).length = 3 := rfl
  have key : ∀ j v, (cellsR l)[j]? = some v → w.cell? ⟨g, j, none⟩ = some v := fun j v hj => by
    rw [cell_of_row _ _ j _ _ _ hg]
    rw [← htake, List.getElem?_take] at hj
    split at hj
    · rwa [Array.getElem?_toList] at hj
    · cases hj
  obtain ⟨i0, hi0, hz0, hz1, hz2⟩ := info_parts infoRng
  have hold : (Builtin.firstCells i0.size i (.slice (some ⟨g, 0, none⟩) i l.length)).run Tryd.prog w.drew = .ok (cellsR (l.take i)).toArray w.drew := by
    rw [hz1]
    refine run_firstCells_some w.drew 3 i ⟨g, 0, none⟩ i l.length (cellsR (l.take i)) lA fun j v hj => ?_
    rw [addr_at]
    refine key j v ?_
    rw [hsplit, List.getElem?_append_left (List.getElem?_eq_some_iff.1 hj).1]
    exact hj
  have hr0 := fun ty => Lib.run_append_grow_zeros (P := Tryd.prog) w 22 3 ty 38 i0 (rngV (0, 0, 0)) .i64 .i64 Tryd.underlying22 Tryd.underlying3 hi0 hz0 (some ⟨g, 0, none⟩) i l.length (cellsR (l.take i)) hold (l.length + 1 - i) (by omega) (by omega) (by omega) (by omega) (by rw [hz2]; omega) (by rw [hz2]; exact growslice_fits (by omega) (by omega))
  have hsum : i + (l.length + 1 - i) = l.length + 1 := by omega
  obtain ⟨G, hG⟩ : ∃ G, grownCap w (i + (l.length + 1 - i)) l.length 38 = G := ⟨_, rfl⟩
  have hGn : l.length + 1 ≤ G := by rw [← hG]; have := grownCap_ge w (i + (l.length + 1 - i)) l.length 38; omega
  have hGm : G ≤ maxLen := by rw [← hG]; exact grownCap_le_maxLen w _ _ _ (by unfold maxLen; omega)
  rw [hG, hsum] at hr0
  have hcast : (((l.length + 1 - i : Nat)) : Int) = ((l.length : Nat) : Int) + 1 - (i : Nat) := by omega
  rw [hcast] at hr0
  obtain ⟨L, hL⟩ : ∃ L, ((cellsR (l.take i)).toArray ++ Builtin.zeroCells (rngV (0, 0, 0)).cells (l.length + 1 - i) ++ Builtin.zeroCells (rngV (0, 0, 0)).cells (G - (l.length + 1))).toList = L := ⟨_, rfl⟩
  have hLa : ((cellsR (l.take i)).toArray ++ Builtin.zeroCells (rngV (0, 0, 0)).cells (l.length + 1 - i) ++ Builtin.zeroCells (rngV (0, 0, 0)).cells (G - (l.length + 1))) = L.toArray := by rw [← hL, Array.toArray_toList]
  have hz3' : (rngV (0, 0, 0)).cells.size = 3 := rfl
  have hLl : L.length = G * 3 := by
    rw [← hL]
    simp only [Array.length_toList, Array.size_append, List.size_toArray, size_zeroCells, hz3', lA]
    omega
  have hA : L.take (cellsR (l.take i)).length = cellsR (l.take i) := by
    rw [← hL, Array.toList_append, Array.toList_append, List.append_assoc]
    exact List.take_left
  rw [hLa] at hr0
  obtain ⟨W1, hW1⟩ : ∃ W1, w.drew.alloc (.cells L.toArray 38) = W1 := ⟨_, rfl⟩
  rw [hW1] at hr0
  have hg1 : W1.heap[w.heap.size]? = some (.cells L.toArray 38 (0, 0)) := by rw [← hW1]; exact heap_alloc_new w.drew _
  have hm1 : Moves (fun _ => False) w W1 := by rw [← hW1]; exact Moves.of_below ((Below.refl w.heap.size w).drew.alloc (Nat.le_refl _) _)
  obtain ⟨R, hR, hRl⟩ := put_fresh L _ (cellsR [x]) (cellsR (l.drop i)) hA (by omega)
  rw [lA, lB, lX] at hR
  have he1 := row_keep he hm1 id
  obtain ⟨d0, d1, d2, _⟩ := rng_cells he1
  have hc1 := fun ty => run_copyR W1 ty w.heap.size (i * 3) (l.length + 1 - i) (G - i) ⟨e, 0, none⟩ 1 1 L 38 (cellsR [x]) 1 (by simp only [Nat.min_def]; split <;> omega) hg1 lX (fun j v hj => by
      match j, hj with
      | 0, hj => cases hj; exact d0
      | 1, hj => cases hj; exact d1
      | 2, hj => cases hj; exact d2) (by omega) (cellsR_one' _)
  obtain ⟨W2, hW2⟩ : ∃ W2, W1.setRow w.heap.size (L.take (i * 3) ++ cellsR [x] ++ L.drop (i * 3 + (cellsR [x]).length)).toArray = W2 := ⟨_, rfl⟩
  rw [hW2] at hc1
  have hg2 : W2.heap[w.heap.size]? = some (.cells (L.take (i * 3) ++ cellsR [x] ++ L.drop (i * 3 + (cellsR [x]).length)).toArray 38 (0, 0)) := by rw [← hW2]; exact setRow_heap W1 _ _ _ _ _ hg1
  have hm2 : Moves (fun k => k = w.heap.size) w W2 := (hm1.mono fun k h => h.elim).trans (by
    rw [← hW2]
    exact ⟨rfl, rfl, rfl, by simp [World.setRow], fun k hk hk2 => setRow_other W1 _ _ _ hk2⟩)
  have hcell : ∀ j v, (cellsR (l.drop i))[j]? = some v → W2.drew.cell? ((⟨g, i * 3, none⟩ : Addr).add j) = some v := fun j v hj => by
    have hadd : (⟨g, i * 3, none⟩ : Addr).add j = ⟨g, i * 3 + j, none⟩ := by unfold Addr.add; split <;> simp_all
    rw [hadd]
    show W2.cell? _ = _
    refine cell_moves hm2 (by show ¬ g = w.heap.size; omega) (key _ _ ?_)
    rw [hsplit, List.getElem?_append_right (by omega), lA, show i * 3 + j - i * 3 = j from by omega]
    exact hj
  have hc2 := fun ty => run_copyR W2.drew ty w.heap.size ((i + 1) * 3) (l.length - i) (G - (i + 1)) ⟨g, i * 3, none⟩ (l.length - i) (l.length - i) _ 38 (cellsR (l.drop i)) (l.length - i) (by simp only [Nat.min_def]; split <;> omega) hg2 lB hcell (by simp only [List.length_append, List.length_take, List.length_drop, lX, lB, hLl]; omega) (cellsR_one' _)
  obtain ⟨W3, hW3⟩ : ∃ W3, W2.drew.setRow w.heap.size ((L.take (i * 3) ++ cellsR [x] ++ L.drop (i * 3 + (cellsR [x]).length)).take ((i + 1) * 3) ++ cellsR (l.drop i) ++ (L.take (i * 3) ++ cellsR [x] ++ L.drop (i * 3 + (cellsR [x]).length)).drop ((i + 1) * 3 + (cellsR (l.drop i)).length)).toArray = W3 := ⟨_, rfl⟩
  rw [hW3] at hc2
  have hg3 : W3.heap[w.heap.size]? = some (.cells (cellsR (l.take i) ++ cellsR [x] ++ cellsR (l.drop i) ++ R).toArray 38 (0, 0)) := by
    rw [← hR, ← hW3, lX, lB, show (i + 1) * 3 = i * 3 + 3 from by omega]
    exact setRow_heap W2.drew _ _ _ _ _ (by show W2.heap[w.heap.size]? = _; rw [hg2, lX])
  have hm3 : Moves (fun k => k = w.heap.size) w W3 := hm2.trans (by
    rw [← hW3]
    exact ⟨rfl, rfl, rfl, by simp [World.setRow], fun k hk hk2 => setRow_other W2.drew _ _ _ hk2⟩)
  have hlen := insAt_length (i := i) (l := l) (by omega) x
  have hcells : cellsR (insAt l i x) = cellsR (l.take i) ++ cellsR [x] ++ cellsR (l.drop i) := by unfold insAt; rw [cellsR_append, cellsR_append]
  have hRl2 : (cellsR (l.take i) ++ cellsR [x] ++ cellsR (l.drop i) ++ R).length = G * 3 := by rw [hRl, hLl]
  have hown := own_of_row (base := base) (cap := G) (l := insAt l i x) hg3 hbase (by omega) hGm hRl2 (by
    have h3 : (insAt l i x).length * 3 = (cellsR (insAt l i x)).length := (cellsR_length _).symm
    rw [h3, hcells, List.take_left])
  rw [hlen] at hown
  have HPOST : Hid (InsPost l i x base (.slice (some ⟨g, 0, none⟩) l.length l.length) w (.returned (.slice (some ⟨w.heap.size, 0, none⟩) (l.length + 1) G)) W3) :=
    Lib.hid ⟨w.heap.size, G, rfl, hown, ⟨hm3.os, hm3.tape, hm3.output, hm3.size, fun k hk h => hm3.block k hk (fun e => by omega)⟩, .inr (Nat.le_refl _)⟩
  obtain ⟨P, hP⟩ : ∃ P, InsPost l i x base (.slice (some ⟨g, 0, none⟩) l.length l.length) w = P := ⟨_, rfl⟩
  rw [hP] at HPOST ⊢
  have hr1 : ∀ ty, (appSem #[22, 3] ty #[.slice (some ⟨g, 0, none⟩) i l.length, .int .i64 (((l.length : Nat) : Int) + 1 - (i : Nat))]).run Tryd.prog w = .ok (.slice (some ⟨w.heap.size, 0, none⟩) (l.length + 1) G) W1 := hr0
  obtain ⟨n, hnn⟩ : ∃ n, l.length = n := ⟨_, rfl⟩
  rw [hnn] at hr1 hc1 hc2 hn hi HPOST hGn ⊢
  have hcm2 : G ≤ 9223372036854775807 := by unfold maxLen at hGm; omega
  have hq2 : ¬ (i = n) := by omega
  have hq3 : ¬ G = i := by omega
  have hq4 : ¬ G = i + 1 := by omega
  have hq5 : ¬ n = i := by omega
  have hq6 : IntKind.i64.wrap (((n : Nat) : Int) + 1 - (i : Nat)) = ((n : Nat) : Int) + 1 - (i : Nat) := wrap_id (by omega) (by omega)
  clear hP hr0 hown hRl2 hcells hlen hm3 hg3 hW3 hcell hm2 hg2 hW2 d0 d1 d2 he1 hR hRl hm1 hg1 hW1 hA hLl hLa hL hcast hG hGm hsum hold hi0 hz0 hz1 hz2 key lX lB lA hsplit hgl hel htake hcs hg ho hv hA0 he hnn hnc hcm
  go_enter Tryd.func51, Tryd.ntmps51
  go_wp2
  go_region
  all_goals
    go_wp2
    exact HPOST.out
theorem ins_any {o : Option Addr} {l : List Rng} {cap base e i : Nat} (x : Rng) (w : World) (ho : w.ownsRow base 38 3 (.slice o l.length cap) l.length (cellsR l)) (hn : l.length ≤ 10000) (hbase : base ≤ w.heap.size) (hi : i ≤ l.length) (hne : ∀ g, (Value.slice o l.length cap).ownBlock = some g → e ≠ g) (he : w.heap[e]? = some (rngO x)) :
    Calls Tryd.prog 51 #[.slice o l.length cap, .int .i64 (i : Nat), .slice (some ⟨e, 0, none⟩) 1 1] w (InsPost l i x base (.slice o l.length cap) w) := by
  rcases Nat.lt_or_ge i l.length with h | h
  · obtain ⟨g, rfl⟩ : ∃ g, o = some ⟨g, 0, none⟩ := by
      rcases ho.2 with ⟨hv, h0⟩ | ⟨g', cap', cur, hv, _⟩
      · omega
      · exact ⟨g', by simpa using (Value.slice.inj hv).1⟩
    have hc := own_cap ho
    rcases Nat.lt_or_ge l.length cap with h2 | h2
    · exact ins_room x w ho hn h h2 (hne g rfl) he
    · obtain rfl : cap = l.length := by omega
      exact ins_grow x w ho hn hbase h he
  · obtain rfl : i = l.length := by omega
    exact ins_end x w ho hn hbase he
end Go.Proofs.YtkhniogmogcjlaaDoor
