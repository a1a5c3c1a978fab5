/- join: a range behind a tight map. -/
import Derived.Test.YtkhniogmogcjlaaDoorNPut
namespace Go.Proofs.YtkhniogmogcjlaaDoor
open Go.RowKit Go.Shelf Go.Maps
attribute [local go_sem ↓] app_hide

def JoinPost (m : List Rng) (x : Rng) (base : Nat) (v : Value) (w : World) (e : Ending) (w' : World) : Prop :=
  ∃ g cap, e = .returned (.slice (some ⟨g, 0, none⟩) (joinL m x).length cap) ∧ w'.ownsRow base 38 3 (.slice (some ⟨g, 0, none⟩) (joinL m x).length cap) (joinL m x).length (cellsR (joinL m x)) ∧
    Moves (fun k => v.ownBlock = some k) w w' ∧ (v.ownBlock = some g ∨ w.heap.size ≤ g)
theorem cells_set (d : List Rng) (y : Rng) (t : Int) : (cellsR (d ++ [y])).set (d.length * 3 + 1) (.int .i64 t) = cellsR (d ++ [(y.1, t, y.2.2)]) := by
  rw [cellsR_append, cellsR_append, List.set_append_right _ _ (by rw [cellsR_length]; omega), cellsR_length, show d.length * 3 + 1 - d.length * 3 = 1 from by omega]
  rfl
theorem own_set {w : World} {base g cap : Nat} {d : List Rng} {y : Rng} (t : Int) (h : w.ownsRow base 38 3 (.slice (some ⟨g, 0, none⟩) (d.length + 1) cap) (d.length + 1) (cellsR (d ++ [y]))) :
    (w.setCell ⟨g, d.length * 3 + 1, none⟩ (.int .i64 t)).ownsRow base 38 3 (.slice (some ⟨g, 0, none⟩) (d.length + 1) cap) (d.length + 1) (cellsR (d ++ [(y.1, t, y.2.2)])) := by
  obtain ⟨g', cap', cur, hv, hbg, hg, hnc, hcm, hcs, htake⟩ := (show _ from h.2.resolve_left (fun h => by have := h.2; omega) : ∃ g' cap' cur, _)
  obtain ⟨rfl, rfl⟩ : g = g' ∧ cap = cap' := by simpa using hv
  refine ⟨by rw [cellsR_length]; simp, .inr ⟨g, cap, cur.setIfInBounds (d.length * 3 + 1) (.int .i64 t), rfl, hbg, ?_, hnc, hcm, by simpa using hcs, ?_⟩⟩
  · exact heap_setCell_same _ _ _ _ _ _ hg
  · rw [Array.toList_setIfInBounds, ← cells_set, ← htake, List.take_set]
theorem own_at {w : World} {base g cap : Nat} {l : List Rng} (h : w.ownsRow base 38 3 (.slice (some ⟨g, 0, none⟩) l.length cap) l.length (cellsR l)) {j : Nat} {x : Rng} (hx : l[j]? = some x) :
    w.cell? ⟨g, j * 3, none⟩ = some (.int .i64 x.1) ∧ w.cell? ⟨g, j * 3 + 1, none⟩ = some (.int .i64 x.2.1) ∧ w.cell? ⟨g, j * 3 + 2, none⟩ = some (.int .i64 x.2.2) ∧ w.frozen? ⟨g, j * 3 + 1, none⟩ = false := by
  have hlt := (List.getElem?_eq_some_iff.1 hx).1
  obtain ⟨g', cap', cur, hv, hbg, hg, hnc, hcm, hcs, htake⟩ := (show _ from h.2.resolve_left (fun h => by have := h.2; omega) : ∃ g' cap' cur, _)
  obtain ⟨rfl, rfl⟩ : g = g' ∧ cap = cap' := by simpa using hv
  have hat := at_own h (by omega)
  obtain ⟨g2, off, e, hc⟩ := hat
  obtain ⟨rfl, rfl⟩ : g = g2 ∧ 0 = off := by simpa using e
  obtain ⟨h0, h1, h2⟩ := hc j x hx
  rw [Nat.zero_add] at h0 h1 h2
  exact ⟨h0, h1, h2, frozen_of_row _ _ _ _ _ hg⟩
set_option maxRecDepth 100000 in
set_option maxHeartbeats 2000000 in
theorem join_any {o : Option Addr} {m : List Rng} {cap base : Nat} (x : Rng) (w : World) (ho : w.ownsRow base 38 3 (.slice o m.length cap) m.length (cellsR m)) (hb : ∀ y ∈ m, -1000000 ≤ y.2.1 ∧ y.2.1 ≤ 10000000) (hn : m.length ≤ 10000) (hbase : base ≤ w.heap.size) :
    Calls Tryd.prog 47 #[.slice o m.length cap, rngV x] w (JoinPost m x base (.slice o m.length cap) w) := by
  obtain ⟨w1, hw1⟩ : ∃ w1, w.alloc (rngO x) = w1 := ⟨_, rfl⟩
  have A1 : Below w.heap.size w w1 := by rw [← hw1]; exact (Below.refl _ _).alloc (Nat.le_refl _) _
  have z1 : w1.heap.size = w.heap.size + 1 := by rw [← hw1]; simp
  have x1 : w1.heap[w.heap.size]? = some (rngO x) := by rw [← hw1]; exact heap_alloc_new _ _
  have o1 := own_below ho A1
  have grow : (∀ y, m.getLast? = some y → ¬ (y.2.1 + 1 = x.1 ∧ y.2.2 = x.2.2)) → ∀ q, ∃ g6 cap6 w6, (appSem #[22, 22] 22 #[.slice o m.length cap, .slice (some ⟨w1.heap.size, 0, none⟩) 1 1]).run Tryd.prog ((w1.drewN q).alloc (rngO x)) = .ok (.slice (some ⟨g6, 0, none⟩) (m.length + 1) cap6) w6 ∧
      JoinPost m x base (.slice o m.length cap) w (.returned (.slice (some ⟨g6, 0, none⟩) (m.length + 1) cap6)) w6 := fun hno q => by
    have A2 : Below w1.heap.size w1 ((w1.drewN q).alloc (rngO x)) := (Moves.below (Below.refl _ _) (Nat.le_refl _) (moves_drewN1 w1 q) (fun k h => h.elim)).alloc (Nat.le_refl _) _
    have o2 := own_below o1 A2
    obtain ⟨g6, cap6, w6, hr, own6, gr6, hat⟩ := rng_own x o2 (by omega) (by have := A2.size; omega) (e := w1.heap.size) (heap_alloc_new (w1.drewN q) _)
    have hj : joinL m x = m ++ [x] := by
      unfold joinL
      cases hl : m.getLast? with
      | none => rfl
      | some y => simp only; rw [if_neg (hno y hl)]
    refine ⟨g6, cap6, w6, hr, g6, cap6, ?_, ?_, ?_, ?_⟩
    · rw [hj]; simp
    · rw [hj, cellsR_append, List.length_append]; exact own6
    · exact (Moves.of_below (A1.trans (A2.mono (by omega)))).trans ((Moves.of_grown gr6).mono fun k hk => hk.symm)
    · rcases hat g6 (by simp [Value.ownBlock]) with h | h
      · exact .inl h
      · exact .inr (by have := A2.size; omega)
  have ext : ∀ d y, m = d ++ [y] → (y.2.1 + 1 = x.1 ∧ y.2.2 = x.2.2) → ∀ g, o = some ⟨g, 0, none⟩ → ∀ q, JoinPost m x base (.slice o m.length cap) w (.returned (.slice (some ⟨g, 0, none⟩) m.length cap)) ((w1.drewN q).setCell ⟨g, d.length * 3 + 1, none⟩ (.int .i64 x.2.1)) := fun d y hd hy g hg q => by
    subst hg
    have hl : m.getLast? = some y := by rw [hd]; simp
    have hdl : m.dropLast = d := by rw [hd]; simp
    have hj : joinL m x = d ++ [(y.1, x.2.1, y.2.2)] := by
      unfold joinL
      rw [hl]
      simp only
      rw [if_pos hy, hdl]
    have hlen : (joinL m x).length = m.length := by rw [hj, hd]; simp
    have hml : m.length = d.length + 1 := by rw [hd]; simp
    have o2 : (w1.drewN q).ownsRow base 38 3 (.slice (some ⟨g, 0, none⟩) m.length cap) m.length (cellsR m) := own_below o1 (Moves.below (Below.refl _ _) (Nat.le_refl _) (moves_drewN1 w1 q) (fun k h => h.elim))
    rw [hml] at o2
    have o3 := own_set (d := d) (y := y) x.2.1 (by rw [← hd]; exact o2)
    refine ⟨g, cap, by rw [hlen], ?_, ?_, .inl rfl⟩
    · rw [hlen, hj, hml]; exact o3
    · exact ((Moves.of_below A1).trans ((moves_drewN1 w1 q).mono fun k h => h.elim)).trans (Moves.setCell (by rfl))
  obtain ⟨P, hP⟩ : ∃ P, JoinPost m x base (.slice o m.length cap) w = P := ⟨_, rfl⟩
  rw [hP] at grow ext ⊢
  have GR := Lib.hid grow
  have EX := Lib.hid ext
  have HO1 := Lib.hid o1
  have HW1 := Lib.hid hw1
  have HBD := Lib.hid hb
  obtain ⟨n, hnn⟩ : ∃ n, m.length = n := ⟨_, rfl⟩
  have HN := Lib.hid hnn
  rw [hnn] at hn ⊢
  obtain ⟨q0, q1, q2, _⟩ := rng_cells x1
  clear grow ext hP ho o1 hw1 A1 x1 hnn hb
  obtain ⟨a, b, v⟩ := x
  simp only at q0 q1 q2 GR EX HW1
  go_enter Tryd.func47, Tryd.ntmps47
  go_wp2_with fail
  rw [HW1.out]
  rcases Nat.eq_zero_or_pos n with h0 | hpos
  · subst h0
    have hm0 : m = [] := List.eq_nil_of_length_eq_zero HN.out
    have G2 := Lib.hid (GR.out (fun y hy => by rw [hm0] at hy; simp at hy))
    clear hm0 GR EX
    go_wp2_with fail
    go_quiet (fail)
    obtain ⟨g6, cap6, w6, hr, hp⟩ := G2.out nq
    rw [HN.out] at hr hp
    obtain ⟨w2, hw2⟩ : ∃ w2, w1.drewN nq = w2 := ⟨_, rfl⟩
    have s0 : w2.cell? ⟨w.heap.size, 0, none⟩ = some (.int .i64 a) := by rw [← hw2]; exact q0
    have s1 : w2.cell? ⟨w.heap.size, 1, none⟩ = some (.int .i64 b) := by rw [← hw2]; exact q1
    have s2 : w2.cell? ⟨w.heap.size, 2, none⟩ = some (.int .i64 v) := by rw [← hw2]; exact q2
    have z2 : w2.heap.size = w1.heap.size := by rw [← hw2]; rfl
    rw [hw2] at hr ⊢
    rw [z1] at hr
    have HPP := Lib.hid hp
    clear hp hw2 q0 q1 q2
    go_wp2
    exact HPP.out
  · obtain ⟨k, rfl⟩ : ∃ k, n = k + 1 := ⟨n - 1, by omega⟩
    obtain ⟨y, hy⟩ : ∃ y, m[k]? = some y := ⟨_, List.getElem?_eq_getElem (by rw [HN.out]; omega)⟩
    have hd : m = m.take k ++ [y] := by
      have h1 : m = m.take (k + 1) := (List.take_of_length_le (by rw [HN.out]; exact Nat.le_refl _)).symm
      rw [List.take_add_one, hy] at h1
      exact h1
    have hdl : (m.take k).length = k := by rw [List.length_take, HN.out]; omega
    have hlast : m.getLast? = some y := by rw [List.getLast?_eq_getElem?, HN.out]; exact hy
    obtain ⟨g, rfl⟩ : ∃ g, o = some ⟨g, 0, none⟩ := by
      rcases HO1.out.2 with ⟨hv, h0⟩ | ⟨g', cap', cur, hv, _⟩
      · rw [HN.out] at h0; omega
      · exact ⟨g', by simpa using (Value.slice.inj hv).1⟩
    obtain ⟨k0, k1, k2, fz⟩ := own_at HO1.out hy
    have hyb := HBD.out y (List.mem_of_getElem? hy)
    have hgl := World.block_lt_of_cell? w1 _ k0
    obtain ⟨ya, yb, yv⟩ := y
    simp only at k0 k1 k2 hyb
    have hwy : IntKind.i64.wrap (yb + 1) = yb + 1 := wrap_id (by omega) (by omega)
    have hwk : IntKind.i64.wrap (((k : Nat) : Int) + 1 - 1) = (k : Nat) := by rw [show ((k : Nat) : Int) + 1 - 1 = (k : Nat) from by omega]; exact wrap_id (by omega) (by omega)
    have hwk2 : IntKind.i64.wrap ((k : Nat) : Int) = (k : Nat) := wrap_id (by omega) (by omega)
    have hkb : k < 1000000 := by omega
    by_cases e1 : yb + 1 = a
    · have hb1 : (yb + 1 == a) = true := by simpa using e1
      by_cases e2 : yv = v
      · have hb2 : (yv == v) = true := by simpa using e2
        have E2 := Lib.hid fun q => EX.out _ _ hd ⟨e1, e2⟩ g rfl q
        have HDL := Lib.hid hdl
        clear EX GR hd hlast hy hdl e1 e2
        go_wp2_with fail
        go_quiet (fail)
        have hp := E2.out nq
        rw [HN.out, HDL.out] at hp
        obtain ⟨w2, hw2⟩ : ∃ w2, w1.drewN nq = w2 := ⟨_, rfl⟩
        have s1 : w2.cell? ⟨w.heap.size, 1, none⟩ = some (.int .i64 b) := by rw [← hw2]; exact q1
        have t1 : w2.cell? ⟨g, k * 3 + 1, none⟩ = some (.int .i64 yb) := by rw [← hw2]; exact k1
        have t2 : w2.frozen? ⟨g, k * 3 + 1, none⟩ = false := by rw [← hw2]; exact fz
        rw [hw2] at hp ⊢
        have HPP := Lib.hid hp
        clear hp hw2 q0 q1 q2 k0 k1 k2 fz
        go_wp2
        exact HPP.out
      · have hb2 : (yv == v) = false := by simpa using e2
        have G2 := Lib.hid (GR.out (fun z hz => by rw [hlast] at hz; cases hz; exact fun h => e2 h.2))
        clear EX GR hd hlast hy hdl e1 e2
        go_wp2_with fail
        go_quiet (fail)
        obtain ⟨g6, cap6, w6, hr, hp⟩ := G2.out nq
        rw [HN.out] at hr hp
        obtain ⟨w2, hw2⟩ : ∃ w2, w1.drewN nq = w2 := ⟨_, rfl⟩
        have s0 : w2.cell? ⟨w.heap.size, 0, none⟩ = some (.int .i64 a) := by rw [← hw2]; exact q0
        have s1 : w2.cell? ⟨w.heap.size, 1, none⟩ = some (.int .i64 b) := by rw [← hw2]; exact q1
        have s2 : w2.cell? ⟨w.heap.size, 2, none⟩ = some (.int .i64 v) := by rw [← hw2]; exact q2
        have z2 : w2.heap.size = w1.heap.size := by rw [← hw2]; rfl
        rw [hw2] at hr ⊢
        rw [z1] at hr
        have HPP := Lib.hid hp
        clear hp hw2 q0 q1 q2
        go_wp2
        exact HPP.out
    · have hb1 : (yb + 1 == a) = false := by simpa using e1
      have G2 := Lib.hid (GR.out (fun z hz => by rw [hlast] at hz; cases hz; exact fun h => e1 h.1))
      clear EX GR hd hlast hy hdl e1
      go_wp2_with fail
      go_quiet (fail)
      obtain ⟨g6, cap6, w6, hr, hp⟩ := G2.out nq
      rw [HN.out] at hr hp
      obtain ⟨w2, hw2⟩ : ∃ w2, w1.drewN nq = w2 := ⟨_, rfl⟩
      have s0 : w2.cell? ⟨w.heap.size, 0, none⟩ = some (.int .i64 a) := by rw [← hw2]; exact q0
      have s1 : w2.cell? ⟨w.heap.size, 1, none⟩ = some (.int .i64 b) := by rw [← hw2]; exact q1
      have s2 : w2.cell? ⟨w.heap.size, 2, none⟩ = some (.int .i64 v) := by rw [← hw2]; exact q2
      have z2 : w2.heap.size = w1.heap.size := by rw [← hw2]; rfl
      rw [hw2] at hr ⊢
      rw [z1] at hr
      have HPP := Lib.hid hp
      clear hp hw2 q0 q1 q2
      go_wp2
      exact HPP.out
end Go.Proofs.YtkhniogmogcjlaaDoor
