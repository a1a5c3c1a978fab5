/- The document's own put: a range, where it belongs. -/
import Derived.Test.YtkhniogmogcjlaaDoorNRefTight
import Derived.Test.YtkhniogmogcjlaaDoorNApp
namespace Go.Proofs.YtkhniogmogcjlaaDoor
open Go.RowKit Go.Shelf Go.Maps
attribute [local go_sem] Oper.semAt_some
attribute [local go_sem ↓] app_hide

/-- Where it belongs. -/
def spotL (l : List Rng) (x : Rng) : Nat := (l.takeWhile fun y => decide (y.1 < x.1)).length
theorem spot_le (l : List Rng) (x : Rng) : spotL l x ≤ l.length := by
  unfold spotL
  exact List.IsPrefix.length_le (List.takeWhile_prefix _)
theorem spot_at {l : List Rng} {x : Rng} : ∀ {j : Nat}, (∀ i y, i < j → l[i]? = some y → y.1 < x.1) → j ≤ l.length → (∀ y, l[j]? = some y → ¬ y.1 < x.1) → spotL l x = j := by
  induction l with
  | nil => intro j _ hj _; simp at hj; subst hj; rfl
  | cons z t ih =>
    intro j hb hj he
    unfold spotL at ih ⊢
    cases j with
    | zero =>
      have := he z rfl
      rw [List.takeWhile_cons_of_neg (by simpa using this)]
      rfl
    | succ j =>
      have h0 := hb 0 z (by omega) rfl
      rw [List.takeWhile_cons_of_pos (by simpa using h0), List.length_cons, ih (j := j) (fun i y hi hy => hb (i + 1) y (by omega) (by simpa using hy)) (by simpa using hj) (fun y hy => he y (by simpa using hy))]
theorem insAt_perm {l : List Rng} {i : Nat} (x : Rng) : (insAt l i x).Perm (x :: l) := by
  unfold insAt
  rw [List.append_assoc]
  have h : (l.take i ++ ([x] ++ l.drop i)).Perm ([x] ++ (l.take i ++ l.drop i)) := by
    rw [← List.append_assoc, ← List.append_assoc]
    exact List.Perm.append_right _ List.perm_append_comm
  rw [List.take_append_drop] at h
  exact h
/-- The three appends. -/
theorem put_first {W : World} {l : List Rng} {i : Nat} {o : Option Addr} (c : Nat) (hi : i ≤ l.length) (hn : l.length ≤ 10000) (hA : AtR W o l) (base : Nat) (hb : base ≤ W.heap.size) :
    ∃ p q w1, (appSem #[22, 22] 22 #[.slice none 0 0, .slice o i c]).run Tryd.prog W = .ok (.slice p i q) w1 ∧ w1.ownsRow base 38 3 (.slice p i q) i (cellsR (l.take i)) ∧ Below W.heap.size W w1 := by
  have e3 : (l.take i).length = i := by rw [List.length_take]; omega
  obtain ⟨p1, q1, w1, r1, own1, g1, b1⟩ := rngs_own (W := W) (base := base) (l.take i) o c (hA.take i) (World.ownsRow_nil W _ _ _) (by rw [e3]; omega) hb
  have m1 : Below W.heap.size W w1 := Moves.below (Below.refl _ _) (Nat.le_refl _) (Moves.of_grown g1) (fun k h => by simp [Value.ownBlock] at h)
  rw [e3, Nat.zero_add] at r1 own1
  exact ⟨p1, q1, w1, r1, by simpa using own1, m1⟩
theorem put_rest {W w2 : World} {l : List Rng} {i : Nat} (x : Rng) {o : Option Addr} {p : Option Addr} {q e : Nat} (c : Nat) (hi : i ≤ l.length) (hn : l.length ≤ 10000) (hB : Below W.heap.size W w2) (hA : AtR W o (l.drop i))
    (ho : w2.ownsRow W.heap.size 38 3 (.slice p i q) i (cellsR (l.take i))) (he : w2.heap[e]? = some (rngO x)) :
    ∃ p2 q2 w3 p3 q3 w4, (appSem #[22, 22] 22 #[.slice p i q, .slice (some ⟨e, 0, none⟩) 1 1]).run Tryd.prog w2 = .ok (.slice p2 (i + 1) q2) w3 ∧
      (appSem #[22, 22] 22 #[.slice p2 (i + 1) q2, .slice o (l.length - i) c]).run Tryd.prog w3 = .ok (.slice p3 (l.length + 1) q3) w4 ∧
      w4.ownsRow W.heap.size 38 3 (.slice p3 (l.length + 1) q3) (l.length + 1) (cellsR (insAt l i x)) ∧ Below W.heap.size W w4 := by
  obtain ⟨g, q2, w3, r2, own2, g2, b2⟩ := rng_own x ho (by omega) hB.size he
  have m2 : Below W.heap.size W w3 := Moves.below hB hB.size (Moves.of_grown g2) (fun k h => (ho.lt k h.symm).1)
  have ed : (l.drop i).length = l.length - i := List.length_drop
  obtain ⟨p3, q3, w4, r3, own3, g3, _⟩ := rngs_own (W := w3) (base := W.heap.size) (l.drop i) o c (hA.below m2) own2 (by rw [ed]; omega) m2.size
  have m3 : Below W.heap.size W w4 := Moves.below m2 m2.size (Moves.of_grown g3) (fun k h => (own2.lt k h.symm).1)
  rw [ed] at r3 own3
  rw [show i + 1 + (l.length - i) = l.length + 1 from by omega] at r3 own3
  refine ⟨_, q2, w3, p3, q3, w4, r2, r3, ?_, m3⟩
  unfold insAt
  rw [cellsR_append, cellsR_append]
  exact own3
set_option maxRecDepth 100000 in
set_option maxHeartbeats 4000000 in
theorem refPut_any {o : Option Addr} {l : List Rng} {cap : Nat} (x : Rng) (hn : l.length ≤ 9000) (hc : l.length ≤ cap) (hform : (o = none ∧ l = []) ∨ ∃ g, o = some ⟨g, 0, none⟩) (w : World) (hA : AtR w o l) :
    Calls Tryd.prog 34 #[.slice o l.length cap, rngV x] w fun e w' => ∃ o' cap', e = .returned (.slice o' (l.length + 1) cap') ∧ w'.ownsRow w.heap.size 38 3 (.slice o' (l.length + 1) cap') (l.length + 1) (cellsR (insAt l (spotL l x) x)) ∧ Below w.heap.size w w' := by
  obtain ⟨w1, hw1⟩ : ∃ w1, w.alloc (rngO x) = w1 := ⟨_, rfl⟩
  have A1 : Below w.heap.size w w1 := by rw [← hw1]; exact (Below.refl _ _).alloc (Nat.le_refl _) _
  have z1 : w1.heap.size = w.heap.size + 1 := by rw [← hw1]; simp
  have x1 : w1.heap[w.heap.size]? = some (rngO x) := by rw [← hw1]; exact heap_alloc_new _ _
  obtain ⟨n, hnn⟩ : ∃ n, l.length = n := ⟨_, rfl⟩
  have HN := Lib.hid hnn
  have HA := Lib.hid (hA.below A1)
  have HA1 := Lib.hid A1
  have HX1 := Lib.hid x1
  have HF := Lib.hid hform
  obtain ⟨P, hP⟩ : ∃ P, (fun (e : Ending) (w' : World) => ∃ o' cap', e = .returned (.slice o' (l.length + 1) cap') ∧ w'.ownsRow w.heap.size 38 3 (.slice o' (l.length + 1) cap') (l.length + 1) (cellsR (insAt l (spotL l x) x)) ∧ Below w.heap.size w w') = P := ⟨_, rfl⟩
  have HP := Lib.hid hP
  rw [hP]
  rw [hnn] at hn hc ⊢
  have HW1 := Lib.hid hw1
  obtain ⟨q0, q1, q2, _⟩ := rng_cells x1
  clear hP hA A1 x1 hform hnn hw1
  obtain ⟨xa, xb, xv⟩ := x
  simp only at q0 q1 q2
  go_enter Tryd.func34, Tryd.ntmps34
  go_wp2_with fail
  rw [HW1.out]
  go_loopg [5] n (fun k v wr => ∃ (j q : Nat), v = .int .i64 (j : Nat) ∧ j ≤ n ∧ k = n - j ∧ Hid (∀ i y, i < j → l[i]? = some y → y.1 < xa) ∧ wr = w1.drewN q)
  case atStart => exact ⟨0, 0, rfl, Nat.zero_le _, rfl, Lib.hid fun i y hi => by omega, rfl⟩
  case round =>
    obtain ⟨j, q, rfl, hj, rfl, HB, rfl⟩ := hrel
    have DONE : (∀ y, l[j]? = some y → ¬ y.1 < xa) → Hid (spotL l (xa, xb, xv) = j) := fun h => Lib.hid (spot_at HB.out (by rw [HN.out]; exact hj) h)
    rcases Nat.lt_or_ge j n with hlt | hge
    focus
      have hj1 : j < 1000000 := by omega
      obtain ⟨y, hy⟩ : ∃ y, l[j]? = some y := ⟨_, List.getElem?_eq_getElem (by rw [HN.out]; exact hlt)⟩
      obtain ⟨g, off, rfl, hcc⟩ := HA.out (by rw [HN.out]; omega)
      obtain ⟨k0, k1, k2⟩ := hcc j y hy
      have hg := World.block_lt_of_cell? w1 _ k0
      have HY := Lib.hid hy
      by_cases hlt2 : y.1 < xa
      focus
        have HB2 : Hid (∀ i y, i < j + 1 → l[i]? = some y → y.1 < xa) := Lib.hid fun i z hi hz => by
          rcases Nat.lt_or_ge i j with h | h
          · exact HB.out i z h hz
          · obtain rfl : i = j := by omega
            rw [HY.out] at hz
            cases hz
            exact hlt2
        obtain ⟨ya, yb, yv⟩ := y
        simp only at k0 hlt2
        clear hcc hy DONE
        go_wp2_with fail
        go_quiet (fail)
        go_wp2
        go_roundg (n - (j + 1))
        case measure => omega
        case rel => exact ⟨j + 1, q + nq, by simp, by omega, rfl, HB2, rfl⟩
      have HSP := DONE (fun z hz => by rw [HY.out] at hz; cases hz; exact hlt2)
      obtain ⟨ya, yb, yv⟩ := y
      simp only at k0 hlt2
      clear hcc hy DONE
      go_wp2_with fail
      go_quiet (fail)
      go_wp2_with fail
      clear k0 k1 k2 HY
      obtain ⟨o, hoo⟩ : ∃ o : Option Addr, some ⟨g, off, none⟩ = o := ⟨_, rfl⟩
      rw [hoo] at HA HF ⊢
      clear hoo hlt hlt2
    rotate_left 1
    focus
      have hjn : n = j := by omega
      have HSP := DONE (fun z hz => by have := (List.getElem?_eq_some_iff.1 hz).1; rw [HN.out] at this; omega)
      clear DONE hjn
      have hnl : ¬ j < n := by omega
      go_wp2_with fail
      go_quiet (fail)
      go_wp2_with fail
      clear hnl hge
    all_goals
      obtain ⟨W, hW⟩ : ∃ W, (w1.drewN q).drewN nq = W := ⟨_, rfl⟩
      have D3 : Below w1.heap.size w1 W := by rw [← hW]; exact below_drewN2 _ _ _
      have z3 : W.heap.size = w1.heap.size := by rw [← hW]; rfl
      rw [hW]
      clear hW
      have BW := Lib.hid (HA1.out.trans ((show Below w1.heap.size w1 W.drew from D3.drew).mono HA1.out.size))
      have hbw : w.heap.size ≤ W.heap.size := by omega
      have AW := Lib.hid (HA.out.below (show Below w1.heap.size w1 W.drew from D3.drew))
      have XW : W.drew.heap[w.heap.size]? = some (rngO (xa, xb, xv)) := row_below HX1.out (show Below w1.heap.size w1 W.drew from D3.drew)
      have c0 : W.cell? ⟨w.heap.size, 0, none⟩ = some (.int .i64 xa) := cell_keep D3 q0
      have c1 : W.cell? ⟨w.heap.size, 1, none⟩ = some (.int .i64 xb) := cell_keep D3 q1
      have c2 : W.cell? ⟨w.heap.size, 2, none⟩ = some (.int .i64 xv) := cell_keep D3 q2
      have hwl : w.heap.size < W.heap.size := by omega
      have hjc : j ≤ cap := by omega
      clear z3
      have MAIN : ∀ (o1 o2 : Option Addr) (k1 k2 : Nat), AtR W.drew o1 l → AtR W.drew o2 (l.drop j) → ∃ p1 q1 w1 p2 q2 w3 p3 q3 w4 p1' q1' w1' p2' q2' w3' p3' q3' w4',
          ((appSem #[22, 22] 22 #[.slice none 0 0, .slice o1 j k1]).run Tryd.prog W.drew = .ok (.slice p1 j q1) w1 ∧
          (appSem #[22, 22] 22 #[.slice p1 j q1, .slice (some ⟨w1.heap.size, 0, none⟩) 1 1]).run Tryd.prog (w1.alloc (rngO (xa, xb, xv))) = .ok (.slice p2 (j + 1) q2) w3 ∧
          (appSem #[22, 22] 22 #[.slice p2 (j + 1) q2, .slice o2 (n - j) k2]).run Tryd.prog w3 = .ok (.slice p3 (n + 1) q3) w4 ∧
          Hid (P (.returned (.slice p3 (n + 1) q3)) w4) ∧ Hid (Below W.drew.heap.size W.drew w1)) ∧
          (appSem #[22, 22] 22 #[.slice none 0 0, .slice o1 j k1]).run Tryd.prog (W.alloc (rngO (xa, xb, xv))).drew = .ok (.slice p1' j q1') w1' ∧
          (appSem #[22, 22] 22 #[.slice p1' j q1', .slice (some ⟨W.heap.size, 0, none⟩) 1 1]).run Tryd.prog w1' = .ok (.slice p2' (j + 1) q2') w3' ∧
          (appSem #[22, 22] 22 #[.slice p2' (j + 1) q2', .slice o2 (n - j) k2]).run Tryd.prog w3' = .ok (.slice p3' (n + 1) q3') w4' ∧
          Hid (P (.returned (.slice p3' (n + 1) q3')) w4') := fun o1 o2 k1 k2 h1 h2 => by
        have hjl : j ≤ l.length := by rw [HN.out]; exact hj
        obtain ⟨p1, q1, wa, r1, own1, m1⟩ := put_first (o := o1) k1 hjl (by rw [HN.out]; omega) h1 W.drew.heap.size (Nat.le_refl _)
        have ma : Below W.drew.heap.size W.drew (wa.alloc (rngO (xa, xb, xv))) := m1.alloc m1.size _
        obtain ⟨p2, q2, w3, p3, q3, w4, r2, r3, own3, m3⟩ := put_rest (W := W.drew) (w2 := wa.alloc (rngO (xa, xb, xv))) (e := wa.heap.size) (xa, xb, xv) k2 hjl (by rw [HN.out]; omega) ma h2 (own1.alloc _) (heap_alloc_new _ _)
        have mb : Below W.drew.heap.size W.drew (W.drew.alloc (rngO (xa, xb, xv))) := (Below.refl _ _).alloc (Nat.le_refl _) _
        obtain ⟨p1', q1', wa', r1', own1', m1'⟩ := put_first (W := W.drew.alloc (rngO (xa, xb, xv))) (o := o1) k1 hjl (by rw [HN.out]; omega) (h1.below mb) W.drew.heap.size mb.size
        have mc : Below W.drew.heap.size W.drew wa' := mb.trans (m1'.mono mb.size)
        obtain ⟨p2', q2', w3', p3', q3', w4', r2', r3', own3', m3'⟩ := put_rest (W := W.drew) (w2 := wa') (e := W.drew.heap.size) (xa, xb, xv) k2 hjl (by rw [HN.out]; omega) mc h2 own1' (row_below (heap_alloc_new W.drew _) m1')
        have fin : ∀ p q w', w'.ownsRow W.drew.heap.size 38 3 (.slice p (l.length + 1) q) (l.length + 1) (cellsR (insAt l j (xa, xb, xv))) → Below W.drew.heap.size W.drew w' → Hid (P (.returned (.slice p (n + 1) q)) w') := fun p q w' ho hb => by
          rw [← HP.out]
          refine Lib.hid ⟨p, q, by rw [HN.out], ?_, BW.out.trans (hb.mono BW.out.size)⟩
          rw [HSP.out]
          refine ⟨ho.1, ho.2.imp id ?_⟩
          rintro ⟨g, cap, cur, h1, h2, h3⟩
          exact ⟨g, cap, cur, h1, Nat.le_trans BW.out.size h2, h3⟩
        have f1 := fin _ _ _ own3 m3
        have f2 := fin _ _ _ own3' m3'
        rw [HN.out] at r3 r3'
        exact ⟨p1, q1, wa, p2, q2, w3, p3, q3, w4, p1', q1', wa', p2', q2', w3', p3', q3', w4', ⟨r1, r2, r3, f1, Lib.hid m1⟩, r1', r2', r3', f2⟩
      have MM := Lib.hid MAIN
      clear MAIN
      rcases HF.out with ⟨rfl, hl0⟩ | ⟨g, rfl⟩
      focus
        have hn0 : n = 0 := by rw [← HN.out, hl0]; rfl
        obtain ⟨p1, q1', wa, p2, q2', w3, p3, q3, w4, p1', q1'', wa', p2', q2'', w3', p3', q3', w4', ⟨r1, r2, r3, HPA, HWA⟩, r1', r2', r3', HPB⟩ := MM.out none none cap (cap - j) AW.out (fun h => by rw [List.length_drop, HN.out] at h; omega)
        have s0 : wa.cell? ⟨w.heap.size, 0, none⟩ = some (.int .i64 xa) := cell_keep HWA.out c0
        have s1 : wa.cell? ⟨w.heap.size, 1, none⟩ = some (.int .i64 xb) := cell_keep HWA.out c1
        have s2 : wa.cell? ⟨w.heap.size, 2, none⟩ = some (.int .i64 xv) := cell_keep HWA.out c2
        clear MM hl0 hn0
        go_region
        all_goals
          go_wp2
          first | exact HPA.out | exact HPB.out
      obtain ⟨Q, hQ⟩ : ∃ Q, (if cap = j then some ⟨g, 0, none⟩ else some (⟨g, j * 3, none⟩ : Addr)) = Q := ⟨_, rfl⟩
      obtain ⟨p1, q1', wa, p2, q2', w3, p3, q3, w4, p1', q1'', wa', p2', q2'', w3', p3', q3', w4', ⟨r1, r2, r3, HPA, HWA⟩, r1', r2', r3', HPB⟩ := MM.out (some ⟨g, 0, none⟩) Q cap (cap - j) AW.out (by
        rw [← hQ]
        split
        · exact fun h => by rw [List.length_drop, HN.out] at h; omega
        · intro hn
          have h0 : 0 < l.length := by rw [List.length_drop] at hn; omega
          obtain ⟨g', off', e', hc'⟩ := AW.out h0
          cases e'
          refine ⟨g, j * 3, rfl, fun i y hy => ?_⟩
          rw [List.getElem?_drop] at hy
          have := hc' (j + i) y hy
          rw [show 0 + (j + i) * 3 = j * 3 + i * 3 from by omega] at this
          exact this)
      have s0 : wa.cell? ⟨w.heap.size, 0, none⟩ = some (.int .i64 xa) := cell_keep HWA.out c0
      have s1 : wa.cell? ⟨w.heap.size, 1, none⟩ = some (.int .i64 xb) := cell_keep HWA.out c1
      have s2 : wa.cell? ⟨w.heap.size, 2, none⟩ = some (.int .i64 xv) := cell_keep HWA.out c2
      clear MM
      go_region
      all_goals
        go_wp2
        first | exact HPA.out | exact HPB.out
end Go.Proofs.YtkhniogmogcjlaaDoor
