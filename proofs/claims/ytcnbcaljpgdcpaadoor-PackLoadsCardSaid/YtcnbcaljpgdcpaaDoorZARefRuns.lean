/- The document's own Runs. -/
import Derived.Test.YtcnbcaljpgdcpaaDoorBunA10
import Derived.StillTailTactics
namespace Go.Proofs.YtcnbcaljpgdcpaaDoor
open Go.RowKit Go.Shelf Go.Maps
attribute [local go_sem] Oper.semAt_some
attribute [local go_sem ↓] app_hide

theorem good_snoc : ∀ {R : List (Nat × Int)} {a : Nat × Int}, goodRuns R → 1 ≤ a.1 → (∀ b, R.getLast? = some b → b.2 ≠ a.2) → goodRuns (R ++ [a])
  | [], a, _, h1, _ => h1
  | [b], a, hg, h1, hn => ⟨hg, hn b rfl, h1⟩
  | b :: c :: r, a, hg, h1, hn => ⟨hg.1, hg.2.1, good_snoc hg.2.2 h1 fun d hd => hn d (by rw [List.getLast?_cons_cons]; exact hd)⟩
theorem good_last : ∀ {R : List (Nat × Int)} {c : Nat} {x : Int}, goodRuns (R ++ [(c, x)]) → goodRuns (R ++ [(c + 1, x)])
  | [], c, _, _ => Nat.le_add_left 1 c
  | [_], c, _, h => ⟨h.1, h.2.1, Nat.le_add_left 1 c⟩
  | _ :: d :: r, _, _, h => ⟨h.1, h.2.1, good_last (R := d :: r) h.2.2⟩
theorem last_run {l : List Int} {y : Int} (h : l.getLast? = some y) : ∃ R0 c, runsL l = R0 ++ [(c, y)] := by
  have he := expR_runs l
  rcases List.eq_nil_or_concat (runsL l) with h0 | ⟨R0, ⟨c, z⟩, h1⟩
  · rw [h0] at he
    rw [← he] at h
    cases h
  · rw [List.concat_eq_append] at h1
    refine ⟨R0, c, ?_⟩
    have hc := runs_pos (goodRuns_runs l) (c, z) (by rw [h1]; simp)
    rw [h1, expR_append, expR_cons] at he
    have : l.getLast? = some z := by
      rw [← he]
      obtain ⟨k, rfl⟩ : ∃ k, c = k + 1 := ⟨c - 1, by simp only at hc; omega⟩
      rw [List.replicate_succ']
      simp [expR]
    rw [h] at this
    rw [h1, Option.some.inj this]
theorem snoc_new {l : List Int} {x : Int} (h : l.getLast? ≠ some x) : runsL (l ++ [x]) = runsL l ++ [(1, x)] := by
  have hg : goodRuns (runsL l ++ [(1, x)]) := good_snoc (goodRuns_runs l) (Nat.le_refl 1) fun b hb e => h (by
    rcases List.eq_nil_or_concat l with h0 | ⟨l0, y, h1⟩
    · subst h0; cases hb
    · rw [List.concat_eq_append] at h1
      have hl : l.getLast? = some y := by rw [h1]; simp
      obtain ⟨R0, c, hR⟩ := last_run hl
      rw [hR] at hb
      have : (c, y) = b := by simpa using hb
      rw [hl]
      exact congrArg some ((congrArg Prod.snd this).trans e))
  have := runs_expR hg
  rw [expR_append, expR_runs] at this
  simpa [expR] using this
theorem snoc_more {l : List Int} {x : Int} {R0 : List (Nat × Int)} {c : Nat} (h : runsL l = R0 ++ [(c, x)]) : runsL (l ++ [x]) = R0 ++ [(c + 1, x)] := by
  have hg : goodRuns (R0 ++ [(c + 1, x)]) := good_last (by rw [← h]; exact goodRuns_runs l)
  have he := expR_runs l
  rw [h, expR_append] at he
  have := runs_expR hg
  rw [expR_append] at this
  rw [← this]
  congr 1
  rw [← he, expR_cons, expR_cons, List.replicate_succ']
  simp [expR]
theorem cellsU_set (R0 : List (Nat × Int)) (c d : Nat) (x : Int) : (cellsU (R0 ++ [(c, x)])).set (R0.length * 2) (.int .i64 (d : Nat)) = cellsU (R0 ++ [(d, x)]) := by
  rw [cellsU_append, cellsU_append, List.set_append_right _ _ (by rw [cellsU_length]; exact Nat.le_refl _), cellsU_length, Nat.sub_self]
  rfl
theorem below_drewA (w : World) (q : Nat) : Below w.heap.size w (w.drewN q) := by
  induction q with
  | zero => exact Below.refl _ _
  | succ q ih => exact ih.drew
theorem run_ownR {W : World} {base k : Nat} {o : Option Addr} {c : Nat} {R : List (Nat × Int)} (x : Int) (ho : W.ownsRow base 49 2 (.slice o k c) k (cellsU R)) (hk : R.length = k) (hk2 : k ≤ 10000) (hbase : base ≤ W.heap.size) :
    ∃ g cap w6, (appSem #[36, 36] 36 #[.slice o k c, .slice (some ⟨W.heap.size, 0, none⟩) 1 1]).run Tryd.prog (W.alloc (.cells #[.int .i64 1, .int .i64 x] 49)) = .ok (.slice (some ⟨g, 0, none⟩) (k + 1) cap) w6 ∧
      w6.ownsRow base 49 2 (.slice (some ⟨g, 0, none⟩) (k + 1) cap) (k + 1) (cellsU (R ++ [(1, x)])) ∧ Below base W w6 := by
  have a1 : Below W.heap.size W (W.alloc (.cells #[.int .i64 1, .int .i64 x] 49)) := (Below.refl _ _).alloc (Nat.le_refl _) _
  obtain ⟨g, cap, w6, h1, h2, h3, h4⟩ := run_own (W := W.alloc (.cells #[.int .i64 1, .int .i64 x] 49)) (1, x) (own_below ho a1) (by omega) (Nat.le_trans hbase a1.size) (heap_alloc_new W _)
  refine ⟨g, cap, w6, h1, by rw [cellsU_append]; exact h2, ?_⟩
  exact Moves.below (a1.mono hbase) (Nat.le_trans hbase a1.size) (S := fun q => (Value.slice o k c).ownBlock = some q) ⟨h3.os, h3.tape, h3.output, h3.size, fun q hq hs => h3.block q hq fun e => hs e.symm⟩ (fun j hj => by obtain ⟨_, _, h⟩ := own_rowT ho hj; exact h)
set_option maxRecDepth 100000 in
set_option maxHeartbeats 4000000 in
theorem refRuns_any (o : Option Addr) (l : List Int) (cap : Nat) (hb : l.length ≤ 5000) (w : World) (hA : IntsT w o l) :
    Calls Tryd.prog 21 #[.slice o l.length cap] w fun e w' => ∃ so c, e = .returned (.slice so (runsL l).length c) ∧ Below w.heap.size w w' ∧ AtU w' so (runsL l) ∧ ∀ k, inB so k → w.heap.size ≤ k := by
  obtain ⟨P, hP⟩ : ∃ P, (fun (e : Ending) w' => ∃ so c, e = .returned (.slice so (runsL l).length c) ∧ Below w.heap.size w w' ∧ AtU w' so (runsL l) ∧ ∀ k, inB so k → w.heap.size ≤ k) = P := ⟨_, rfl⟩
  have HP := Lib.hid hP
  rw [hP]
  obtain ⟨n, hn⟩ : ∃ n, l.length = n := ⟨_, rfl⟩
  have HN := Lib.hid hn
  have HA := Lib.hid hA
  rw [hn] at hb ⊢
  clear hP hn hA
  go_enter Tryd.func21, Tryd.ntmps21
  go_wp2_with fail
  go_loopg [3, 4] n (fun k a v wr => ∃ (j m c : Nat) (so : Option Addr), a = .slice so m c ∧ v = .int .i64 (j : Nat) ∧ j ≤ n ∧ k = n - j ∧ m ≤ j ∧ Hid ((runsL (l.take j)).length = m ∧ wr.ownsRow w.heap.size 49 2 (.slice so m c) m (cellsU (runsL (l.take j))) ∧ Below w.heap.size w wr))
  case atStart => exact ⟨0, 0, 0, none, rfl, rfl, Nat.zero_le _, rfl, Nat.le_refl _, Lib.hid ⟨rfl, World.ownsRow_nil _ _ _ _, Below.refl _ _⟩⟩
  case round =>
    obtain ⟨j, m, c, so, rfl, rfl, hj, rfl, hmj, HI⟩ := hrel
    have hwj : IntKind.i64.wrap (((j : Nat) : Int) + 1) = (j : Nat) + 1 := wrap_id (by omega) (by omega)
    rcases Nat.lt_or_ge j n with hlt | hge
    · obtain ⟨x, hx⟩ : ∃ x, l[j]? = some x := ⟨_, List.getElem?_eq_getElem (by rw [HN.out]; exact hlt)⟩
      have htk : l.take (j + 1) = l.take j ++ [x] := by rw [List.take_add_one, hx]; rfl
      obtain ⟨g, off, rfl, hc⟩ := (HA.out.below HI.out.2.2) (by rw [HN.out]; omega)
      have k0 := hc j x hx
      have hg := World.block_lt_of_cell? _ _ k0
      have HTK := Lib.hid htk
      by_cases hl : (l.take j).getLast? = some x
      · obtain ⟨R0, d, hR⟩ := last_run hl
        obtain ⟨r0, hr0⟩ : ∃ r, R0.length = r := ⟨_, rfl⟩
        have hm : m = r0 + 1 := by rw [← HI.out.1, hR, List.length_append, hr0]; rfl
        have ho := HI.out.2.1
        rw [hR] at ho
        obtain ⟨g2, rfl⟩ : ∃ g2, so = some ⟨g2, 0, none⟩ := by
          rcases ho.2 with ⟨_, h0⟩ | ⟨g2, cap', cur, e, _⟩
          · omega
          · exact ⟨g2, by cases e; rfl⟩
        have hq : (cellsU (R0 ++ [(d, x)]))[r0 * 2]? = some (.int .i64 (d : Nat)) := (cellsU_get (l := R0 ++ [(d, x)]) (j := r0) (x := (d, x)) (by rw [← hr0]; simp)).1
        have hd : d ≤ j := by
          have h1 := expR_runs (l.take j)
          rw [hR, expR_append, expR_cons] at h1
          have := congrArg List.length h1
          simp [expR] at this
          omega
        have STEP : Hid (∀ W, Below wr.heap.size wr W → W.cell? ⟨g2, r0 * 2, none⟩ = some (.int .i64 (d : Nat)) ∧ W.frozen? ⟨g2, r0 * 2, none⟩ = false ∧ g2 < W.heap.size ∧ Hid ((runsL (l.take (j + 1))).length = m ∧ (W.setCell ⟨g2, r0 * 2, none⟩ (.int .i64 (d + 1 : Nat))).ownsRow w.heap.size 49 2 (.slice (some ⟨g2, 0, none⟩) m c) m (cellsU (runsL (l.take (j + 1)))) ∧ Below w.heap.size w (W.setCell ⟨g2, r0 * 2, none⟩ (.int .i64 (d + 1 : Nat))))) := Lib.hid fun W hW => by
          have hs := HI.out.2.2.trans (hW.mono HI.out.2.2.size)
          have ho' := own_below ho hW
          have hc2 := ho'.cellAt (r0 * 2) (by omega)
          rw [hq] at hc2
          have hst := (ho'.stored (r0 * 2) (.int .i64 (d + 1 : Nat))).1
          have e1 := cellsU_set R0 d (d + 1) x
          rw [hr0] at e1
          rw [e1, ← snoc_more hR, ← HTK.out] at hst
          refine ⟨hc2, ho'.frozenAt _, World.block_lt_of_cell? _ _ hc2, Lib.hid ⟨?_, hst, ?_⟩⟩
          · rw [HTK.out, snoc_more hR, List.length_append, hr0, hm]; rfl
          · obtain ⟨_, _, h3⟩ := own_rowT ho' (show (Value.slice (some ⟨g2, 0, none⟩) m c).ownBlock = some g2 from rfl)
            exact Moves.below hs hs.size (Moves.setCell (S := fun k => k = g2) rfl) (fun k hk => by subst hk; exact h3)
        have hpos : 0 < j := by
          rcases Nat.eq_zero_or_pos j with h | h
          · subst h; simp at hl
          · exact h
        obtain ⟨i, hij⟩ : ∃ i, j = i + 1 := ⟨j - 1, by omega⟩
        have k1 := hc i x (by
          have h1 : (l.take j).getLast? = some x := hl
          rw [hij, List.take_add_one, List.getElem?_eq_getElem (by rw [HN.out]; omega), Option.toList_some, List.getLast?_append, List.getLast?_singleton] at h1
          rw [List.getElem?_eq_getElem (by rw [HN.out]; omega)]
          exact h1)
        have hwi : IntKind.i64.wrap (((j : Nat) : Int) - 1) = ((i : Nat) : Int) := by rw [show ((j : Nat) : Int) - 1 = ((i : Nat) : Int) from by omega]; exact wrap_id (by omega) (by omega)
        have hwm : IntKind.i64.wrap (((m : Nat) : Int) - 1) = ((r0 : Nat) : Int) := by rw [show ((m : Nat) : Int) - 1 = ((r0 : Nat) : Int) from by omega]; exact wrap_id (by omega) (by omega)
        have hwd : IntKind.i64.wrap (((d : Nat) : Int) + 1) = ((d : Nat) : Int) + 1 := wrap_id (by omega) (by omega)
        have t0 : decide (0 < j) = true := decide_eq_true hpos
        have hin : i < n := by omega
        have hrm : r0 < m := by omega
        have hxx : (x == x) = true := by simp
        clear hij hc hx htk hl hR hr0 hm ho hq hd
        go_wp2_with fail
        go_quiet (fail)
        obtain ⟨W1, hW1⟩ : ∃ W1, wr.drewN nq = W1 := ⟨_, rfl⟩
        have B1 : Below wr.heap.size wr W1.drew := by rw [← hW1]; exact (below_drewA _ _).drew
        obtain ⟨m0, m1, m2, HS6⟩ := STEP.out W1.drew B1
        rw [hW1]
        clear hW1 B1 STEP t0 k0 k1 hg
        go_wp2_with fail
        go_still_tail 10, (by kernel_rfl)
        change wpList _ _ _ _ _ W1.drew
        go_wp2
        go_roundg (n - (j + 1))
        case measure => omega
        case rel => exact ⟨j + 1, m, c, _, rfl, by simp, by omega, rfl, by omega, HS6⟩
      · have HR2 := Lib.hid (snoc_new hl)
        have STEP : Hid (∀ W, Below wr.heap.size wr W → ∃ g' cap' w6, (appSem #[36, 36] 36 #[.slice so m c, .slice (some ⟨W.heap.size, 0, none⟩) 1 1]).run Tryd.prog (W.alloc (.cells #[.int .i64 1, .int .i64 x] 49)) = .ok (.slice (some ⟨g', 0, none⟩) (m + 1) cap') w6 ∧ Hid ((runsL (l.take (j + 1))).length = m + 1 ∧ w6.ownsRow w.heap.size 49 2 (.slice (some ⟨g', 0, none⟩) (m + 1) cap') (m + 1) (cellsU (runsL (l.take (j + 1)))) ∧ Below w.heap.size w w6)) := Lib.hid fun W hW => by
          have hs := HI.out.2.2.trans (hW.mono HI.out.2.2.size)
          obtain ⟨g', cap', w6, h1, h2, h3⟩ := run_ownR (W := W) (k := m) x (own_below HI.out.2.1 hW) HI.out.1 (by omega) hs.size
          exact ⟨g', cap', w6, h1, Lib.hid ⟨by rw [HTK.out, HR2.out, List.length_append, HI.out.1]; rfl, by rw [HTK.out, HR2.out]; exact h2, hs.trans h3⟩⟩
        rcases Nat.eq_zero_or_pos j with hz | hpos
        focus
          have t0 : decide (0 < j) = false := decide_eq_false (by omega)
          clear hz hc hx htk hl HR2
          go_wp2_with fail
          go_quiet (fail)
        rotate_left 1
        focus
          obtain ⟨i, hij⟩ : ∃ i, j = i + 1 := ⟨j - 1, by omega⟩
          obtain ⟨y, hy⟩ : ∃ x, l[i]? = some x := ⟨_, List.getElem?_eq_getElem (by rw [HN.out]; omega)⟩
          have k1 := hc i y hy
          have hxy : (x == y) = false := by
            have h1 : (l.take j).getLast? = some y := by rw [hij, List.take_add_one, hy]; simp
            rw [h1] at hl
            simpa using fun e : x = y => hl (by rw [e])
          have hwi : IntKind.i64.wrap (((j : Nat) : Int) - 1) = ((i : Nat) : Int) := by rw [show ((j : Nat) : Int) - 1 = ((i : Nat) : Int) from by omega]; exact wrap_id (by omega) (by omega)
          have t0 : decide (0 < j) = true := decide_eq_true hpos
          have hin : i < n := by omega
          clear hij hc hx htk hl HR2 hy
          go_wp2_with fail
          go_quiet (fail)
          clear k1 hxy hwi hin hpos
        all_goals
          obtain ⟨W1, hW1⟩ : ∃ W1, wr.drewN nq = W1 := ⟨_, rfl⟩
          have B1 : Below wr.heap.size wr W1 := by rw [← hW1]; exact below_drewA _ _
          have k0 := cell_keepT B1 k0
          have hg := World.block_lt_of_cell? _ _ k0
          obtain ⟨g', cap', w6, hrun, HS6⟩ := STEP.out W1 B1
          rw [hW1]
          clear hW1 B1 STEP t0
          go_wp2
          go_roundg (n - (j + 1))
          case measure => omega
          case rel => exact ⟨j + 1, m + 1, cap', _, rfl, by simp, by omega, rfl, by omega, HS6⟩
    · obtain rfl : j = n := by omega
      have hI := HI.out
      rw [List.take_of_length_le (by rw [HN.out]; exact Nat.le_refl _)] at hI
      have HPP : Hid (P (.returned (.slice so m c)) wr) := by
        rw [← HP.out]
        refine Lib.hid ⟨so, c, by rw [hI.1], hI.2.2, ?_, fun k hk => ?_⟩
        · have := hI.2.1
          rw [← hI.1] at this
          exact atU_own this
        · obtain ⟨a, rfl, rfl⟩ := hk
          obtain ⟨_, _, h3⟩ := own_rowT hI.2.1 (show (Value.slice (some a) m c).ownBlock = some a.block from rfl)
          exact h3
      clear hI HI
      go_wp2
      exact HPP.out
end Go.Proofs.YtcnbcaljpgdcpaaDoor
