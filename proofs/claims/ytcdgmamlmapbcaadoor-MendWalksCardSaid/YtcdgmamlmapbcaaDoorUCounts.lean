/- MendCounts: as many units as scalars, none of more than four bytes. -/
import Derived.Test.YtcdgmamlmapbcaaDoorBunUMet
import Derived.Deep.LoopGhost
import Derived.BigQuiet
import Derived.Deep.QuietTactic
namespace Go.Proofs.YtcdgmamlmapbcaaDoor
open Go.RowKit

/-- The n-th place. -/
theorem place_last (l : List UInt8) : (placesL l).getD ((placesL l).length - 1) 0 = l.length := by
  unfold placesL
  simp [List.getD]
theorem place_first (l : List UInt8) : (placesL l).getD 0 0 = 0 := by
  unfold placesL
  by_cases h : l = []
  · subst h; rw [uevs_nil]; simp [List.getD]
  · rw [uevs_cons 0 h]; simp [List.getD]
theorem places_length (l : List UInt8) : (placesL l).length = (uevs 0 l).length + 1 := by unfold placesL; simp
/-- One place behind another. -/
theorem places_next (p : Nat) (l : List UInt8) : ∀ i, i < (uevs p l).length → ∃ x ∈ uevs p l, ((uevs p l).map (·.1) ++ [p + l.length]).getD i 0 = x.1 ∧ ((uevs p l).map (·.1) ++ [p + l.length]).getD (i + 1) 0 = x.1 + x.2.1 := by
  refine units_ind (M := fun p l => ∀ i, i < (uevs p l).length → ∃ x ∈ uevs p l, ((uevs p l).map (·.1) ++ [p + l.length]).getD i 0 = x.1 ∧ ((uevs p l).map (·.1) ++ [p + l.length]).getD (i + 1) 0 = x.1 + x.2.1) ?_ ?_ p l
  · intro p i hi; rw [uevs_nil] at hi; simp at hi
  · intro p l h ih i hi
    have hl := unitL_le l h
    have e : (uevs (p + (unitL l).1) (l.drop (unitL l).1)).map (·.1) ++ [p + (unitL l).1 + (l.drop (unitL l).1).length] = (uevs (p + (unitL l).1) (l.drop (unitL l).1)).map (·.1) ++ [p + l.length] := by
      rw [List.length_drop]; congr 2; omega
    rw [uevs_cons p h] at hi ⊢
    cases i with
    | zero =>
      refine ⟨_, List.mem_cons_self, by simp [List.getD], ?_⟩
      rw [List.map_cons, List.cons_append, List.getD_cons_succ]
      by_cases h2 : l.drop (unitL l).1 = []
      · rw [h2, uevs_nil]
        have := congrArg List.length h2
        rw [List.length_drop] at this
        simp [List.getD] at *
        omega
      · rw [uevs_cons _ h2]; simp [List.getD]
    | succ i =>
      obtain ⟨x, hx, h1, h2⟩ := ih i (by simpa using hi)
      rw [e] at h1 h2
      exact ⟨x, List.mem_cons_of_mem _ hx, by rw [List.map_cons, List.cons_append, List.getD_cons_succ]; exact h1, by rw [List.map_cons, List.cons_append, List.getD_cons_succ]; exact h2⟩
theorem place_step (l : List UInt8) {i : Nat} (hi : i < (uevs 0 l).length) : (placesL l).getD i 0 < (placesL l).getD (i + 1) 0 ∧ (placesL l).getD (i + 1) 0 ≤ (placesL l).getD i 0 + 4 ∧ (placesL l).getD (i + 1) 0 ≤ l.length := by
  obtain ⟨x, hx, h1, h2⟩ := places_next 0 l i hi
  rw [Nat.zero_add] at h1 h2
  have hm := uevs_mem 0 l x hx
  unfold placesL
  rw [h1, h2]
  omega

set_option maxRecDepth 100000 in
set_option maxHeartbeats 2000000 in
theorem counts_any (s : ByteArray) (w : World) (aU aS aP : Addr) (hG : Glob w aU aS) (hP : Place w aP) :
    Calls Tryd.prog 8 #[.string s] w fun e w' => e = .returned (.bool true) ∧ Below w.heap.size w w' := by
  have hz : (cutS s).size ≤ 300 := cutS_size s
  have hl : (cutS s).data.toList.length = (cutS s).size := Array.length_toList
  have hzt := repS_size (cutS s)
  have HVT := Lib.hid (repS_is (cutS s))
  have hsc : (scL (repS (cutS s)).data.toList).length = (uevs 0 (cutS s).data.toList).length := scL_rep _
  have hpl := places_length (cutS s).data.toList
  have hul := uevs_length 0 (cutS s).data.toList
  have hfirst := place_first (cutS s).data.toList
  have hlast := place_last (cutS s).data.toList
  have HSTEP : Hid (∀ i, i < (uevs 0 (cutS s).data.toList).length → _) := Lib.hid fun i hi => place_step (cutS s).data.toList hi
  rw [hl] at hlast
  obtain ⟨k, hk⟩ : ∃ k, (uevs 0 (cutS s).data.toList).length = k := ⟨_, rfl⟩
  rw [hk] at hsc hpl hul HSTEP
  rw [hl] at hul
  obtain ⟨sc, hscv⟩ : ∃ sc, scL (repS (cutS s)).data.toList = sc := ⟨_, rfl⟩
  obtain ⟨pl, hplv⟩ : ∃ pl, placesL (cutS s).data.toList = pl := ⟨_, rfl⟩
  rw [hscv] at hsc
  rw [hplv] at hpl hfirst hlast
  have HPLV := Lib.hid hplv
  have HSCV := Lib.hid hscv
  have HL := Lib.hid hl
  rw [hplv] at HSTEP
  obtain ⟨T, hT⟩ : ∃ T, repS (cutS s) = T := ⟨_, rfl⟩
  have HT := Lib.hid hT
  rw [hT] at HVT hzt HSCV
  clear hk hscv hplv hl hT
  go_enter Tryd.func8, Tryd.ntmps8
  go_wp2_with fail
  refine (shown2_any w aU aS aP hG hP).mono ?_
  rintro e w1 ⟨rfl, b1⟩
  have g1 := hG.below b1
  go_wp2_with fail
  refine (cut2_any s w1).mono ?_
  rintro e w2 ⟨rfl, rfl⟩
  go_wp2_with fail
  refine (units_list (cutS s) (by omega) w1 aU aS g1).mono ?_
  rintro e w2 ⟨a, rfl, ha, c2⟩
  have b2 := b1.trans (c2.mono b1.size)
  have g2 := hG.below b2
  rw [HPLV.out] at ha ⊢
  rw [hpl]
  have HA := Lib.hid ha
  clear ha
  go_wp2_with fail
  refine (repair_s (cutS s) (by omega) w2 aU aS g2).mono ?_
  rintro e w3 ⟨rfl, c3⟩
  have b3 := b2.trans (c3.mono b2.size)
  have g3 := hG.below b3
  rw [HT.out]
  go_wp2_with fail
  refine (scalars_f_any T (by omega) w3 aU aS g3).mono ?_
  rintro e w4 ⟨v, rfl, ho, c4⟩
  have b4 := b3.trans (c4.mono b3.size)
  have g4 := hG.below b4
  obtain ⟨ia, po, pc, rfl⟩ := ints_own ho
  clear ho ia
  rw [HVT.out, HSCV.out, hsc]
  simp only [if_true]
  have cells : ∀ i, i < pl.length → ∀ W, Below w2.heap.size w2 W → W.cell? (a.add i) = some (.int .i64 (pl.getD i 0 : Nat)) := fun i hi W hW => (hW.cell (World.block_lt_of_cell? w2 _ (HA.out i hi))).trans (HA.out i hi)
  have CELLS := Lib.hid cells
  have c24 := c3.trans (c4.mono c3.size)
  have k0 : w4.cell? a = some (.int .i64 0) := by
    have h := cells 0 (by omega) w4 c24
    have e : a.add 0 = a := by unfold Addr.add; split <;> simp_all
    rw [e, hfirst] at h
    exact h
  have kl : w4.cell? (a.add k) = some (.int .i64 (((cutS s).size : Nat) : Int)) := by
    have h := cells (pl.length - 1) (by omega) w4 c24
    rw [hlast] at h
    rw [hpl] at h
    exact h
  clear cells hfirst hlast
  go_wp2_with fail
  go_loopg [7] (k) (fun m i wr => ∃ (j : Nat), i = .int .i64 (j : Nat) ∧ j ≤ k ∧ m = k - j ∧ Below w4.heap.size w4 wr)
  case atStart => exact ⟨0, rfl, Nat.zero_le _, rfl, Below.refl _ _⟩
  case round =>
    obtain ⟨j, rfl, hj, rfl, hb⟩ := hrel
    rcases Nat.lt_or_ge j k with hlt | hge
    · have cB := CELLS.out j (by omega) wr (c24.trans (hb.mono c24.size))
      have cA := CELLS.out (j + 1) (by omega) wr (c24.trans (hb.mono c24.size))
      obtain ⟨s1, s2, s3⟩ := HSTEP.out j hlt
      rw [HL.out] at s3
      obtain ⟨A, hA⟩ : ∃ A, pl.getD (j + 1) 0 = A := ⟨_, rfl⟩
      obtain ⟨B, hB⟩ : ∃ B, pl.getD j 0 = B := ⟨_, rfl⟩
      rw [hA] at cA s1 s2 s3
      rw [hB] at cB s1 s2
      have q1 : decide (A ≤ B) = false := decide_eq_false (by omega)
      have q2 : ¬ ((B : Nat) : Int) + 4 < ((A : Nat) : Int) := by omega
      have q3 : ¬ A ≤ B := by omega
      have q4 : ¬ ((A : Nat) : Int) ≤ ((B : Nat) : Int) := by omega
      have q5 : decide (((B : Nat) : Int) + 4 < ((A : Nat) : Int)) = false := decide_eq_false (by omega)
      have q6 : IntKind.i64.wrap (((B : Nat) : Int) + 4) = (B : Nat) + 4 := wrap_id (by omega) (by omega)
      have cA2 : wr.cell? { block := a.block, off := a.off + (j + 1) } = some (.int .i64 ((A : Nat) : Int)) := by
        have h := cA
        unfold Addr.add at h
        rwa [if_neg (by omega)] at h
      have hwj : IntKind.i64.wrap (((j : Nat) : Int) + 1) = (j : Nat) + 1 := wrap_id (by omega) (by omega)
      clear hA hB s1 s2
      go_wp2
      go_region
      all_goals
        go_wp2
        go_roundg (k - (j + 1))
        case measure => omega
        case rel => exact ⟨j + 1, by simp, by omega, rfl, hb.drew⟩
    · have hd : j = k := by omega
      subst hd
      go_wp2
      go_ret
      exact ⟨rfl, b4.trans (hb.mono b4.size)⟩
end Go.Proofs.YtcdgmamlmapbcaaDoor
