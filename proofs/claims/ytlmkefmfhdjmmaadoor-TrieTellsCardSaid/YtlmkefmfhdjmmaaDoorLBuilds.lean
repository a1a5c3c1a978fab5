/- TrieBuilds: maps' tries, as the document has them. -/
import Derived.Test.YtlmkefmfhdjmmaaDoorBunA13
import Derived.Test.YtlmkefmfhdjmmaaDoorZTRefBuild
import Derived.Test.YtlmkefmfhdjmmaaDoorZTRefSame
import Derived.Test.YtlmkefmfhdjmmaaDoorZTRefValue
import Derived.BigQuiet
namespace Go.Proofs.YtlmkefmfhdjmmaaDoor
open Go.RowKit Go.Shelf Go.Maps
attribute [local go_sem] Oper.semAt_some

theorem buildR_le (A : List Rng) : ∃ T c, buildR A = (T, c) ∧ T.1.length ≤ 1000000 ∧ T.2.length ≤ 1000000 ∧ ∀ b ∈ T.2, b.length ≤ 1000000 := by
  rcases buildR_of A with ⟨_, h⟩ | ⟨_, T, _, h, _, h1, h2, h3⟩
  · exact ⟨_, _, h, by simp, by simp, fun b hb => by simp at hb⟩
  · exact ⟨T, 0, h, by omega, h2, h3⟩
/-- Two tries in cells, for the walk. -/
def PairW (wS : World) (B1 B2 : Nat) (v0 v1 u0 u1 : Value) (W : World) : Prop :=
  Below wS.heap.size wS W ∧ W.cell? ⟨B1, 0, none⟩ = some v0 ∧ W.cell? ⟨B1, 1, none⟩ = some v1 ∧ W.cell? ⟨B2, 0, none⟩ = some u0 ∧ W.cell? ⟨B2, 1, none⟩ = some u1 ∧ B1 < W.heap.size ∧ B2 < W.heap.size
theorem PairW.below {wS : World} {B1 B2 : Nat} {v0 v1 u0 u1 : Value} {W W' : World} (h : PairW wS B1 B2 v0 v1 u0 u1 W) (hb : Below W.heap.size W W') : PairW wS B1 B2 v0 v1 u0 u1 W' := by
  obtain ⟨h0, h1, h2, h3, h4, h5, h6⟩ := h
  have := hb.size
  exact ⟨h0.trans (hb.mono h0.size), cell_keepT hb h1, cell_keepT hb h2, cell_keepT hb h3, cell_keepT hb h4, by omega, by omega⟩
set_option maxRecDepth 100000 in
set_option maxHeartbeats 16000000 in
theorem builds_anyL (o : Option Addr) (l : List Rng) (cap : Nat) (r : Int) (hc : l.length ≤ cap) (w : World) (hA : AtR w o l) {aU aS : Addr} (hG : Glob w aU aS) :
    Calls Tryd.prog 3 #[.slice o l.length cap, .int .i64 r] w fun e w' => e = .returned (.bool true) ∧ Below w.heap.size w w' := by
  have HS := Lib.hid (shownT_any w hG)
  have F1 := Lib.hid (few20_any o l cap hc)
  have HA := Lib.hid (hA.take 20)
  have la : (l.take 20).length ≤ 20 ∧ (l.take 20).length ≤ cap := by rw [List.length_take]; omega
  obtain ⟨na, hna⟩ : ∃ n, l.length = n := ⟨_, rfl⟩
  rw [hna] at F1 ⊢
  obtain ⟨A, hAA⟩ : ∃ A, l.take 20 = A := ⟨_, rfl⟩
  rw [hAA] at F1 HA la
  have HG := Lib.hid hG
  obtain ⟨T, c, hR, hT1, hT2, hT3⟩ := buildR_le A
  have CA := Lib.hid (fun W (bb : Below w.heap.size w W) => Build_any o A cap (by omega) la.2 W (HG.out.below bb) (HA.out.below bb))
  have CB := Lib.hid (fun W (bb : Below w.heap.size w W) => refBuild_any o A cap (by omega) W (HA.out.below bb))
  rw [hR] at CA CB
  obtain ⟨P, hP⟩ : ∃ P, (fun (e : Ending) w' => e = .returned (.bool true) ∧ Below w.heap.size w w') = P := ⟨_, rfl⟩
  have HP := Lib.hid hP
  rw [hP]
  obtain ⟨ka, hka⟩ : ∃ n, A.length = n := ⟨_, rfl⟩
  rw [hka] at CA CB F1
  clear hA hc hna hAA hG hP la hka hR
  go_enter Tryd.func3, Tryd.ntmps3
  go_wp2_with fail
  refine HS.out.mono ?_
  rintro e w1 ⟨rfl, b1⟩
  have B1 := Lib.hid b1
  clear b1 HS
  go_wp2_with fail
  refine (F1.out w1).mono ?_
  rintro e w1' ⟨rfl, rfl⟩
  have CA1 := Lib.hid (CA.out w1 B1.out)
  clear F1 CA
  go_wp2_with fail
  refine CA1.out.mono ?_
  rintro e w2 h
  obtain ⟨io, bo, rfl, b2, ht⟩ := trie_box h
  obtain ⟨n1, h1⟩ : ∃ n, T.1.length = n := ⟨_, rfl⟩
  obtain ⟨n2, h2⟩ : ∃ n, T.2.length = n := ⟨_, rfl⟩
  simp only [h1, h2]
  have B2 := B1.out.trans (b2.mono B1.out.size)
  obtain ⟨w3, hw3⟩ : ∃ w3, w2.alloc (trieO io n1 n1 bo n2 n2) = w3 := ⟨_, rfl⟩
  obtain ⟨b3, u0, u1, u2⟩ := box_at hw3
  have B3 := Lib.hid (B2.trans (b3.mono B2.size))
  have HT3 := Lib.hid (ht.below b3)
  have HW3 := Lib.hid hw3
  have CB1 := Lib.hid (CB.out w3 B3.out)
  clear h b2 hw3 ht b3 B2 CB CA1
  go_wp2_with fail
  rw [HW3.out]
  refine CB1.out.mono ?_
  rintro e w4 ⟨jo, jc, co, cc, rfl, b4, ht4⟩
  simp only [h1, h2]
  obtain ⟨w5, hw5⟩ : ∃ w5, w4.alloc (trieO jo n1 jc co n2 cc) = w5 := ⟨_, rfl⟩
  have r5 : w5.heap[w4.heap.size]? = some (trieO jo n1 jc co n2 cc) := by rw [← hw5]; exact heap_alloc_new _ _
  have b5 : Below w4.heap.size w4 w5 := by rw [← hw5]; exact (Below.refl _ _).alloc (Nat.le_refl _) _
  obtain ⟨v0, v1, _, _, v2⟩ := trie_cells r5
  have D5 := b4.trans (b5.mono b4.size)
  have B5 := Lib.hid (B3.out.trans (D5.mono B3.out.size))
  have s0 := cell_keepT D5 u0
  have s1 := cell_keepT D5 u1
  have s2 := World.block_lt_of_cell? _ _ s0
  have HT5 := Lib.hid (HT3.out.below D5)
  have HU5 := Lib.hid (ht4.below b5)
  obtain ⟨v, hv⟩ : ∃ v, valueT T r = v := ⟨_, rfl⟩
  obtain ⟨Q, hQ⟩ : ∃ Q, PairW w5 w2.heap.size w4.heap.size (.slice io n1 n1) (.slice bo n2 n2) (.slice jo n1 jc) (.slice co n2 cc) = Q := ⟨_, rfl⟩
  have H1 : Hid (∀ W, PairW w5 w2.heap.size w4.heap.size (.slice io n1 n1) (.slice bo n2 n2) (.slice jo n1 jc) (.slice co n2 cc) W → Calls Tryd.prog 13 #[trieV io n1 n1 bo n2 n2, trieV jo n1 jc co n2 cc] W fun e W' => e = .returned (.bool true) ∧ PairW w5 w2.heap.size w4.heap.size (.slice io n1 n1) (.slice bo n2 n2) (.slice jo n1 jc) (.slice co n2 cc) W') := Lib.hid fun W hW => by
    have := refSameT_any io bo jo co T T n1 n2 jc cc hT1 hT2 hT3 W (HT5.out.below hW.1) (HU5.out.below hW.1)
    rw [h1, h2, decide_eq_true rfl] at this
    exact this.mono fun e W' h => ⟨h.1, hW.below h.2⟩
  have H2 : Hid (∀ W, PairW w5 w2.heap.size w4.heap.size (.slice io n1 n1) (.slice bo n2 n2) (.slice jo n1 jc) (.slice co n2 cc) W → Calls Tryd.prog 14 #[trieV io n1 n1 bo n2 n2, .int .i64 r] W fun e W' => e = .returned (.int .i64 v) ∧ PairW w5 w2.heap.size w4.heap.size (.slice io n1 n1) (.slice bo n2 n2) (.slice jo n1 jc) (.slice co n2 cc) W') := Lib.hid fun W hW => by
    have := value_any io bo T n1 n2 r hT1 hT2 hT3 W (HT5.out.below hW.1)
    rw [h1, h2, hv] at this
    exact this.mono fun e W' h => ⟨h.1, hW.below h.2⟩
  have H3 : Hid (∀ W, PairW w5 w2.heap.size w4.heap.size (.slice io n1 n1) (.slice bo n2 n2) (.slice jo n1 jc) (.slice co n2 cc) W → Calls Tryd.prog 15 #[trieV jo n1 jc co n2 cc, .int .i64 r] W fun e W' => e = .returned (.int .i64 v) ∧ PairW w5 w2.heap.size w4.heap.size (.slice io n1 n1) (.slice bo n2 n2) (.slice jo n1 jc) (.slice co n2 cc) W') := Lib.hid fun W hW => by
    have := refValueT_any jo co T jc cc r hT1 hT2 W (HU5.out.below hW.1)
    rw [h1, h2, hv] at this
    exact this.mono fun e W' h => ⟨h.1, hW.below h.2⟩
  have HQ5 : PairW w5 w2.heap.size w4.heap.size (.slice io n1 n1) (.slice bo n2 n2) (.slice jo n1 jc) (.slice co n2 cc) w5 := ⟨Below.refl _ _, s0, s1, v0, v1, s2, v2⟩
  have HD : Hid (PairW w5 w2.heap.size w4.heap.size (.slice io n1 n1) (.slice bo n2 n2) (.slice jo n1 jc) (.slice co n2 cc) w5.drew) := Lib.hid (HQ5.below (Below.refl _ _).drew)
  have HPQ : Hid (∀ W, PairW w5 w2.heap.size w4.heap.size (.slice io n1 n1) (.slice bo n2 n2) (.slice jo n1 jc) (.slice co n2 cc) W → P (.returned (.bool true)) W) := by
    rw [← HP.out]
    exact Lib.hid fun W h => ⟨rfl, B5.out.trans (h.1.mono B5.out.size)⟩
  have hvv : (v == v) = true := by simp
  have hcc : (c == c) = true := by simp
  have hfol : Tryd.prog.follows .mixedOrders = true := by kernel_rfl
  have HW5 := Lib.hid hw5
  clear hw5 r5 b5 D5 b4 ht4 hQ HQ5 hv h1 h2 hT1 hT2 hT3 CB1 u0 u1 u2
  go_wp2_with fail
  rw [HW5.out]
  refine wp_region_any (by kernel_rfl) ?_
  try (change wpAny _ _ _ _ _ _ _ (World.drew _))
  refine wpAny_take (i := 0) (v := ?_) rfl (by kernel_rfl) (by kernel_rfl) (by kernel_rfl) (fun _ _ _ h => h) (Or.inl ⟨by kernel_rfl, ?_⟩) ?_
  rotate_left 1
  · (intro w; first | (go_simp; done) | (go_simp; with_reducible rfl))
  change wpAny _ _ _ _ _ _ (Act.put _ (some 23) _) _
  refine wpAny_take (i := 1) (v := ?_) rfl (by kernel_rfl) (by kernel_rfl) (by kernel_rfl) (fun _ _ _ h => h) (Or.inl ⟨by kernel_rfl, ?_⟩) ?_
  rotate_left 1
  · (intro w; first | (go_simp; done) | (go_simp; with_reducible rfl))
  change wpAny _ _ _ _ _ _ (Act.put _ (some 24) _) _
  refine wpAny_ready (rs := [2, 3]) (by kernel_rfl) (by simp) ?_
  refine AllReady.cons rfl (fun K hK => ?_) ?_
  focus
    go_simp
    refine hK _ _ ?_
    clear hK K
    refine wpAny_ready (rs := [3]) (by kernel_rfl) (by simp) ?_
    refine AllReady.cons rfl (fun K hK => ?_) AllReady.nil
    go_simp
    refine hK _ _ ?_
    clear hK K
    refine wpAny_ready (rs := [4]) (by kernel_rfl) (by simp) ?_
    refine AllReady.cons rfl (fun K hK => ?_) AllReady.nil
    go_simp
    go_wp2_with (go_at_call 13; refine (H1.out _ (by first | exact HD.out | exact hg)).mono ?_; rintro e w' ⟨rfl, hg⟩; have hgg := hg; obtain ⟨_, g0, g1, g2, g3, g4, g5⟩ := hgg)
    refine wpAny_take (i := 5) (v := ?_) rfl (by kernel_rfl) (by kernel_rfl) (by kernel_rfl) (fun _ _ _ h => h) (Or.inl ⟨by kernel_rfl, ?_⟩) ?_
    rotate_left 1
    · (intro w; first | (go_simp; done) | (go_simp; with_reducible rfl))
    change wpAny _ _ _ _ _ _ (Act.put _ (some 28) _) _
    refine wpAny_take (i := 6) (v := ?_) rfl (by kernel_rfl) (by kernel_rfl) (by kernel_rfl) (fun _ _ _ h => h) (Or.inl ⟨by kernel_rfl, ?_⟩) ?_
    rotate_left 1
    · (intro w; first | (go_simp; done) | (go_simp; with_reducible rfl))
    change wpAny _ _ _ _ _ _ (Act.put _ (some 29) _) _
    refine wpAny_take (i := 7) (v := ?_) rfl (by kernel_rfl) (by kernel_rfl) (by kernel_rfl) (fun _ _ _ h => h) (Or.inl ⟨by kernel_rfl, ?_⟩) ?_
    rotate_left 1
    · (intro w; first | (go_simp; done) | (go_simp; with_reducible rfl))
    change wpAny _ _ _ _ _ _ (Act.put _ (some 30) _) _
    refine wpAny_take (i := 8) (v := ?_) rfl (by kernel_rfl) (by kernel_rfl) (by kernel_rfl) (fun _ _ _ h => h) (Or.inl ⟨by kernel_rfl, ?_⟩) ?_
    rotate_left 1
    · (intro w; first | (go_simp; done) | (go_simp; with_reducible rfl))
    change wpAny _ _ _ _ _ _ (Act.put _ (some 31) _) _
    refine wpAny_take (i := 9) (v := ?_) rfl (by kernel_rfl) (by kernel_rfl) (by kernel_rfl) (fun _ _ _ h => h) (Or.inl ⟨by kernel_rfl, ?_⟩) ?_
    rotate_left 1
    · (intro w; first | (go_simp; done) | (go_simp; with_reducible rfl))
    change wpAny _ _ _ _ _ _ (Act.put _ (some 32) _) _
    refine wpAny_take (i := 10) (v := ?_) rfl (by kernel_rfl) (by kernel_rfl) (by kernel_rfl) (fun _ _ _ h => h) (Or.inl ⟨by kernel_rfl, ?_⟩) ?_
    rotate_left 1
    · (intro w; first | (go_simp; done) | (go_simp; with_reducible rfl))
    change wpAny _ _ _ _ _ _ (Act.put _ (some 33) _) _
    refine wpAny_take (i := 11) (v := ?_) rfl (by kernel_rfl) (by kernel_rfl) (by kernel_rfl) (fun _ _ _ h => h) (Or.inl ⟨by kernel_rfl, ?_⟩) ?_
    rotate_left 1
    · (intro w; first | (go_simp; done) | (go_simp; with_reducible rfl))
    change wpAny _ _ _ _ _ _ (Act.put _ (some 34) _) _
    refine wpAny_take (i := 13) (v := ?_) rfl (by kernel_rfl) (by kernel_rfl) (by kernel_rfl) (fun _ _ _ h => h) (Or.inl ⟨by kernel_rfl, ?_⟩) ?_
    rotate_left 1
    · (intro w; first | (go_simp; done) | (go_simp; with_reducible rfl))
    change wpAny _ _ _ _ _ _ (Act.put _ (some 36) _) _
    refine wpAny_take (i := 16) (v := ?_) rfl (by kernel_rfl) (by kernel_rfl) (by kernel_rfl) (fun _ _ _ h => h) (Or.inl ⟨by kernel_rfl, ?_⟩) ?_
    rotate_left 1
    · (intro w; first | (go_simp; done) | (go_simp; with_reducible rfl))
    change wpAny _ _ _ _ _ _ (Act.put _ (some 39) _) _
    refine wpAny_ready (rs := [12, 15]) (by kernel_rfl) (by simp) ?_
    refine AllReady.cons rfl (fun K hK => ?_) ?_
    focus
      go_simp
      refine hK _ _ ?_
      clear hK K
      refine wpAny_ready (rs := [14, 15]) (by kernel_rfl) (by simp) ?_
      refine AllReady.cons rfl (fun K hK => ?_) ?_
      focus
        go_simp
        go_wp2_with (go_at_call 14; refine (H2.out _ (by first | exact HD.out | exact hg)).mono ?_; rintro e w' ⟨rfl, hg⟩; have hgg := hg; obtain ⟨_, g0, g1, g2, g3, g4, g5⟩ := hgg)
        refine wpAny_ready (rs := [15]) (by kernel_rfl) (by simp) ?_
        refine AllReady.cons rfl (fun K hK => ?_) AllReady.nil
        go_simp
        refine hK _ _ ?_
        clear hK K
        refine wpAny_ready (rs := [17]) (by kernel_rfl) (by simp) ?_
        refine AllReady.cons rfl (fun K hK => ?_) AllReady.nil
        go_simp
        go_wp2_with (go_at_call 15; refine (H3.out _ (by first | exact HD.out | exact hg)).mono ?_; rintro e w' ⟨rfl, hg⟩; have hgg := hg; obtain ⟨_, g0, g1, g2, g3, g4, g5⟩ := hgg)
        refine wpAny_take (i := 18) (v := ?_) rfl (by kernel_rfl) (by kernel_rfl) (by kernel_rfl) (fun _ _ _ h => h) (Or.inl ⟨by kernel_rfl, ?_⟩) ?_
        rotate_left 1
        · (intro w; first | (go_simp; done) | (go_simp; with_reducible rfl))
        change wpAny _ _ _ _ _ _ (Act.put _ (some 41) _) _
        refine wpAny_take (i := 19) (v := ?_) rfl (by kernel_rfl) (by kernel_rfl) (by kernel_rfl) (fun _ _ _ h => h) (Or.inl ⟨by kernel_rfl, ?_⟩) ?_
        rotate_left 1
        · (intro w; first | (go_simp; done) | (go_simp; with_reducible rfl))
        change wpAny _ _ _ _ _ _ (Act.put _ (some 42) _) _
        refine wpAny_take (i := 20) (v := ?_) rfl (by kernel_rfl) (by kernel_rfl) (by kernel_rfl) (fun _ _ _ h => h) (Or.inl ⟨by kernel_rfl, ?_⟩) ?_
        rotate_left 1
        · (intro w; first | (go_simp; done) | (go_simp; with_reducible rfl))
        change wpAny _ _ _ _ _ _ (Act.put _ (some 4) _) _
        refine wpAny_done (by kernel_rfl) ?_ _
        go_simp
        go_wp2
        exact HPQ.out _ hg
      refine AllReady.cons rfl (fun K hK => ?_) AllReady.nil
      go_simp
      refine hK _ _ ?_
      clear hK K
      refine wpAny_ready (rs := [14]) (by kernel_rfl) (by simp) ?_
      refine AllReady.cons rfl (fun K hK => ?_) AllReady.nil
      go_simp
      go_wp2_with (go_at_call 14; refine (H2.out _ (by first | exact HD.out | exact hg)).mono ?_; rintro e w' ⟨rfl, hg⟩; have hgg := hg; obtain ⟨_, g0, g1, g2, g3, g4, g5⟩ := hgg)
      refine wpAny_ready (rs := [17]) (by kernel_rfl) (by simp) ?_
      refine AllReady.cons rfl (fun K hK => ?_) AllReady.nil
      go_simp
      go_wp2_with (go_at_call 15; refine (H3.out _ (by first | exact HD.out | exact hg)).mono ?_; rintro e w' ⟨rfl, hg⟩; have hgg := hg; obtain ⟨_, g0, g1, g2, g3, g4, g5⟩ := hgg)
      refine wpAny_take (i := 18) (v := ?_) rfl (by kernel_rfl) (by kernel_rfl) (by kernel_rfl) (fun _ _ _ h => h) (Or.inl ⟨by kernel_rfl, ?_⟩) ?_
      rotate_left 1
      · (intro w; first | (go_simp; done) | (go_simp; with_reducible rfl))
      change wpAny _ _ _ _ _ _ (Act.put _ (some 41) _) _
      refine wpAny_take (i := 19) (v := ?_) rfl (by kernel_rfl) (by kernel_rfl) (by kernel_rfl) (fun _ _ _ h => h) (Or.inl ⟨by kernel_rfl, ?_⟩) ?_
      rotate_left 1
      · (intro w; first | (go_simp; done) | (go_simp; with_reducible rfl))
      change wpAny _ _ _ _ _ _ (Act.put _ (some 42) _) _
      refine wpAny_take (i := 20) (v := ?_) rfl (by kernel_rfl) (by kernel_rfl) (by kernel_rfl) (fun _ _ _ h => h) (Or.inl ⟨by kernel_rfl, ?_⟩) ?_
      rotate_left 1
      · (intro w; first | (go_simp; done) | (go_simp; with_reducible rfl))
      change wpAny _ _ _ _ _ _ (Act.put _ (some 4) _) _
      refine wpAny_done (by kernel_rfl) ?_ _
      go_simp
      go_wp2
      exact HPQ.out _ hg
    refine AllReady.cons rfl (fun K hK => ?_) AllReady.nil
    go_simp
    refine hK _ _ ?_
    clear hK K
    refine wpAny_ready (rs := [12]) (by kernel_rfl) (by simp) ?_
    refine AllReady.cons rfl (fun K hK => ?_) AllReady.nil
    go_simp
    refine hK _ _ ?_
    clear hK K
    refine wpAny_ready (rs := [14]) (by kernel_rfl) (by simp) ?_
    refine AllReady.cons rfl (fun K hK => ?_) AllReady.nil
    go_simp
    go_wp2_with (go_at_call 14; refine (H2.out _ (by first | exact HD.out | exact hg)).mono ?_; rintro e w' ⟨rfl, hg⟩; have hgg := hg; obtain ⟨_, g0, g1, g2, g3, g4, g5⟩ := hgg)
    refine wpAny_ready (rs := [17]) (by kernel_rfl) (by simp) ?_
    refine AllReady.cons rfl (fun K hK => ?_) AllReady.nil
    go_simp
    go_wp2_with (go_at_call 15; refine (H3.out _ (by first | exact HD.out | exact hg)).mono ?_; rintro e w' ⟨rfl, hg⟩; have hgg := hg; obtain ⟨_, g0, g1, g2, g3, g4, g5⟩ := hgg)
    refine wpAny_take (i := 18) (v := ?_) rfl (by kernel_rfl) (by kernel_rfl) (by kernel_rfl) (fun _ _ _ h => h) (Or.inl ⟨by kernel_rfl, ?_⟩) ?_
    rotate_left 1
    · (intro w; first | (go_simp; done) | (go_simp; with_reducible rfl))
    change wpAny _ _ _ _ _ _ (Act.put _ (some 41) _) _
    refine wpAny_take (i := 19) (v := ?_) rfl (by kernel_rfl) (by kernel_rfl) (by kernel_rfl) (fun _ _ _ h => h) (Or.inl ⟨by kernel_rfl, ?_⟩) ?_
    rotate_left 1
    · (intro w; first | (go_simp; done) | (go_simp; with_reducible rfl))
    change wpAny _ _ _ _ _ _ (Act.put _ (some 42) _) _
    refine wpAny_take (i := 20) (v := ?_) rfl (by kernel_rfl) (by kernel_rfl) (by kernel_rfl) (fun _ _ _ h => h) (Or.inl ⟨by kernel_rfl, ?_⟩) ?_
    rotate_left 1
    · (intro w; first | (go_simp; done) | (go_simp; with_reducible rfl))
    change wpAny _ _ _ _ _ _ (Act.put _ (some 4) _) _
    refine wpAny_done (by kernel_rfl) ?_ _
    go_simp
    go_wp2
    exact HPQ.out _ hg
  refine AllReady.cons rfl (fun K hK => ?_) AllReady.nil
  go_simp
  refine hK _ _ ?_
  clear hK K
  refine wpAny_ready (rs := [2]) (by kernel_rfl) (by simp) ?_
  refine AllReady.cons rfl (fun K hK => ?_) AllReady.nil
  go_simp
  refine hK _ _ ?_
  clear hK K
  refine wpAny_ready (rs := [4]) (by kernel_rfl) (by simp) ?_
  refine AllReady.cons rfl (fun K hK => ?_) AllReady.nil
  go_simp
  go_wp2_with (go_at_call 13; refine (H1.out _ (by first | exact HD.out | exact hg)).mono ?_; rintro e w' ⟨rfl, hg⟩; have hgg := hg; obtain ⟨_, g0, g1, g2, g3, g4, g5⟩ := hgg)
  refine wpAny_take (i := 5) (v := ?_) rfl (by kernel_rfl) (by kernel_rfl) (by kernel_rfl) (fun _ _ _ h => h) (Or.inl ⟨by kernel_rfl, ?_⟩) ?_
  rotate_left 1
  · (intro w; first | (go_simp; done) | (go_simp; with_reducible rfl))
  change wpAny _ _ _ _ _ _ (Act.put _ (some 28) _) _
  refine wpAny_take (i := 6) (v := ?_) rfl (by kernel_rfl) (by kernel_rfl) (by kernel_rfl) (fun _ _ _ h => h) (Or.inl ⟨by kernel_rfl, ?_⟩) ?_
  rotate_left 1
  · (intro w; first | (go_simp; done) | (go_simp; with_reducible rfl))
  change wpAny _ _ _ _ _ _ (Act.put _ (some 29) _) _
  refine wpAny_take (i := 7) (v := ?_) rfl (by kernel_rfl) (by kernel_rfl) (by kernel_rfl) (fun _ _ _ h => h) (Or.inl ⟨by kernel_rfl, ?_⟩) ?_
  rotate_left 1
  · (intro w; first | (go_simp; done) | (go_simp; with_reducible rfl))
  change wpAny _ _ _ _ _ _ (Act.put _ (some 30) _) _
  refine wpAny_take (i := 8) (v := ?_) rfl (by kernel_rfl) (by kernel_rfl) (by kernel_rfl) (fun _ _ _ h => h) (Or.inl ⟨by kernel_rfl, ?_⟩) ?_
  rotate_left 1
  · (intro w; first | (go_simp; done) | (go_simp; with_reducible rfl))
  change wpAny _ _ _ _ _ _ (Act.put _ (some 31) _) _
  refine wpAny_take (i := 9) (v := ?_) rfl (by kernel_rfl) (by kernel_rfl) (by kernel_rfl) (fun _ _ _ h => h) (Or.inl ⟨by kernel_rfl, ?_⟩) ?_
  rotate_left 1
  · (intro w; first | (go_simp; done) | (go_simp; with_reducible rfl))
  change wpAny _ _ _ _ _ _ (Act.put _ (some 32) _) _
  refine wpAny_take (i := 10) (v := ?_) rfl (by kernel_rfl) (by kernel_rfl) (by kernel_rfl) (fun _ _ _ h => h) (Or.inl ⟨by kernel_rfl, ?_⟩) ?_
  rotate_left 1
  · (intro w; first | (go_simp; done) | (go_simp; with_reducible rfl))
  change wpAny _ _ _ _ _ _ (Act.put _ (some 33) _) _
  refine wpAny_take (i := 11) (v := ?_) rfl (by kernel_rfl) (by kernel_rfl) (by kernel_rfl) (fun _ _ _ h => h) (Or.inl ⟨by kernel_rfl, ?_⟩) ?_
  rotate_left 1
  · (intro w; first | (go_simp; done) | (go_simp; with_reducible rfl))
  change wpAny _ _ _ _ _ _ (Act.put _ (some 34) _) _
  refine wpAny_take (i := 13) (v := ?_) rfl (by kernel_rfl) (by kernel_rfl) (by kernel_rfl) (fun _ _ _ h => h) (Or.inl ⟨by kernel_rfl, ?_⟩) ?_
  rotate_left 1
  · (intro w; first | (go_simp; done) | (go_simp; with_reducible rfl))
  change wpAny _ _ _ _ _ _ (Act.put _ (some 36) _) _
  refine wpAny_take (i := 16) (v := ?_) rfl (by kernel_rfl) (by kernel_rfl) (by kernel_rfl) (fun _ _ _ h => h) (Or.inl ⟨by kernel_rfl, ?_⟩) ?_
  rotate_left 1
  · (intro w; first | (go_simp; done) | (go_simp; with_reducible rfl))
  change wpAny _ _ _ _ _ _ (Act.put _ (some 39) _) _
  refine wpAny_ready (rs := [12, 15]) (by kernel_rfl) (by simp) ?_
  refine AllReady.cons rfl (fun K hK => ?_) ?_
  focus
    go_simp
    refine hK _ _ ?_
    clear hK K
    refine wpAny_ready (rs := [14, 15]) (by kernel_rfl) (by simp) ?_
    refine AllReady.cons rfl (fun K hK => ?_) ?_
    focus
      go_simp
      go_wp2_with (go_at_call 14; refine (H2.out _ (by first | exact HD.out | exact hg)).mono ?_; rintro e w' ⟨rfl, hg⟩; have hgg := hg; obtain ⟨_, g0, g1, g2, g3, g4, g5⟩ := hgg)
      refine wpAny_ready (rs := [15]) (by kernel_rfl) (by simp) ?_
      refine AllReady.cons rfl (fun K hK => ?_) AllReady.nil
      go_simp
      refine hK _ _ ?_
      clear hK K
      refine wpAny_ready (rs := [17]) (by kernel_rfl) (by simp) ?_
      refine AllReady.cons rfl (fun K hK => ?_) AllReady.nil
      go_simp
      go_wp2_with (go_at_call 15; refine (H3.out _ (by first | exact HD.out | exact hg)).mono ?_; rintro e w' ⟨rfl, hg⟩; have hgg := hg; obtain ⟨_, g0, g1, g2, g3, g4, g5⟩ := hgg)
      refine wpAny_take (i := 18) (v := ?_) rfl (by kernel_rfl) (by kernel_rfl) (by kernel_rfl) (fun _ _ _ h => h) (Or.inl ⟨by kernel_rfl, ?_⟩) ?_
      rotate_left 1
      · (intro w; first | (go_simp; done) | (go_simp; with_reducible rfl))
      change wpAny _ _ _ _ _ _ (Act.put _ (some 41) _) _
      refine wpAny_take (i := 19) (v := ?_) rfl (by kernel_rfl) (by kernel_rfl) (by kernel_rfl) (fun _ _ _ h => h) (Or.inl ⟨by kernel_rfl, ?_⟩) ?_
      rotate_left 1
      · (intro w; first | (go_simp; done) | (go_simp; with_reducible rfl))
      change wpAny _ _ _ _ _ _ (Act.put _ (some 42) _) _
      refine wpAny_take (i := 20) (v := ?_) rfl (by kernel_rfl) (by kernel_rfl) (by kernel_rfl) (fun _ _ _ h => h) (Or.inl ⟨by kernel_rfl, ?_⟩) ?_
      rotate_left 1
      · (intro w; first | (go_simp; done) | (go_simp; with_reducible rfl))
      change wpAny _ _ _ _ _ _ (Act.put _ (some 4) _) _
      refine wpAny_done (by kernel_rfl) ?_ _
      go_simp
      go_wp2
      exact HPQ.out _ hg
    refine AllReady.cons rfl (fun K hK => ?_) AllReady.nil
    go_simp
    refine hK _ _ ?_
    clear hK K
    refine wpAny_ready (rs := [14]) (by kernel_rfl) (by simp) ?_
    refine AllReady.cons rfl (fun K hK => ?_) AllReady.nil
    go_simp
    go_wp2_with (go_at_call 14; refine (H2.out _ (by first | exact HD.out | exact hg)).mono ?_; rintro e w' ⟨rfl, hg⟩; have hgg := hg; obtain ⟨_, g0, g1, g2, g3, g4, g5⟩ := hgg)
    refine wpAny_ready (rs := [17]) (by kernel_rfl) (by simp) ?_
    refine AllReady.cons rfl (fun K hK => ?_) AllReady.nil
    go_simp
    go_wp2_with (go_at_call 15; refine (H3.out _ (by first | exact HD.out | exact hg)).mono ?_; rintro e w' ⟨rfl, hg⟩; have hgg := hg; obtain ⟨_, g0, g1, g2, g3, g4, g5⟩ := hgg)
    refine wpAny_take (i := 18) (v := ?_) rfl (by kernel_rfl) (by kernel_rfl) (by kernel_rfl) (fun _ _ _ h => h) (Or.inl ⟨by kernel_rfl, ?_⟩) ?_
    rotate_left 1
    · (intro w; first | (go_simp; done) | (go_simp; with_reducible rfl))
    change wpAny _ _ _ _ _ _ (Act.put _ (some 41) _) _
    refine wpAny_take (i := 19) (v := ?_) rfl (by kernel_rfl) (by kernel_rfl) (by kernel_rfl) (fun _ _ _ h => h) (Or.inl ⟨by kernel_rfl, ?_⟩) ?_
    rotate_left 1
    · (intro w; first | (go_simp; done) | (go_simp; with_reducible rfl))
    change wpAny _ _ _ _ _ _ (Act.put _ (some 42) _) _
    refine wpAny_take (i := 20) (v := ?_) rfl (by kernel_rfl) (by kernel_rfl) (by kernel_rfl) (fun _ _ _ h => h) (Or.inl ⟨by kernel_rfl, ?_⟩) ?_
    rotate_left 1
    · (intro w; first | (go_simp; done) | (go_simp; with_reducible rfl))
    change wpAny _ _ _ _ _ _ (Act.put _ (some 4) _) _
    refine wpAny_done (by kernel_rfl) ?_ _
    go_simp
    go_wp2
    exact HPQ.out _ hg
  refine AllReady.cons rfl (fun K hK => ?_) AllReady.nil
  go_simp
  refine hK _ _ ?_
  clear hK K
  refine wpAny_ready (rs := [12]) (by kernel_rfl) (by simp) ?_
  refine AllReady.cons rfl (fun K hK => ?_) AllReady.nil
  go_simp
  refine hK _ _ ?_
  clear hK K
  refine wpAny_ready (rs := [14]) (by kernel_rfl) (by simp) ?_
  refine AllReady.cons rfl (fun K hK => ?_) AllReady.nil
  go_simp
  go_wp2_with (go_at_call 14; refine (H2.out _ (by first | exact HD.out | exact hg)).mono ?_; rintro e w' ⟨rfl, hg⟩; have hgg := hg; obtain ⟨_, g0, g1, g2, g3, g4, g5⟩ := hgg)
  refine wpAny_ready (rs := [17]) (by kernel_rfl) (by simp) ?_
  refine AllReady.cons rfl (fun K hK => ?_) AllReady.nil
  go_simp
  go_wp2_with (go_at_call 15; refine (H3.out _ (by first | exact HD.out | exact hg)).mono ?_; rintro e w' ⟨rfl, hg⟩; have hgg := hg; obtain ⟨_, g0, g1, g2, g3, g4, g5⟩ := hgg)
  refine wpAny_take (i := 18) (v := ?_) rfl (by kernel_rfl) (by kernel_rfl) (by kernel_rfl) (fun _ _ _ h => h) (Or.inl ⟨by kernel_rfl, ?_⟩) ?_
  rotate_left 1
  · (intro w; first | (go_simp; done) | (go_simp; with_reducible rfl))
  change wpAny _ _ _ _ _ _ (Act.put _ (some 41) _) _
  refine wpAny_take (i := 19) (v := ?_) rfl (by kernel_rfl) (by kernel_rfl) (by kernel_rfl) (fun _ _ _ h => h) (Or.inl ⟨by kernel_rfl, ?_⟩) ?_
  rotate_left 1
  · (intro w; first | (go_simp; done) | (go_simp; with_reducible rfl))
  change wpAny _ _ _ _ _ _ (Act.put _ (some 42) _) _
  refine wpAny_take (i := 20) (v := ?_) rfl (by kernel_rfl) (by kernel_rfl) (by kernel_rfl) (fun _ _ _ h => h) (Or.inl ⟨by kernel_rfl, ?_⟩) ?_
  rotate_left 1
  · (intro w; first | (go_simp; done) | (go_simp; with_reducible rfl))
  change wpAny _ _ _ _ _ _ (Act.put _ (some 4) _) _
  refine wpAny_done (by kernel_rfl) ?_ _
  go_simp
  go_wp2
  exact HPQ.out _ hg
end Go.Proofs.YtlmkefmfhdjmmaaDoor
