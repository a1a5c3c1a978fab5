/- TrieRows: numbers of one block say the same at the same places. -/
import Derived.Test.YtlmkefmfhdjmmaaDoorBunA13
import Derived.BigQuiet
namespace Go.Proofs.YtlmkefmfhdjmmaaDoor
open Go.RowKit Go.Shelf Go.Maps
attribute [local go_sem] Oper.semAt_some

/-- Where a trie's cells stand, for the walk. -/
def RowsW (wS : World) (B gi oi : Nat) (bo : Option Addr) (n2 a b : Nat) (x y : Int) (W : World) : Prop :=
  Below wS.heap.size wS W ∧ W.cell? ⟨B, 0, none⟩ = some (.slice (some ⟨gi, oi, none⟩) 4352 4352) ∧ W.cell? ⟨B, 1, none⟩ = some (.slice bo n2 n2) ∧ W.cell? ⟨gi, oi + a, none⟩ = some (.int .i64 x) ∧ W.cell? ⟨gi, oi + b, none⟩ = some (.int .i64 y) ∧ B < W.heap.size ∧ gi < W.heap.size
theorem RowsW.below {wS : World} {B gi oi : Nat} {bo : Option Addr} {n2 a b : Nat} {x y : Int} {W W' : World} (h : RowsW wS B gi oi bo n2 a b x y W) (hb : Below W.heap.size W W') : RowsW wS B gi oi bo n2 a b x y W' := by
  obtain ⟨h0, h1, h2, h3, h4, h5, h6⟩ := h
  have := hb.size
  exact ⟨h0.trans (hb.mono h0.size), cell_keepT hb h1, cell_keepT hb h2, cell_keepT hb h3, cell_keepT hb h4, by omega, by omega⟩
set_option maxRecDepth 100000 in
set_option maxHeartbeats 16000000 in
theorem rows_anyL (o : Option Addr) (l : List Rng) (cap : Nat) (a b k : Int) (hc : l.length ≤ cap) (w : World) (hA : AtR w o l) {aU aS : Addr} (hG : Glob w aU aS) :
    Calls Tryd.prog 6 #[.slice o l.length cap, .int .i64 a, .int .i64 b, .int .i64 k] w fun e w' => e = .returned (.bool true) ∧ Below w.heap.size w w' := by
  have HS := Lib.hid (shownT_any w hG)
  have F1 := Lib.hid (few20_any o l cap hc)
  have HA := Lib.hid (hA.take 20)
  have la : (l.take 20).length ≤ 20 ∧ (l.take 20).length ≤ cap := by rw [List.length_take]; omega
  obtain ⟨na, hna⟩ : ∃ n, l.length = n := ⟨_, rfl⟩
  rw [hna] at F1 ⊢
  obtain ⟨A, hAA⟩ : ∃ A, l.take 20 = A := ⟨_, rfl⟩
  rw [hAA] at F1 HA la
  have HG := Lib.hid hG
  have CA := Lib.hid (fun W (bb : Below w.heap.size w W) => Build_any o A cap (by omega) la.2 W (HG.out.below bb) (HA.out.below bb))
  obtain ⟨P, hP⟩ : ∃ P, (fun (e : Ending) w' => e = .returned (.bool true) ∧ Below w.heap.size w w') = P := ⟨_, rfl⟩
  have HP := Lib.hid hP
  rw [hP]
  clear hA hc hna hAA hG hP la
  go_enter Tryd.func6, Tryd.ntmps6
  go_wp2_with fail
  refine HS.out.mono ?_
  rintro e w1 ⟨rfl, b1⟩
  have B1 := Lib.hid b1
  clear b1 HS
  go_wp2_with fail
  refine (F1.out w1).mono ?_
  rintro e w1' ⟨rfl, rfl⟩
  have CA1 := Lib.hid (CA.out w1 B1.out)
  obtain ⟨ka, hka⟩ : ∃ n, A.length = n := ⟨_, rfl⟩
  rw [hka] at CA1 ⊢
  clear F1 CA
  go_wp2_with fail
  refine CA1.out.mono ?_
  rintro e w2 h
  rcases buildR_of A with ⟨hn, hR⟩ | ⟨rA, T, hTA, hR, hrT, hT1, hT2, hT3⟩
  · rw [hR] at h
    obtain ⟨io, bo, rfl, b2, _⟩ := trie_box h
    simp only [List.length_nil]
    have HPP : Hid (P (.returned (.bool true)) (w2.alloc (trieO io 0 0 bo 0 0))) := by
      rw [← HP.out]
      exact Lib.hid ⟨rfl, (B1.out.trans (b2.mono B1.out.size)).alloc (B1.out.trans (b2.mono B1.out.size)).size _⟩
    clear h b2 hR hn CA1
    go_wp2_with fail
    exact HPP.out
  · rw [hR] at h
    obtain ⟨io, bo, rfl, b2, ht⟩ := trie_box h
    have B2 := Lib.hid (B1.out.trans (b2.mono B1.out.size))
    obtain ⟨n2, h2⟩ : ∃ n, T.2.length = n := ⟨_, rfl⟩
    simp only [hT1, h2]
    have HPP : Hid (P (.returned (.bool true)) (w2.alloc (trieO io 4352 4352 bo n2 n2))) := by
      rw [← HP.out]
      exact Lib.hid ⟨rfl, B2.out.alloc B2.out.size _⟩
    by_cases hok : 0 ≤ a ∧ 0 ≤ b ∧ a < 4352 ∧ b < 4352 ∧ 0 ≤ k ∧ k < 256
    · obtain ⟨c1, c2, c3, c4, c5, c6⟩ := hok
      obtain ⟨an, rfl⟩ := Int.eq_ofNat_of_zero_le c1
      obtain ⟨bn, rfl⟩ := Int.eq_ofNat_of_zero_le c2
      obtain ⟨kn, rfl⟩ := Int.eq_ofNat_of_zero_le c5
      have d1 : ¬ ((an : Nat) : Int) < 0 := by omega
      have d2 : ¬ ((bn : Nat) : Int) < 0 := by omega
      have d3 : ¬ ((an : Nat) : Int) ≥ 4352 := by omega
      have d4 : ¬ ((bn : Nat) : Int) ≥ 4352 := by omega
      have d5 : ¬ ((kn : Nat) : Int) < 0 := by omega
      have d6 : ¬ ((kn : Nat) : Int) ≥ 256 := by omega
      obtain ⟨w3, hw3⟩ : ∃ w3, w2.alloc (trieO io 4352 4352 bo n2 n2) = w3 := ⟨_, rfl⟩
      obtain ⟨b3, u0, u1, u2⟩ := box_at hw3
      have B3 := Lib.hid (B2.out.trans (b3.mono B2.out.size))
      have HT3 := Lib.hid (ht.below b3)
      obtain ⟨gi, oi, rfl, hci⟩ := HT3.out.ix (by rw [hT1]; omega)
      have hf0 : T.1[0]? = some 0 := by rw [← hTA]; exact leastT_first (by simp)
      have k0 := hci 0 0 hf0
      obtain ⟨x, hx⟩ : ∃ x, T.1[an]? = some x := ⟨_, List.getElem?_eq_getElem (by rw [hT1]; omega)⟩
      obtain ⟨y, hy⟩ : ∃ x, T.1[bn]? = some x := ⟨_, List.getElem?_eq_getElem (by rw [hT1]; omega)⟩
      have kx := hci an x hx
      have ky := hci bn y hy
      have ug := World.block_lt_of_cell? _ _ k0
      rw [Nat.add_zero] at k0
      have hRW : RowsW w3 w2.heap.size gi oi bo n2 an bn x y w3 := ⟨Below.refl _ _, u0, u1, kx, ky, u2, ug⟩
      have HRW := Lib.hid hRW
      have HW3 := Lib.hid hw3
      have HVV := Lib.hid (fun (r : Int) (W : World) (h : Below w3.heap.size w3 W) => value_any (some ⟨gi, oi, none⟩) bo T 4352 n2 r (by omega) hT2 hT3 W (HT3.out.below h))
      rw [hT1, h2] at HVV
      have HROW : Hid (x = y → valueT T ((256 * an + kn : Nat) : Int) = valueT T ((256 * bn + kn : Nat) : Int)) := Lib.hid fun e => rows_one hrT (by omega) (by omega) (by omega) (by rw [hx, hy, e])
      rw [← hw3] at u0 u1 u2 k0 kx ky ug
      clear h b2 b3 ht hci hf0 hx hy hRW CA1 hT1 hT2 hT3 rA hTA hrT h2 hR HPP hw3 c1 c2 c5
      by_cases hxy : x = y
      · subst hxy
        have hxx : (x != x) = false := by simp
        have HV1 : Hid (∀ W, RowsW w3 w2.heap.size gi oi bo n2 an bn x x W → Calls Tryd.prog 14 #[trieV (some ⟨gi, oi, none⟩) 4352 4352 bo n2 n2, .int .i64 ((256 * an + kn : Nat) : Int)] W fun e W' => e = .returned (.int .i64 (valueT T ((256 * an + kn : Nat) : Int))) ∧ RowsW w3 w2.heap.size gi oi bo n2 an bn x x W') := Lib.hid fun W hW => (HVV.out _ W hW.1).mono fun e W' h => ⟨h.1, hW.below h.2⟩
        have HV2 : Hid (∀ W, RowsW w3 w2.heap.size gi oi bo n2 an bn x x W → Calls Tryd.prog 14 #[trieV (some ⟨gi, oi, none⟩) 4352 4352 bo n2 n2, .int .i64 ((256 * bn + kn : Nat) : Int)] W fun e W' => e = .returned (.int .i64 (valueT T ((256 * bn + kn : Nat) : Int))) ∧ RowsW w3 w2.heap.size gi oi bo n2 an bn x x W') := Lib.hid fun W hW => (HVV.out _ W hW.1).mono fun e W' h => ⟨h.1, hW.below h.2⟩
        rw [← HROW.out rfl] at HV2
        obtain ⟨v, hv⟩ : ∃ v, valueT T ((256 * an + kn : Nat) : Int) = v := ⟨_, rfl⟩
        rw [hv] at HV1 HV2
        obtain ⟨pa, hpa⟩ : ∃ p, 256 * an + kn = p := ⟨_, rfl⟩
        obtain ⟨pb, hpb⟩ : ∃ p, 256 * bn + kn = p := ⟨_, rfl⟩
        rw [hpa] at HV1
        rw [hpb] at HV2
        have hw1 : IntKind.i64.wrap (256 * ((an : Nat) : Int)) = 256 * ((an : Nat) : Int) := wrap_id (by omega) (by omega)
        have hw2 : IntKind.i64.wrap (256 * ((an : Nat) : Int) + ((kn : Nat) : Int)) = ((pa : Nat) : Int) := by rw [wrap_id (by omega) (by omega)]; omega
        have hw3' : IntKind.i64.wrap (256 * ((bn : Nat) : Int)) = 256 * ((bn : Nat) : Int) := wrap_id (by omega) (by omega)
        have hw4 : IntKind.i64.wrap (256 * ((bn : Nat) : Int) + ((kn : Nat) : Int)) = ((pb : Nat) : Int) := by rw [wrap_id (by omega) (by omega)]; omega
        have hvv : (v == v) = true := by simp
        have hfol : Tryd.prog.follows .mixedOrders = true := by kernel_rfl
        have HPQ : Hid (∀ W, RowsW w3 w2.heap.size gi oi bo n2 an bn x x W → P (.returned (.bool true)) W) := by
          rw [← HP.out]
          exact Lib.hid fun W h => ⟨rfl, B3.out.trans (h.1.mono B3.out.size)⟩
        clear HVV HROW hv hpa hpb
        go_wp2_with fail
        rw [HW3.out]
        clear u0 u1 u2 k0 kx ky ug
        have HD : Hid (RowsW w3 w2.heap.size gi oi bo n2 an bn x x w3.drew) := Lib.hid (HRW.out.below (Below.refl _ _).drew)
        obtain ⟨_, u0, u1, kx, ky, u2, ug⟩ := HRW.out
        refine wp_region_any (by kernel_rfl) ?_
        try (change wpAny _ _ _ _ _ _ _ (World.drew _))
        refine wpAny_take (i := 0) (v := ?_) rfl (by kernel_rfl) (by kernel_rfl) (by kernel_rfl) (fun _ _ _ h => h) (Or.inl ⟨by kernel_rfl, ?_⟩) ?_
        rotate_left 1
        · (intro w; first | (go_simp; done) | (go_simp; with_reducible rfl))
        change wpAny _ _ _ _ _ _ (Act.put _ (some 57) _) _
        refine wpAny_take (i := 1) (v := ?_) rfl (by kernel_rfl) (by kernel_rfl) (by kernel_rfl) (fun _ _ _ h => h) (Or.inl ⟨by kernel_rfl, ?_⟩) ?_
        rotate_left 1
        · (intro w; first | (go_simp; done) | (go_simp; with_reducible rfl))
        change wpAny _ _ _ _ _ _ (Act.put _ (some 58) _) _
        refine wpAny_take (i := 2) (v := ?_) rfl (by kernel_rfl) (by kernel_rfl) (by kernel_rfl) (fun _ _ _ h => h) (Or.inl ⟨by kernel_rfl, ?_⟩) ?_
        rotate_left 1
        · (intro w; first | (go_simp; done) | (go_simp; with_reducible rfl))
        change wpAny _ _ _ _ _ _ (Act.put _ (some 59) _) _
        refine wpAny_take (i := 4) (v := ?_) rfl (by kernel_rfl) (by kernel_rfl) (by kernel_rfl) (fun _ _ _ h => h) (Or.inl ⟨by kernel_rfl, ?_⟩) ?_
        rotate_left 1
        · (intro w; first | (go_simp; done) | (go_simp; with_reducible rfl))
        change wpAny _ _ _ _ _ _ (Act.put _ (some 61) _) _
        refine wpAny_take (i := 7) (v := ?_) rfl (by kernel_rfl) (by kernel_rfl) (by kernel_rfl) (fun _ _ _ h => h) (Or.inl ⟨by kernel_rfl, ?_⟩) ?_
        rotate_left 1
        · (intro w; first | (go_simp; done) | (go_simp; with_reducible rfl))
        change wpAny _ _ _ _ _ _ (Act.put _ (some 64) _) _
        refine wpAny_take (i := 9) (v := ?_) rfl (by kernel_rfl) (by kernel_rfl) (by kernel_rfl) (fun _ _ _ h => h) (Or.inl ⟨by kernel_rfl, ?_⟩) ?_
        rotate_left 1
        · (intro w; first | (go_simp; done) | (go_simp; with_reducible rfl))
        change wpAny _ _ _ _ _ _ (Act.put _ (some 66) _) _
        refine wpAny_ready (rs := [3, 8]) (by kernel_rfl) (by simp) ?_
        refine AllReady.cons rfl (fun K hK => ?_) ?_
        focus
          go_simp
          refine hK _ _ ?_
          clear hK K
          refine wpAny_take (i := 5) (v := ?_) rfl (by kernel_rfl) (by kernel_rfl) (by kernel_rfl) (fun _ _ _ h => h) (Or.inl ⟨by kernel_rfl, ?_⟩) ?_
          rotate_left 1
          · (intro w; first | (go_simp; done) | (go_simp; with_reducible rfl))
          change wpAny _ _ _ _ _ _ (Act.put _ (some 62) _) _
          refine wpAny_ready (rs := [6, 8]) (by kernel_rfl) (by simp) ?_
          refine AllReady.cons rfl (fun K hK => ?_) ?_
          focus
            go_simp
            refine hK _ _ ?_
            clear hK K
            refine wpAny_ready (rs := [8]) (by kernel_rfl) (by simp) ?_
            refine AllReady.cons rfl (fun K hK => ?_) AllReady.nil
            go_simp
            refine hK _ _ ?_
            clear hK K
            refine wpAny_take (i := 10) (v := ?_) rfl (by kernel_rfl) (by kernel_rfl) (by kernel_rfl) (fun _ _ _ h => h) (Or.inl ⟨by kernel_rfl, ?_⟩) ?_
            rotate_left 1
            · (intro w; first | (go_simp; done) | (go_simp; with_reducible rfl))
            change wpAny _ _ _ _ _ _ (Act.put _ (some 67) _) _
            refine wpAny_ready (rs := [11]) (by kernel_rfl) (by simp) ?_
            refine AllReady.cons rfl (fun K hK => ?_) AllReady.nil
            go_simp
            refine hK _ _ ?_
            clear hK K
            refine wpAny_take (i := 12) (v := ?_) rfl (by kernel_rfl) (by kernel_rfl) (by kernel_rfl) (fun _ _ _ h => h) (Or.inl ⟨by kernel_rfl, ?_⟩) ?_
            rotate_left 1
            · (intro w; first | (go_simp; done) | (go_simp; with_reducible rfl))
            change wpAny _ _ _ _ _ _ (Act.put _ (some 69) _) _
            refine wpAny_take (i := 13) (v := ?_) rfl (by kernel_rfl) (by kernel_rfl) (by kernel_rfl) (fun _ _ _ h => h) (Or.inl ⟨by kernel_rfl, ?_⟩) ?_
            rotate_left 1
            · (intro w; first | (go_simp; done) | (go_simp; with_reducible rfl))
            change wpAny _ _ _ _ _ _ (Act.put _ (some 70) _) _
            refine wpAny_take (i := 15) (v := ?_) rfl (by kernel_rfl) (by kernel_rfl) (by kernel_rfl) (fun _ _ _ h => h) (Or.inl ⟨by kernel_rfl, ?_⟩) ?_
            rotate_left 1
            · (intro w; first | (go_simp; done) | (go_simp; with_reducible rfl))
            change wpAny _ _ _ _ _ _ (Act.put _ (some 72) _) _
            refine wpAny_take (i := 16) (v := ?_) rfl (by kernel_rfl) (by kernel_rfl) (by kernel_rfl) (fun _ _ _ h => h) (Or.inl ⟨by kernel_rfl, ?_⟩) ?_
            rotate_left 1
            · (intro w; first | (go_simp; done) | (go_simp; with_reducible rfl))
            change wpAny _ _ _ _ _ _ (Act.put _ (some 73) _) _
            refine wpAny_take (i := 17) (v := ?_) rfl (by kernel_rfl) (by kernel_rfl) (by kernel_rfl) (fun _ _ _ h => h) (Or.inl ⟨by kernel_rfl, ?_⟩) ?_
            rotate_left 1
            · (intro w; first | (go_simp; done) | (go_simp; with_reducible rfl))
            change wpAny _ _ _ _ _ _ (Act.put _ (some 74) _) _
            refine wpAny_take (i := 18) (v := ?_) rfl (by kernel_rfl) (by kernel_rfl) (by kernel_rfl) (fun _ _ _ h => h) (Or.inl ⟨by kernel_rfl, ?_⟩) ?_
            rotate_left 1
            · (intro w; first | (go_simp; done) | (go_simp; with_reducible rfl))
            change wpAny _ _ _ _ _ _ (Act.put _ (some 75) _) _
            refine wpAny_take (i := 21) (v := ?_) rfl (by kernel_rfl) (by kernel_rfl) (by kernel_rfl) (fun _ _ _ h => h) (Or.inl ⟨by kernel_rfl, ?_⟩) ?_
            rotate_left 1
            · (intro w; first | (go_simp; done) | (go_simp; with_reducible rfl))
            change wpAny _ _ _ _ _ _ (Act.put _ (some 78) _) _
            refine wpAny_take (i := 22) (v := ?_) rfl (by kernel_rfl) (by kernel_rfl) (by kernel_rfl) (fun _ _ _ h => h) (Or.inl ⟨by kernel_rfl, ?_⟩) ?_
            rotate_left 1
            · (intro w; first | (go_simp; done) | (go_simp; with_reducible rfl))
            change wpAny _ _ _ _ _ _ (Act.put _ (some 79) _) _
            refine wpAny_take (i := 23) (v := ?_) rfl (by kernel_rfl) (by kernel_rfl) (by kernel_rfl) (fun _ _ _ h => h) (Or.inl ⟨by kernel_rfl, ?_⟩) ?_
            rotate_left 1
            · (intro w; first | (go_simp; done) | (go_simp; with_reducible rfl))
            change wpAny _ _ _ _ _ _ (Act.put _ (some 80) _) _
            refine wpAny_take (i := 24) (v := ?_) rfl (by kernel_rfl) (by kernel_rfl) (by kernel_rfl) (fun _ _ _ h => h) (Or.inl ⟨by kernel_rfl, ?_⟩) ?_
            rotate_left 1
            · (intro w; first | (go_simp; done) | (go_simp; with_reducible rfl))
            change wpAny _ _ _ _ _ _ (Act.put _ (some 81) _) _
            refine wpAny_ready (rs := [14, 20]) (by kernel_rfl) (by simp) ?_
            refine AllReady.cons rfl (fun K hK => ?_) ?_
            focus
              go_simp
              refine hK _ _ ?_
              clear hK K
              refine wpAny_ready (rs := [19, 20]) (by kernel_rfl) (by simp) ?_
              refine AllReady.cons rfl (fun K hK => ?_) ?_
              focus
                go_simp
                go_wp2_with (go_at_call 14; refine (HV1.out _ (by first | exact HD.out | exact hg)).mono ?_; rintro e w' ⟨rfl, hg⟩; have hgg := hg; obtain ⟨_, g0, g1, gx, gy, g2, gg⟩ := hgg)
                refine wpAny_ready (rs := [20]) (by kernel_rfl) (by simp) ?_
                refine AllReady.cons rfl (fun K hK => ?_) AllReady.nil
                go_simp
                refine hK _ _ ?_
                clear hK K
                refine wpAny_ready (rs := [25]) (by kernel_rfl) (by simp) ?_
                refine AllReady.cons rfl (fun K hK => ?_) AllReady.nil
                go_simp
                go_wp2_with (go_at_call 14; refine (HV2.out _ (by first | exact HD.out | exact hg)).mono ?_; rintro e w' ⟨rfl, hg⟩; have hgg := hg; obtain ⟨_, g0, g1, gx, gy, g2, gg⟩ := hgg)
                refine wpAny_take (i := 26) (v := ?_) rfl (by kernel_rfl) (by kernel_rfl) (by kernel_rfl) (fun _ _ _ h => h) (Or.inl ⟨by kernel_rfl, ?_⟩) ?_
                rotate_left 1
                · (intro w; first | (go_simp; done) | (go_simp; with_reducible rfl))
                change wpAny _ _ _ _ _ _ (Act.put _ (some 83) _) _
                refine wpAny_take (i := 27) (v := ?_) rfl (by kernel_rfl) (by kernel_rfl) (by kernel_rfl) (fun _ _ _ h => h) (Or.inl ⟨by kernel_rfl, ?_⟩) ?_
                rotate_left 1
                · (intro w; first | (go_simp; done) | (go_simp; with_reducible rfl))
                change wpAny _ _ _ _ _ _ (Act.put _ (some 84) _) _
                refine wpAny_take (i := 28) (v := ?_) rfl (by kernel_rfl) (by kernel_rfl) (by kernel_rfl) (fun _ _ _ h => h) (Or.inl ⟨by kernel_rfl, ?_⟩) ?_
                rotate_left 1
                · (intro w; first | (go_simp; done) | (go_simp; with_reducible rfl))
                change wpAny _ _ _ _ _ _ (Act.put _ (some 85) _) _
                refine wpAny_take (i := 29) (v := ?_) rfl (by kernel_rfl) (by kernel_rfl) (by kernel_rfl) (fun _ _ _ h => h) (Or.inl ⟨by kernel_rfl, ?_⟩) ?_
                rotate_left 1
                · (intro w; first | (go_simp; done) | (go_simp; with_reducible rfl))
                change wpAny _ _ _ _ _ _ (Act.put _ (some 8) _) _
                refine wpAny_done (by kernel_rfl) ?_ _
                go_simp
                go_wp2
                exact HPQ.out _ hg
              refine AllReady.cons rfl (fun K hK => ?_) AllReady.nil
              go_simp
              refine hK _ _ ?_
              clear hK K
              refine wpAny_ready (rs := [19]) (by kernel_rfl) (by simp) ?_
              refine AllReady.cons rfl (fun K hK => ?_) AllReady.nil
              go_simp
              go_wp2_with (go_at_call 14; refine (HV1.out _ (by first | exact HD.out | exact hg)).mono ?_; rintro e w' ⟨rfl, hg⟩; have hgg := hg; obtain ⟨_, g0, g1, gx, gy, g2, gg⟩ := hgg)
              refine wpAny_ready (rs := [25]) (by kernel_rfl) (by simp) ?_
              refine AllReady.cons rfl (fun K hK => ?_) AllReady.nil
              go_simp
              go_wp2_with (go_at_call 14; refine (HV2.out _ (by first | exact HD.out | exact hg)).mono ?_; rintro e w' ⟨rfl, hg⟩; have hgg := hg; obtain ⟨_, g0, g1, gx, gy, g2, gg⟩ := hgg)
              refine wpAny_take (i := 26) (v := ?_) rfl (by kernel_rfl) (by kernel_rfl) (by kernel_rfl) (fun _ _ _ h => h) (Or.inl ⟨by kernel_rfl, ?_⟩) ?_
              rotate_left 1
              · (intro w; first | (go_simp; done) | (go_simp; with_reducible rfl))
              change wpAny _ _ _ _ _ _ (Act.put _ (some 83) _) _
              refine wpAny_take (i := 27) (v := ?_) rfl (by kernel_rfl) (by kernel_rfl) (by kernel_rfl) (fun _ _ _ h => h) (Or.inl ⟨by kernel_rfl, ?_⟩) ?_
              rotate_left 1
              · (intro w; first | (go_simp; done) | (go_simp; with_reducible rfl))
              change wpAny _ _ _ _ _ _ (Act.put _ (some 84) _) _
              refine wpAny_take (i := 28) (v := ?_) rfl (by kernel_rfl) (by kernel_rfl) (by kernel_rfl) (fun _ _ _ h => h) (Or.inl ⟨by kernel_rfl, ?_⟩) ?_
              rotate_left 1
              · (intro w; first | (go_simp; done) | (go_simp; with_reducible rfl))
              change wpAny _ _ _ _ _ _ (Act.put _ (some 85) _) _
              refine wpAny_take (i := 29) (v := ?_) rfl (by kernel_rfl) (by kernel_rfl) (by kernel_rfl) (fun _ _ _ h => h) (Or.inl ⟨by kernel_rfl, ?_⟩) ?_
              rotate_left 1
              · (intro w; first | (go_simp; done) | (go_simp; with_reducible rfl))
              change wpAny _ _ _ _ _ _ (Act.put _ (some 8) _) _
              refine wpAny_done (by kernel_rfl) ?_ _
              go_simp
              go_wp2
              exact HPQ.out _ hg
            refine AllReady.cons rfl (fun K hK => ?_) AllReady.nil
            go_simp
            refine hK _ _ ?_
            clear hK K
            refine wpAny_ready (rs := [14]) (by kernel_rfl) (by simp) ?_
            refine AllReady.cons rfl (fun K hK => ?_) AllReady.nil
            go_simp
            refine hK _ _ ?_
            clear hK K
            refine wpAny_ready (rs := [19]) (by kernel_rfl) (by simp) ?_
            refine AllReady.cons rfl (fun K hK => ?_) AllReady.nil
            go_simp
            go_wp2_with (go_at_call 14; refine (HV1.out _ (by first | exact HD.out | exact hg)).mono ?_; rintro e w' ⟨rfl, hg⟩; have hgg := hg; obtain ⟨_, g0, g1, gx, gy, g2, gg⟩ := hgg)
            refine wpAny_ready (rs := [25]) (by kernel_rfl) (by simp) ?_
            refine AllReady.cons rfl (fun K hK => ?_) AllReady.nil
            go_simp
            go_wp2_with (go_at_call 14; refine (HV2.out _ (by first | exact HD.out | exact hg)).mono ?_; rintro e w' ⟨rfl, hg⟩; have hgg := hg; obtain ⟨_, g0, g1, gx, gy, g2, gg⟩ := hgg)
            refine wpAny_take (i := 26) (v := ?_) rfl (by kernel_rfl) (by kernel_rfl) (by kernel_rfl) (fun _ _ _ h => h) (Or.inl ⟨by kernel_rfl, ?_⟩) ?_
            rotate_left 1
            · (intro w; first | (go_simp; done) | (go_simp; with_reducible rfl))
            change wpAny _ _ _ _ _ _ (Act.put _ (some 83) _) _
            refine wpAny_take (i := 27) (v := ?_) rfl (by kernel_rfl) (by kernel_rfl) (by kernel_rfl) (fun _ _ _ h => h) (Or.inl ⟨by kernel_rfl, ?_⟩) ?_
            rotate_left 1
            · (intro w; first | (go_simp; done) | (go_simp; with_reducible rfl))
            change wpAny _ _ _ _ _ _ (Act.put _ (some 84) _) _
            refine wpAny_take (i := 28) (v := ?_) rfl (by kernel_rfl) (by kernel_rfl) (by kernel_rfl) (fun _ _ _ h => h) (Or.inl ⟨by kernel_rfl, ?_⟩) ?_
            rotate_left 1
            · (intro w; first | (go_simp; done) | (go_simp; with_reducible rfl))
            change wpAny _ _ _ _ _ _ (Act.put _ (some 85) _) _
            refine wpAny_take (i := 29) (v := ?_) rfl (by kernel_rfl) (by kernel_rfl) (by kernel_rfl) (fun _ _ _ h => h) (Or.inl ⟨by kernel_rfl, ?_⟩) ?_
            rotate_left 1
            · (intro w; first | (go_simp; done) | (go_simp; with_reducible rfl))
            change wpAny _ _ _ _ _ _ (Act.put _ (some 8) _) _
            refine wpAny_done (by kernel_rfl) ?_ _
            go_simp
            go_wp2
            exact HPQ.out _ hg
          refine AllReady.cons rfl (fun K hK => ?_) AllReady.nil
          go_simp
          refine hK _ _ ?_
          clear hK K
          refine wpAny_take (i := 10) (v := ?_) rfl (by kernel_rfl) (by kernel_rfl) (by kernel_rfl) (fun _ _ _ h => h) (Or.inl ⟨by kernel_rfl, ?_⟩) ?_
          rotate_left 1
          · (intro w; first | (go_simp; done) | (go_simp; with_reducible rfl))
          change wpAny _ _ _ _ _ _ (Act.put _ (some 67) _) _
          refine wpAny_ready (rs := [6, 11]) (by kernel_rfl) (by simp) ?_
          refine AllReady.cons rfl (fun K hK => ?_) ?_
          focus
            go_simp
            refine hK _ _ ?_
            clear hK K
            refine wpAny_ready (rs := [11]) (by kernel_rfl) (by simp) ?_
            refine AllReady.cons rfl (fun K hK => ?_) AllReady.nil
            go_simp
            refine hK _ _ ?_
            clear hK K
            refine wpAny_take (i := 12) (v := ?_) rfl (by kernel_rfl) (by kernel_rfl) (by kernel_rfl) (fun _ _ _ h => h) (Or.inl ⟨by kernel_rfl, ?_⟩) ?_
            rotate_left 1
            · (intro w; first | (go_simp; done) | (go_simp; with_reducible rfl))
            change wpAny _ _ _ _ _ _ (Act.put _ (some 69) _) _
            refine wpAny_take (i := 13) (v := ?_) rfl (by kernel_rfl) (by kernel_rfl) (by kernel_rfl) (fun _ _ _ h => h) (Or.inl ⟨by kernel_rfl, ?_⟩) ?_
            rotate_left 1
            · (intro w; first | (go_simp; done) | (go_simp; with_reducible rfl))
            change wpAny _ _ _ _ _ _ (Act.put _ (some 70) _) _
            refine wpAny_take (i := 15) (v := ?_) rfl (by kernel_rfl) (by kernel_rfl) (by kernel_rfl) (fun _ _ _ h => h) (Or.inl ⟨by kernel_rfl, ?_⟩) ?_
            rotate_left 1
            · (intro w; first | (go_simp; done) | (go_simp; with_reducible rfl))
            change wpAny _ _ _ _ _ _ (Act.put _ (some 72) _) _
            refine wpAny_take (i := 16) (v := ?_) rfl (by kernel_rfl) (by kernel_rfl) (by kernel_rfl) (fun _ _ _ h => h) (Or.inl ⟨by kernel_rfl, ?_⟩) ?_
            rotate_left 1
            · (intro w; first | (go_simp; done) | (go_simp; with_reducible rfl))
            change wpAny _ _ _ _ _ _ (Act.put _ (some 73) _) _
            refine wpAny_take (i := 17) (v := ?_) rfl (by kernel_rfl) (by kernel_rfl) (by kernel_rfl) (fun _ _ _ h => h) (Or.inl ⟨by kernel_rfl, ?_⟩) ?_
            rotate_left 1
            · (intro w; first | (go_simp; done) | (go_simp; with_reducible rfl))
            change wpAny _ _ _ _ _ _ (Act.put _ (some 74) _) _
            refine wpAny_take (i := 18) (v := ?_) rfl (by kernel_rfl) (by kernel_rfl) (by kernel_rfl) (fun _ _ _ h => h) (Or.inl ⟨by kernel_rfl, ?_⟩) ?_
            rotate_left 1
            · (intro w; first | (go_simp; done) | (go_simp; with_reducible rfl))
            change wpAny _ _ _ _ _ _ (Act.put _ (some 75) _) _
            refine wpAny_take (i := 21) (v := ?_) rfl (by kernel_rfl) (by kernel_rfl) (by kernel_rfl) (fun _ _ _ h => h) (Or.inl ⟨by kernel_rfl, ?_⟩) ?_
            rotate_left 1
            · (intro w; first | (go_simp; done) | (go_simp; with_reducible rfl))
            change wpAny _ _ _ _ _ _ (Act.put _ (some 78) _) _
            refine wpAny_take (i := 22) (v := ?_) rfl (by kernel_rfl) (by kernel_rfl) (by kernel_rfl) (fun _ _ _ h => h) (Or.inl ⟨by kernel_rfl, ?_⟩) ?_
            rotate_left 1
            · (intro w; first | (go_simp; done) | (go_simp; with_reducible rfl))
            change wpAny _ _ _ _ _ _ (Act.put _ (some 79) _) _
            refine wpAny_take (i := 23) (v := ?_) rfl (by kernel_rfl) (by kernel_rfl) (by kernel_rfl) (fun _ _ _ h => h) (Or.inl ⟨by kernel_rfl, ?_⟩) ?_
            rotate_left 1
            · (intro w; first | (go_simp; done) | (go_simp; with_reducible rfl))
            change wpAny _ _ _ _ _ _ (Act.put _ (some 80) _) _
            refine wpAny_take (i := 24) (v := ?_) rfl (by kernel_rfl) (by kernel_rfl) (by kernel_rfl) (fun _ _ _ h => h) (Or.inl ⟨by kernel_rfl, ?_⟩) ?_
            rotate_left 1
            · (intro w; first | (go_simp; done) | (go_simp; with_reducible rfl))
            change wpAny _ _ _ _ _ _ (Act.put _ (some 81) _) _
            refine wpAny_ready (rs := [14, 20]) (by kernel_rfl) (by simp) ?_
            refine AllReady.cons rfl (fun K hK => ?_) ?_
            focus
              go_simp
              refine hK _ _ ?_
              clear hK K
              refine wpAny_ready (rs := [19, 20]) (by kernel_rfl) (by simp) ?_
              refine AllReady.cons rfl (fun K hK => ?_) ?_
              focus
                go_simp
                go_wp2_with (go_at_call 14; refine (HV1.out _ (by first | exact HD.out | exact hg)).mono ?_; rintro e w' ⟨rfl, hg⟩; have hgg := hg; obtain ⟨_, g0, g1, gx, gy, g2, gg⟩ := hgg)
                refine wpAny_ready (rs := [20]) (by kernel_rfl) (by simp) ?_
                refine AllReady.cons rfl (fun K hK => ?_) AllReady.nil
                go_simp
                refine hK _ _ ?_
                clear hK K
                refine wpAny_ready (rs := [25]) (by kernel_rfl) (by simp) ?_
                refine AllReady.cons rfl (fun K hK => ?_) AllReady.nil
                go_simp
                go_wp2_with (go_at_call 14; refine (HV2.out _ (by first | exact HD.out | exact hg)).mono ?_; rintro e w' ⟨rfl, hg⟩; have hgg := hg; obtain ⟨_, g0, g1, gx, gy, g2, gg⟩ := hgg)
                refine wpAny_take (i := 26) (v := ?_) rfl (by kernel_rfl) (by kernel_rfl) (by kernel_rfl) (fun _ _ _ h => h) (Or.inl ⟨by kernel_rfl, ?_⟩) ?_
                rotate_left 1
                · (intro w; first | (go_simp; done) | (go_simp; with_reducible rfl))
                change wpAny _ _ _ _ _ _ (Act.put _ (some 83) _) _
                refine wpAny_take (i := 27) (v := ?_) rfl (by kernel_rfl) (by kernel_rfl) (by kernel_rfl) (fun _ _ _ h => h) (Or.inl ⟨by kernel_rfl, ?_⟩) ?_
                rotate_left 1
                · (intro w; first | (go_simp; done) | (go_simp; with_reducible rfl))
                change wpAny _ _ _ _ _ _ (Act.put _ (some 84) _) _
                refine wpAny_take (i := 28) (v := ?_) rfl (by kernel_rfl) (by kernel_rfl) (by kernel_rfl) (fun _ _ _ h => h) (Or.inl ⟨by kernel_rfl, ?_⟩) ?_
                rotate_left 1
                · (intro w; first | (go_simp; done) | (go_simp; with_reducible rfl))
                change wpAny _ _ _ _ _ _ (Act.put _ (some 85) _) _
                refine wpAny_take (i := 29) (v := ?_) rfl (by kernel_rfl) (by kernel_rfl) (by kernel_rfl) (fun _ _ _ h => h) (Or.inl ⟨by kernel_rfl, ?_⟩) ?_
                rotate_left 1
                · (intro w; first | (go_simp; done) | (go_simp; with_reducible rfl))
                change wpAny _ _ _ _ _ _ (Act.put _ (some 8) _) _
                refine wpAny_done (by kernel_rfl) ?_ _
                go_simp
                go_wp2
                exact HPQ.out _ hg
              refine AllReady.cons rfl (fun K hK => ?_) AllReady.nil
              go_simp
              refine hK _ _ ?_
              clear hK K
              refine wpAny_ready (rs := [19]) (by kernel_rfl) (by simp) ?_
              refine AllReady.cons rfl (fun K hK => ?_) AllReady.nil
              go_simp
              go_wp2_with (go_at_call 14; refine (HV1.out _ (by first | exact HD.out | exact hg)).mono ?_; rintro e w' ⟨rfl, hg⟩; have hgg := hg; obtain ⟨_, g0, g1, gx, gy, g2, gg⟩ := hgg)
              refine wpAny_ready (rs := [25]) (by kernel_rfl) (by simp) ?_
              refine AllReady.cons rfl (fun K hK => ?_) AllReady.nil
              go_simp
              go_wp2_with (go_at_call 14; refine (HV2.out _ (by first | exact HD.out | exact hg)).mono ?_; rintro e w' ⟨rfl, hg⟩; have hgg := hg; obtain ⟨_, g0, g1, gx, gy, g2, gg⟩ := hgg)
              refine wpAny_take (i := 26) (v := ?_) rfl (by kernel_rfl) (by kernel_rfl) (by kernel_rfl) (fun _ _ _ h => h) (Or.inl ⟨by kernel_rfl, ?_⟩) ?_
              rotate_left 1
              · (intro w; first | (go_simp; done) | (go_simp; with_reducible rfl))
              change wpAny _ _ _ _ _ _ (Act.put _ (some 83) _) _
              refine wpAny_take (i := 27) (v := ?_) rfl (by kernel_rfl) (by kernel_rfl) (by kernel_rfl) (fun _ _ _ h => h) (Or.inl ⟨by kernel_rfl, ?_⟩) ?_
              rotate_left 1
              · (intro w; first | (go_simp; done) | (go_simp; with_reducible rfl))
              change wpAny _ _ _ _ _ _ (Act.put _ (some 84) _) _
              refine wpAny_take (i := 28) (v := ?_) rfl (by kernel_rfl) (by kernel_rfl) (by kernel_rfl) (fun _ _ _ h => h) (Or.inl ⟨by kernel_rfl, ?_⟩) ?_
              rotate_left 1
              · (intro w; first | (go_simp; done) | (go_simp; with_reducible rfl))
              change wpAny _ _ _ _ _ _ (Act.put _ (some 85) _) _
              refine wpAny_take (i := 29) (v := ?_) rfl (by kernel_rfl) (by kernel_rfl) (by kernel_rfl) (fun _ _ _ h => h) (Or.inl ⟨by kernel_rfl, ?_⟩) ?_
              rotate_left 1
              · (intro w; first | (go_simp; done) | (go_simp; with_reducible rfl))
              change wpAny _ _ _ _ _ _ (Act.put _ (some 8) _) _
              refine wpAny_done (by kernel_rfl) ?_ _
              go_simp
              go_wp2
              exact HPQ.out _ hg
            refine AllReady.cons rfl (fun K hK => ?_) AllReady.nil
            go_simp
            refine hK _ _ ?_
            clear hK K
            refine wpAny_ready (rs := [14]) (by kernel_rfl) (by simp) ?_
            refine AllReady.cons rfl (fun K hK => ?_) AllReady.nil
            go_simp
            refine hK _ _ ?_
            clear hK K
            refine wpAny_ready (rs := [19]) (by kernel_rfl) (by simp) ?_
            refine AllReady.cons rfl (fun K hK => ?_) AllReady.nil
            go_simp
            go_wp2_with (go_at_call 14; refine (HV1.out _ (by first | exact HD.out | exact hg)).mono ?_; rintro e w' ⟨rfl, hg⟩; have hgg := hg; obtain ⟨_, g0, g1, gx, gy, g2, gg⟩ := hgg)
            refine wpAny_ready (rs := [25]) (by kernel_rfl) (by simp) ?_
            refine AllReady.cons rfl (fun K hK => ?_) AllReady.nil
            go_simp
            go_wp2_with (go_at_call 14; refine (HV2.out _ (by first | exact HD.out | exact hg)).mono ?_; rintro e w' ⟨rfl, hg⟩; have hgg := hg; obtain ⟨_, g0, g1, gx, gy, g2, gg⟩ := hgg)
            refine wpAny_take (i := 26) (v := ?_) rfl (by kernel_rfl) (by kernel_rfl) (by kernel_rfl) (fun _ _ _ h => h) (Or.inl ⟨by kernel_rfl, ?_⟩) ?_
            rotate_left 1
            · (intro w; first | (go_simp; done) | (go_simp; with_reducible rfl))
            change wpAny _ _ _ _ _ _ (Act.put _ (some 83) _) _
            refine wpAny_take (i := 27) (v := ?_) rfl (by kernel_rfl) (by kernel_rfl) (by kernel_rfl) (fun _ _ _ h => h) (Or.inl ⟨by kernel_rfl, ?_⟩) ?_
            rotate_left 1
            · (intro w; first | (go_simp; done) | (go_simp; with_reducible rfl))
            change wpAny _ _ _ _ _ _ (Act.put _ (some 84) _) _
            refine wpAny_take (i := 28) (v := ?_) rfl (by kernel_rfl) (by kernel_rfl) (by kernel_rfl) (fun _ _ _ h => h) (Or.inl ⟨by kernel_rfl, ?_⟩) ?_
            rotate_left 1
            · (intro w; first | (go_simp; done) | (go_simp; with_reducible rfl))
            change wpAny _ _ _ _ _ _ (Act.put _ (some 85) _) _
            refine wpAny_take (i := 29) (v := ?_) rfl (by kernel_rfl) (by kernel_rfl) (by kernel_rfl) (fun _ _ _ h => h) (Or.inl ⟨by kernel_rfl, ?_⟩) ?_
            rotate_left 1
            · (intro w; first | (go_simp; done) | (go_simp; with_reducible rfl))
            change wpAny _ _ _ _ _ _ (Act.put _ (some 8) _) _
            refine wpAny_done (by kernel_rfl) ?_ _
            go_simp
            go_wp2
            exact HPQ.out _ hg
          refine AllReady.cons rfl (fun K hK => ?_) AllReady.nil
          go_simp
          refine hK _ _ ?_
          clear hK K
          refine wpAny_ready (rs := [6]) (by kernel_rfl) (by simp) ?_
          refine AllReady.cons rfl (fun K hK => ?_) AllReady.nil
          go_simp
          refine hK _ _ ?_
          clear hK K
          refine wpAny_take (i := 12) (v := ?_) rfl (by kernel_rfl) (by kernel_rfl) (by kernel_rfl) (fun _ _ _ h => h) (Or.inl ⟨by kernel_rfl, ?_⟩) ?_
          rotate_left 1
          · (intro w; first | (go_simp; done) | (go_simp; with_reducible rfl))
          change wpAny _ _ _ _ _ _ (Act.put _ (some 69) _) _
          refine wpAny_take (i := 13) (v := ?_) rfl (by kernel_rfl) (by kernel_rfl) (by kernel_rfl) (fun _ _ _ h => h) (Or.inl ⟨by kernel_rfl, ?_⟩) ?_
          rotate_left 1
          · (intro w; first | (go_simp; done) | (go_simp; with_reducible rfl))
          change wpAny _ _ _ _ _ _ (Act.put _ (some 70) _) _
          refine wpAny_take (i := 15) (v := ?_) rfl (by kernel_rfl) (by kernel_rfl) (by kernel_rfl) (fun _ _ _ h => h) (Or.inl ⟨by kernel_rfl, ?_⟩) ?_
          rotate_left 1
          · (intro w; first | (go_simp; done) | (go_simp; with_reducible rfl))
          change wpAny _ _ _ _ _ _ (Act.put _ (some 72) _) _
          refine wpAny_take (i := 16) (v := ?_) rfl (by kernel_rfl) (by kernel_rfl) (by kernel_rfl) (fun _ _ _ h => h) (Or.inl ⟨by kernel_rfl, ?_⟩) ?_
          rotate_left 1
          · (intro w; first | (go_simp; done) | (go_simp; with_reducible rfl))
          change wpAny _ _ _ _ _ _ (Act.put _ (some 73) _) _
          refine wpAny_take (i := 17) (v := ?_) rfl (by kernel_rfl) (by kernel_rfl) (by kernel_rfl) (fun _ _ _ h => h) (Or.inl ⟨by kernel_rfl, ?_⟩) ?_
          rotate_left 1
          · (intro w; first | (go_simp; done) | (go_simp; with_reducible rfl))
          change wpAny _ _ _ _ _ _ (Act.put _ (some 74) _) _
          refine wpAny_take (i := 18) (v := ?_) rfl (by kernel_rfl) (by kernel_rfl) (by kernel_rfl) (fun _ _ _ h => h) (Or.inl ⟨by kernel_rfl, ?_⟩) ?_
          rotate_left 1
          · (intro w; first | (go_simp; done) | (go_simp; with_reducible rfl))
          change wpAny _ _ _ _ _ _ (Act.put _ (some 75) _) _
          refine wpAny_take (i := 21) (v := ?_) rfl (by kernel_rfl) (by kernel_rfl) (by kernel_rfl) (fun _ _ _ h => h) (Or.inl ⟨by kernel_rfl, ?_⟩) ?_
          rotate_left 1
          · (intro w; first | (go_simp; done) | (go_simp; with_reducible rfl))
          change wpAny _ _ _ _ _ _ (Act.put _ (some 78) _) _
          refine wpAny_take (i := 22) (v := ?_) rfl (by kernel_rfl) (by kernel_rfl) (by kernel_rfl) (fun _ _ _ h => h) (Or.inl ⟨by kernel_rfl, ?_⟩) ?_
          rotate_left 1
          · (intro w; first | (go_simp; done) | (go_simp; with_reducible rfl))
          change wpAny _ _ _ _ _ _ (Act.put _ (some 79) _) _
          refine wpAny_take (i := 23) (v := ?_) rfl (by kernel_rfl) (by kernel_rfl) (by kernel_rfl) (fun _ _ _ h => h) (Or.inl ⟨by kernel_rfl, ?_⟩) ?_
          rotate_left 1
          · (intro w; first | (go_simp; done) | (go_simp; with_reducible rfl))
          change wpAny _ _ _ _ _ _ (Act.put _ (some 80) _) _
          refine wpAny_take (i := 24) (v := ?_) rfl (by kernel_rfl) (by kernel_rfl) (by kernel_rfl) (fun _ _ _ h => h) (Or.inl ⟨by kernel_rfl, ?_⟩) ?_
          rotate_left 1
          · (intro w; first | (go_simp; done) | (go_simp; with_reducible rfl))
          change wpAny _ _ _ _ _ _ (Act.put _ (some 81) _) _
          refine wpAny_ready (rs := [14, 20]) (by kernel_rfl) (by simp) ?_
          refine AllReady.cons rfl (fun K hK => ?_) ?_
          focus
            go_simp
            refine hK _ _ ?_
            clear hK K
            refine wpAny_ready (rs := [19, 20]) (by kernel_rfl) (by simp) ?_
            refine AllReady.cons rfl (fun K hK => ?_) ?_
            focus
              go_simp
              go_wp2_with (go_at_call 14; refine (HV1.out _ (by first | exact HD.out | exact hg)).mono ?_; rintro e w' ⟨rfl, hg⟩; have hgg := hg; obtain ⟨_, g0, g1, gx, gy, g2, gg⟩ := hgg)
              refine wpAny_ready (rs := [20]) (by kernel_rfl) (by simp) ?_
              refine AllReady.cons rfl (fun K hK => ?_) AllReady.nil
              go_simp
              refine hK _ _ ?_
              clear hK K
              refine wpAny_ready (rs := [25]) (by kernel_rfl) (by simp) ?_
              refine AllReady.cons rfl (fun K hK => ?_) AllReady.nil
              go_simp
              go_wp2_with (go_at_call 14; refine (HV2.out _ (by first | exact HD.out | exact hg)).mono ?_; rintro e w' ⟨rfl, hg⟩; have hgg := hg; obtain ⟨_, g0, g1, gx, gy, g2, gg⟩ := hgg)
              refine wpAny_take (i := 26) (v := ?_) rfl (by kernel_rfl) (by kernel_rfl) (by kernel_rfl) (fun _ _ _ h => h) (Or.inl ⟨by kernel_rfl, ?_⟩) ?_
              rotate_left 1
              · (intro w; first | (go_simp; done) | (go_simp; with_reducible rfl))
              change wpAny _ _ _ _ _ _ (Act.put _ (some 83) _) _
              refine wpAny_take (i := 27) (v := ?_) rfl (by kernel_rfl) (by kernel_rfl) (by kernel_rfl) (fun _ _ _ h => h) (Or.inl ⟨by kernel_rfl, ?_⟩) ?_
              rotate_left 1
              · (intro w; first | (go_simp; done) | (go_simp; with_reducible rfl))
              change wpAny _ _ _ _ _ _ (Act.put _ (some 84) _) _
              refine wpAny_take (i := 28) (v := ?_) rfl (by kernel_rfl) (by kernel_rfl) (by kernel_rfl) (fun _ _ _ h => h) (Or.inl ⟨by kernel_rfl, ?_⟩) ?_
              rotate_left 1
              · (intro w; first | (go_simp; done) | (go_simp; with_reducible rfl))
              change wpAny _ _ _ _ _ _ (Act.put _ (some 85) _) _
              refine wpAny_take (i := 29) (v := ?_) rfl (by kernel_rfl) (by kernel_rfl) (by kernel_rfl) (fun _ _ _ h => h) (Or.inl ⟨by kernel_rfl, ?_⟩) ?_
              rotate_left 1
              · (intro w; first | (go_simp; done) | (go_simp; with_reducible rfl))
              change wpAny _ _ _ _ _ _ (Act.put _ (some 8) _) _
              refine wpAny_done (by kernel_rfl) ?_ _
              go_simp
              go_wp2
              exact HPQ.out _ hg
            refine AllReady.cons rfl (fun K hK => ?_) AllReady.nil
            go_simp
            refine hK _ _ ?_
            clear hK K
            refine wpAny_ready (rs := [19]) (by kernel_rfl) (by simp) ?_
            refine AllReady.cons rfl (fun K hK => ?_) AllReady.nil
            go_simp
            go_wp2_with (go_at_call 14; refine (HV1.out _ (by first | exact HD.out | exact hg)).mono ?_; rintro e w' ⟨rfl, hg⟩; have hgg := hg; obtain ⟨_, g0, g1, gx, gy, g2, gg⟩ := hgg)
            refine wpAny_ready (rs := [25]) (by kernel_rfl) (by simp) ?_
            refine AllReady.cons rfl (fun K hK => ?_) AllReady.nil
            go_simp
            go_wp2_with (go_at_call 14; refine (HV2.out _ (by first | exact HD.out | exact hg)).mono ?_; rintro e w' ⟨rfl, hg⟩; have hgg := hg; obtain ⟨_, g0, g1, gx, gy, g2, gg⟩ := hgg)
            refine wpAny_take (i := 26) (v := ?_) rfl (by kernel_rfl) (by kernel_rfl) (by kernel_rfl) (fun _ _ _ h => h) (Or.inl ⟨by kernel_rfl, ?_⟩) ?_
            rotate_left 1
            · (intro w; first | (go_simp; done) | (go_simp; with_reducible rfl))
            change wpAny _ _ _ _ _ _ (Act.put _ (some 83) _) _
            refine wpAny_take (i := 27) (v := ?_) rfl (by kernel_rfl) (by kernel_rfl) (by kernel_rfl) (fun _ _ _ h => h) (Or.inl ⟨by kernel_rfl, ?_⟩) ?_
            rotate_left 1
            · (intro w; first | (go_simp; done) | (go_simp; with_reducible rfl))
            change wpAny _ _ _ _ _ _ (Act.put _ (some 84) _) _
            refine wpAny_take (i := 28) (v := ?_) rfl (by kernel_rfl) (by kernel_rfl) (by kernel_rfl) (fun _ _ _ h => h) (Or.inl ⟨by kernel_rfl, ?_⟩) ?_
            rotate_left 1
            · (intro w; first | (go_simp; done) | (go_simp; with_reducible rfl))
            change wpAny _ _ _ _ _ _ (Act.put _ (some 85) _) _
            refine wpAny_take (i := 29) (v := ?_) rfl (by kernel_rfl) (by kernel_rfl) (by kernel_rfl) (fun _ _ _ h => h) (Or.inl ⟨by kernel_rfl, ?_⟩) ?_
            rotate_left 1
            · (intro w; first | (go_simp; done) | (go_simp; with_reducible rfl))
            change wpAny _ _ _ _ _ _ (Act.put _ (some 8) _) _
            refine wpAny_done (by kernel_rfl) ?_ _
            go_simp
            go_wp2
            exact HPQ.out _ hg
          refine AllReady.cons rfl (fun K hK => ?_) AllReady.nil
          go_simp
          refine hK _ _ ?_
          clear hK K
          refine wpAny_ready (rs := [14]) (by kernel_rfl) (by simp) ?_
          refine AllReady.cons rfl (fun K hK => ?_) AllReady.nil
          go_simp
          refine hK _ _ ?_
          clear hK K
          refine wpAny_ready (rs := [19]) (by kernel_rfl) (by simp) ?_
          refine AllReady.cons rfl (fun K hK => ?_) AllReady.nil
          go_simp
          go_wp2_with (go_at_call 14; refine (HV1.out _ (by first | exact HD.out | exact hg)).mono ?_; rintro e w' ⟨rfl, hg⟩; have hgg := hg; obtain ⟨_, g0, g1, gx, gy, g2, gg⟩ := hgg)
          refine wpAny_ready (rs := [25]) (by kernel_rfl) (by simp) ?_
          refine AllReady.cons rfl (fun K hK => ?_) AllReady.nil
          go_simp
          go_wp2_with (go_at_call 14; refine (HV2.out _ (by first | exact HD.out | exact hg)).mono ?_; rintro e w' ⟨rfl, hg⟩; have hgg := hg; obtain ⟨_, g0, g1, gx, gy, g2, gg⟩ := hgg)
          refine wpAny_take (i := 26) (v := ?_) rfl (by kernel_rfl) (by kernel_rfl) (by kernel_rfl) (fun _ _ _ h => h) (Or.inl ⟨by kernel_rfl, ?_⟩) ?_
          rotate_left 1
          · (intro w; first | (go_simp; done) | (go_simp; with_reducible rfl))
          change wpAny _ _ _ _ _ _ (Act.put _ (some 83) _) _
          refine wpAny_take (i := 27) (v := ?_) rfl (by kernel_rfl) (by kernel_rfl) (by kernel_rfl) (fun _ _ _ h => h) (Or.inl ⟨by kernel_rfl, ?_⟩) ?_
          rotate_left 1
          · (intro w; first | (go_simp; done) | (go_simp; with_reducible rfl))
          change wpAny _ _ _ _ _ _ (Act.put _ (some 84) _) _
          refine wpAny_take (i := 28) (v := ?_) rfl (by kernel_rfl) (by kernel_rfl) (by kernel_rfl) (fun _ _ _ h => h) (Or.inl ⟨by kernel_rfl, ?_⟩) ?_
          rotate_left 1
          · (intro w; first | (go_simp; done) | (go_simp; with_reducible rfl))
          change wpAny _ _ _ _ _ _ (Act.put _ (some 85) _) _
          refine wpAny_take (i := 29) (v := ?_) rfl (by kernel_rfl) (by kernel_rfl) (by kernel_rfl) (fun _ _ _ h => h) (Or.inl ⟨by kernel_rfl, ?_⟩) ?_
          rotate_left 1
          · (intro w; first | (go_simp; done) | (go_simp; with_reducible rfl))
          change wpAny _ _ _ _ _ _ (Act.put _ (some 8) _) _
          refine wpAny_done (by kernel_rfl) ?_ _
          go_simp
          go_wp2
          exact HPQ.out _ hg
        refine AllReady.cons rfl (fun K hK => ?_) AllReady.nil
        go_simp
        refine hK _ _ ?_
        clear hK K
        refine wpAny_take (i := 10) (v := ?_) rfl (by kernel_rfl) (by kernel_rfl) (by kernel_rfl) (fun _ _ _ h => h) (Or.inl ⟨by kernel_rfl, ?_⟩) ?_
        rotate_left 1
        · (intro w; first | (go_simp; done) | (go_simp; with_reducible rfl))
        change wpAny _ _ _ _ _ _ (Act.put _ (some 67) _) _
        refine wpAny_ready (rs := [3, 11]) (by kernel_rfl) (by simp) ?_
        refine AllReady.cons rfl (fun K hK => ?_) ?_
        focus
          go_simp
          refine hK _ _ ?_
          clear hK K
          refine wpAny_take (i := 5) (v := ?_) rfl (by kernel_rfl) (by kernel_rfl) (by kernel_rfl) (fun _ _ _ h => h) (Or.inl ⟨by kernel_rfl, ?_⟩) ?_
          rotate_left 1
          · (intro w; first | (go_simp; done) | (go_simp; with_reducible rfl))
          change wpAny _ _ _ _ _ _ (Act.put _ (some 62) _) _
          refine wpAny_ready (rs := [6, 11]) (by kernel_rfl) (by simp) ?_
          refine AllReady.cons rfl (fun K hK => ?_) ?_
          focus
            go_simp
            refine hK _ _ ?_
            clear hK K
            refine wpAny_ready (rs := [11]) (by kernel_rfl) (by simp) ?_
            refine AllReady.cons rfl (fun K hK => ?_) AllReady.nil
            go_simp
            refine hK _ _ ?_
            clear hK K
            refine wpAny_take (i := 12) (v := ?_) rfl (by kernel_rfl) (by kernel_rfl) (by kernel_rfl) (fun _ _ _ h => h) (Or.inl ⟨by kernel_rfl, ?_⟩) ?_
            rotate_left 1
            · (intro w; first | (go_simp; done) | (go_simp; with_reducible rfl))
            change wpAny _ _ _ _ _ _ (Act.put _ (some 69) _) _
            refine wpAny_take (i := 13) (v := ?_) rfl (by kernel_rfl) (by kernel_rfl) (by kernel_rfl) (fun _ _ _ h => h) (Or.inl ⟨by kernel_rfl, ?_⟩) ?_
            rotate_left 1
            · (intro w; first | (go_simp; done) | (go_simp; with_reducible rfl))
            change wpAny _ _ _ _ _ _ (Act.put _ (some 70) _) _
            refine wpAny_take (i := 15) (v := ?_) rfl (by kernel_rfl) (by kernel_rfl) (by kernel_rfl) (fun _ _ _ h => h) (Or.inl ⟨by kernel_rfl, ?_⟩) ?_
            rotate_left 1
            · (intro w; first | (go_simp; done) | (go_simp; with_reducible rfl))
            change wpAny _ _ _ _ _ _ (Act.put _ (some 72) _) _
            refine wpAny_take (i := 16) (v := ?_) rfl (by kernel_rfl) (by kernel_rfl) (by kernel_rfl) (fun _ _ _ h => h) (Or.inl ⟨by kernel_rfl, ?_⟩) ?_
            rotate_left 1
            · (intro w; first | (go_simp; done) | (go_simp; with_reducible rfl))
            change wpAny _ _ _ _ _ _ (Act.put _ (some 73) _) _
            refine wpAny_take (i := 17) (v := ?_) rfl (by kernel_rfl) (by kernel_rfl) (by kernel_rfl) (fun _ _ _ h => h) (Or.inl ⟨by kernel_rfl, ?_⟩) ?_
            rotate_left 1
            · (intro w; first | (go_simp; done) | (go_simp; with_reducible rfl))
            change wpAny _ _ _ _ _ _ (Act.put _ (some 74) _) _
            refine wpAny_take (i := 18) (v := ?_) rfl (by kernel_rfl) (by kernel_rfl) (by kernel_rfl) (fun _ _ _ h => h) (Or.inl ⟨by kernel_rfl, ?_⟩) ?_
            rotate_left 1
            · (intro w; first | (go_simp; done) | (go_simp; with_reducible rfl))
            change wpAny _ _ _ _ _ _ (Act.put _ (some 75) _) _
            refine wpAny_take (i := 21) (v := ?_) rfl (by kernel_rfl) (by kernel_rfl) (by kernel_rfl) (fun _ _ _ h => h) (Or.inl ⟨by kernel_rfl, ?_⟩) ?_
            rotate_left 1
            · (intro w; first | (go_simp; done) | (go_simp; with_reducible rfl))
            change wpAny _ _ _ _ _ _ (Act.put _ (some 78) _) _
            refine wpAny_take (i := 22) (v := ?_) rfl (by kernel_rfl) (by kernel_rfl) (by kernel_rfl) (fun _ _ _ h => h) (Or.inl ⟨by kernel_rfl, ?_⟩) ?_
            rotate_left 1
            · (intro w; first | (go_simp; done) | (go_simp; with_reducible rfl))
            change wpAny _ _ _ _ _ _ (Act.put _ (some 79) _) _
            refine wpAny_take (i := 23) (v := ?_) rfl (by kernel_rfl) (by kernel_rfl) (by kernel_rfl) (fun _ _ _ h => h) (Or.inl ⟨by kernel_rfl, ?_⟩) ?_
            rotate_left 1
            · (intro w; first | (go_simp; done) | (go_simp; with_reducible rfl))
            change wpAny _ _ _ _ _ _ (Act.put _ (some 80) _) _
            refine wpAny_take (i := 24) (v := ?_) rfl (by kernel_rfl) (by kernel_rfl) (by kernel_rfl) (fun _ _ _ h => h) (Or.inl ⟨by kernel_rfl, ?_⟩) ?_
            rotate_left 1
            · (intro w; first | (go_simp; done) | (go_simp; with_reducible rfl))
            change wpAny _ _ _ _ _ _ (Act.put _ (some 81) _) _
            refine wpAny_ready (rs := [14, 20]) (by kernel_rfl) (by simp) ?_
            refine AllReady.cons rfl (fun K hK => ?_) ?_
            focus
              go_simp
              refine hK _ _ ?_
              clear hK K
              refine wpAny_ready (rs := [19, 20]) (by kernel_rfl) (by simp) ?_
              refine AllReady.cons rfl (fun K hK => ?_) ?_
              focus
                go_simp
                go_wp2_with (go_at_call 14; refine (HV1.out _ (by first | exact HD.out | exact hg)).mono ?_; rintro e w' ⟨rfl, hg⟩; have hgg := hg; obtain ⟨_, g0, g1, gx, gy, g2, gg⟩ := hgg)
                refine wpAny_ready (rs := [20]) (by kernel_rfl) (by simp) ?_
                refine AllReady.cons rfl (fun K hK => ?_) AllReady.nil
                go_simp
                refine hK _ _ ?_
                clear hK K
                refine wpAny_ready (rs := [25]) (by kernel_rfl) (by simp) ?_
                refine AllReady.cons rfl (fun K hK => ?_) AllReady.nil
                go_simp
                go_wp2_with (go_at_call 14; refine (HV2.out _ (by first | exact HD.out | exact hg)).mono ?_; rintro e w' ⟨rfl, hg⟩; have hgg := hg; obtain ⟨_, g0, g1, gx, gy, g2, gg⟩ := hgg)
                refine wpAny_take (i := 26) (v := ?_) rfl (by kernel_rfl) (by kernel_rfl) (by kernel_rfl) (fun _ _ _ h => h) (Or.inl ⟨by kernel_rfl, ?_⟩) ?_
                rotate_left 1
                · (intro w; first | (go_simp; done) | (go_simp; with_reducible rfl))
                change wpAny _ _ _ _ _ _ (Act.put _ (some 83) _) _
                refine wpAny_take (i := 27) (v := ?_) rfl (by kernel_rfl) (by kernel_rfl) (by kernel_rfl) (fun _ _ _ h => h) (Or.inl ⟨by kernel_rfl, ?_⟩) ?_
                rotate_left 1
                · (intro w; first | (go_simp; done) | (go_simp; with_reducible rfl))
                change wpAny _ _ _ _ _ _ (Act.put _ (some 84) _) _
                refine wpAny_take (i := 28) (v := ?_) rfl (by kernel_rfl) (by kernel_rfl) (by kernel_rfl) (fun _ _ _ h => h) (Or.inl ⟨by kernel_rfl, ?_⟩) ?_
                rotate_left 1
                · (intro w; first | (go_simp; done) | (go_simp; with_reducible rfl))
                change wpAny _ _ _ _ _ _ (Act.put _ (some 85) _) _
                refine wpAny_take (i := 29) (v := ?_) rfl (by kernel_rfl) (by kernel_rfl) (by kernel_rfl) (fun _ _ _ h => h) (Or.inl ⟨by kernel_rfl, ?_⟩) ?_
                rotate_left 1
                · (intro w; first | (go_simp; done) | (go_simp; with_reducible rfl))
                change wpAny _ _ _ _ _ _ (Act.put _ (some 8) _) _
                refine wpAny_done (by kernel_rfl) ?_ _
                go_simp
                go_wp2
                exact HPQ.out _ hg
              refine AllReady.cons rfl (fun K hK => ?_) AllReady.nil
              go_simp
              refine hK _ _ ?_
              clear hK K
              refine wpAny_ready (rs := [19]) (by kernel_rfl) (by simp) ?_
              refine AllReady.cons rfl (fun K hK => ?_) AllReady.nil
              go_simp
              go_wp2_with (go_at_call 14; refine (HV1.out _ (by first | exact HD.out | exact hg)).mono ?_; rintro e w' ⟨rfl, hg⟩; have hgg := hg; obtain ⟨_, g0, g1, gx, gy, g2, gg⟩ := hgg)
              refine wpAny_ready (rs := [25]) (by kernel_rfl) (by simp) ?_
              refine AllReady.cons rfl (fun K hK => ?_) AllReady.nil
              go_simp
              go_wp2_with (go_at_call 14; refine (HV2.out _ (by first | exact HD.out | exact hg)).mono ?_; rintro e w' ⟨rfl, hg⟩; have hgg := hg; obtain ⟨_, g0, g1, gx, gy, g2, gg⟩ := hgg)
              refine wpAny_take (i := 26) (v := ?_) rfl (by kernel_rfl) (by kernel_rfl) (by kernel_rfl) (fun _ _ _ h => h) (Or.inl ⟨by kernel_rfl, ?_⟩) ?_
              rotate_left 1
              · (intro w; first | (go_simp; done) | (go_simp; with_reducible rfl))
              change wpAny _ _ _ _ _ _ (Act.put _ (some 83) _) _
              refine wpAny_take (i := 27) (v := ?_) rfl (by kernel_rfl) (by kernel_rfl) (by kernel_rfl) (fun _ _ _ h => h) (Or.inl ⟨by kernel_rfl, ?_⟩) ?_
              rotate_left 1
              · (intro w; first | (go_simp; done) | (go_simp; with_reducible rfl))
              change wpAny _ _ _ _ _ _ (Act.put _ (some 84) _) _
              refine wpAny_take (i := 28) (v := ?_) rfl (by kernel_rfl) (by kernel_rfl) (by kernel_rfl) (fun _ _ _ h => h) (Or.inl ⟨by kernel_rfl, ?_⟩) ?_
              rotate_left 1
              · (intro w; first | (go_simp; done) | (go_simp; with_reducible rfl))
              change wpAny _ _ _ _ _ _ (Act.put _ (some 85) _) _
              refine wpAny_take (i := 29) (v := ?_) rfl (by kernel_rfl) (by kernel_rfl) (by kernel_rfl) (fun _ _ _ h => h) (Or.inl ⟨by kernel_rfl, ?_⟩) ?_
              rotate_left 1
              · (intro w; first | (go_simp; done) | (go_simp; with_reducible rfl))
              change wpAny _ _ _ _ _ _ (Act.put _ (some 8) _) _
              refine wpAny_done (by kernel_rfl) ?_ _
              go_simp
              go_wp2
              exact HPQ.out _ hg
            refine AllReady.cons rfl (fun K hK => ?_) AllReady.nil
            go_simp
            refine hK _ _ ?_
            clear hK K
            refine wpAny_ready (rs := [14]) (by kernel_rfl) (by simp) ?_
            refine AllReady.cons rfl (fun K hK => ?_) AllReady.nil
            go_simp
            refine hK _ _ ?_
            clear hK K
            refine wpAny_ready (rs := [19]) (by kernel_rfl) (by simp) ?_
            refine AllReady.cons rfl (fun K hK => ?_) AllReady.nil
            go_simp
            go_wp2_with (go_at_call 14; refine (HV1.out _ (by first | exact HD.out | exact hg)).mono ?_; rintro e w' ⟨rfl, hg⟩; have hgg := hg; obtain ⟨_, g0, g1, gx, gy, g2, gg⟩ := hgg)
            refine wpAny_ready (rs := [25]) (by kernel_rfl) (by simp) ?_
            refine AllReady.cons rfl (fun K hK => ?_) AllReady.nil
            go_simp
            go_wp2_with (go_at_call 14; refine (HV2.out _ (by first | exact HD.out | exact hg)).mono ?_; rintro e w' ⟨rfl, hg⟩; have hgg := hg; obtain ⟨_, g0, g1, gx, gy, g2, gg⟩ := hgg)
            refine wpAny_take (i := 26) (v := ?_) rfl (by kernel_rfl) (by kernel_rfl) (by kernel_rfl) (fun _ _ _ h => h) (Or.inl ⟨by kernel_rfl, ?_⟩) ?_
            rotate_left 1
            · (intro w; first | (go_simp; done) | (go_simp; with_reducible rfl))
            change wpAny _ _ _ _ _ _ (Act.put _ (some 83) _) _
            refine wpAny_take (i := 27) (v := ?_) rfl (by kernel_rfl) (by kernel_rfl) (by kernel_rfl) (fun _ _ _ h => h) (Or.inl ⟨by kernel_rfl, ?_⟩) ?_
            rotate_left 1
            · (intro w; first | (go_simp; done) | (go_simp; with_reducible rfl))
            change wpAny _ _ _ _ _ _ (Act.put _ (some 84) _) _
            refine wpAny_take (i := 28) (v := ?_) rfl (by kernel_rfl) (by kernel_rfl) (by kernel_rfl) (fun _ _ _ h => h) (Or.inl ⟨by kernel_rfl, ?_⟩) ?_
            rotate_left 1
            · (intro w; first | (go_simp; done) | (go_simp; with_reducible rfl))
            change wpAny _ _ _ _ _ _ (Act.put _ (some 85) _) _
            refine wpAny_take (i := 29) (v := ?_) rfl (by kernel_rfl) (by kernel_rfl) (by kernel_rfl) (fun _ _ _ h => h) (Or.inl ⟨by kernel_rfl, ?_⟩) ?_
            rotate_left 1
            · (intro w; first | (go_simp; done) | (go_simp; with_reducible rfl))
            change wpAny _ _ _ _ _ _ (Act.put _ (some 8) _) _
            refine wpAny_done (by kernel_rfl) ?_ _
            go_simp
            go_wp2
            exact HPQ.out _ hg
          refine AllReady.cons rfl (fun K hK => ?_) AllReady.nil
          go_simp
          refine hK _ _ ?_
          clear hK K
          refine wpAny_ready (rs := [6]) (by kernel_rfl) (by simp) ?_
          refine AllReady.cons rfl (fun K hK => ?_) AllReady.nil
          go_simp
          refine hK _ _ ?_
          clear hK K
          refine wpAny_take (i := 12) (v := ?_) rfl (by kernel_rfl) (by kernel_rfl) (by kernel_rfl) (fun _ _ _ h => h) (Or.inl ⟨by kernel_rfl, ?_⟩) ?_
          rotate_left 1
          · (intro w; first | (go_simp; done) | (go_simp; with_reducible rfl))
          change wpAny _ _ _ _ _ _ (Act.put _ (some 69) _) _
          refine wpAny_take (i := 13) (v := ?_) rfl (by kernel_rfl) (by kernel_rfl) (by kernel_rfl) (fun _ _ _ h => h) (Or.inl ⟨by kernel_rfl, ?_⟩) ?_
          rotate_left 1
          · (intro w; first | (go_simp; done) | (go_simp; with_reducible rfl))
          change wpAny _ _ _ _ _ _ (Act.put _ (some 70) _) _
          refine wpAny_take (i := 15) (v := ?_) rfl (by kernel_rfl) (by kernel_rfl) (by kernel_rfl) (fun _ _ _ h => h) (Or.inl ⟨by kernel_rfl, ?_⟩) ?_
          rotate_left 1
          · (intro w; first | (go_simp; done) | (go_simp; with_reducible rfl))
          change wpAny _ _ _ _ _ _ (Act.put _ (some 72) _) _
          refine wpAny_take (i := 16) (v := ?_) rfl (by kernel_rfl) (by kernel_rfl) (by kernel_rfl) (fun _ _ _ h => h) (Or.inl ⟨by kernel_rfl, ?_⟩) ?_
          rotate_left 1
          · (intro w; first | (go_simp; done) | (go_simp; with_reducible rfl))
          change wpAny _ _ _ _ _ _ (Act.put _ (some 73) _) _
          refine wpAny_take (i := 17) (v := ?_) rfl (by kernel_rfl) (by kernel_rfl) (by kernel_rfl) (fun _ _ _ h => h) (Or.inl ⟨by kernel_rfl, ?_⟩) ?_
          rotate_left 1
          · (intro w; first | (go_simp; done) | (go_simp; with_reducible rfl))
          change wpAny _ _ _ _ _ _ (Act.put _ (some 74) _) _
          refine wpAny_take (i := 18) (v := ?_) rfl (by kernel_rfl) (by kernel_rfl) (by kernel_rfl) (fun _ _ _ h => h) (Or.inl ⟨by kernel_rfl, ?_⟩) ?_
          rotate_left 1
          · (intro w; first | (go_simp; done) | (go_simp; with_reducible rfl))
          change wpAny _ _ _ _ _ _ (Act.put _ (some 75) _) _
          refine wpAny_take (i := 21) (v := ?_) rfl (by kernel_rfl) (by kernel_rfl) (by kernel_rfl) (fun _ _ _ h => h) (Or.inl ⟨by kernel_rfl, ?_⟩) ?_
          rotate_left 1
          · (intro w; first | (go_simp; done) | (go_simp; with_reducible rfl))
          change wpAny _ _ _ _ _ _ (Act.put _ (some 78) _) _
          refine wpAny_take (i := 22) (v := ?_) rfl (by kernel_rfl) (by kernel_rfl) (by kernel_rfl) (fun _ _ _ h => h) (Or.inl ⟨by kernel_rfl, ?_⟩) ?_
          rotate_left 1
          · (intro w; first | (go_simp; done) | (go_simp; with_reducible rfl))
          change wpAny _ _ _ _ _ _ (Act.put _ (some 79) _) _
          refine wpAny_take (i := 23) (v := ?_) rfl (by kernel_rfl) (by kernel_rfl) (by kernel_rfl) (fun _ _ _ h => h) (Or.inl ⟨by kernel_rfl, ?_⟩) ?_
          rotate_left 1
          · (intro w; first | (go_simp; done) | (go_simp; with_reducible rfl))
          change wpAny _ _ _ _ _ _ (Act.put _ (some 80) _) _
          refine wpAny_take (i := 24) (v := ?_) rfl (by kernel_rfl) (by kernel_rfl) (by kernel_rfl) (fun _ _ _ h => h) (Or.inl ⟨by kernel_rfl, ?_⟩) ?_
          rotate_left 1
          · (intro w; first | (go_simp; done) | (go_simp; with_reducible rfl))
          change wpAny _ _ _ _ _ _ (Act.put _ (some 81) _) _
          refine wpAny_ready (rs := [14, 20]) (by kernel_rfl) (by simp) ?_
          refine AllReady.cons rfl (fun K hK => ?_) ?_
          focus
            go_simp
            refine hK _ _ ?_
            clear hK K
            refine wpAny_ready (rs := [19, 20]) (by kernel_rfl) (by simp) ?_
            refine AllReady.cons rfl (fun K hK => ?_) ?_
            focus
              go_simp
              go_wp2_with (go_at_call 14; refine (HV1.out _ (by first | exact HD.out | exact hg)).mono ?_; rintro e w' ⟨rfl, hg⟩; have hgg := hg; obtain ⟨_, g0, g1, gx, gy, g2, gg⟩ := hgg)
              refine wpAny_ready (rs := [20]) (by kernel_rfl) (by simp) ?_
              refine AllReady.cons rfl (fun K hK => ?_) AllReady.nil
              go_simp
              refine hK _ _ ?_
              clear hK K
              refine wpAny_ready (rs := [25]) (by kernel_rfl) (by simp) ?_
              refine AllReady.cons rfl (fun K hK => ?_) AllReady.nil
              go_simp
              go_wp2_with (go_at_call 14; refine (HV2.out _ (by first | exact HD.out | exact hg)).mono ?_; rintro e w' ⟨rfl, hg⟩; have hgg := hg; obtain ⟨_, g0, g1, gx, gy, g2, gg⟩ := hgg)
              refine wpAny_take (i := 26) (v := ?_) rfl (by kernel_rfl) (by kernel_rfl) (by kernel_rfl) (fun _ _ _ h => h) (Or.inl ⟨by kernel_rfl, ?_⟩) ?_
              rotate_left 1
              · (intro w; first | (go_simp; done) | (go_simp; with_reducible rfl))
              change wpAny _ _ _ _ _ _ (Act.put _ (some 83) _) _
              refine wpAny_take (i := 27) (v := ?_) rfl (by kernel_rfl) (by kernel_rfl) (by kernel_rfl) (fun _ _ _ h => h) (Or.inl ⟨by kernel_rfl, ?_⟩) ?_
              rotate_left 1
              · (intro w; first | (go_simp; done) | (go_simp; with_reducible rfl))
              change wpAny _ _ _ _ _ _ (Act.put _ (some 84) _) _
              refine wpAny_take (i := 28) (v := ?_) rfl (by kernel_rfl) (by kernel_rfl) (by kernel_rfl) (fun _ _ _ h => h) (Or.inl ⟨by kernel_rfl, ?_⟩) ?_
              rotate_left 1
              · (intro w; first | (go_simp; done) | (go_simp; with_reducible rfl))
              change wpAny _ _ _ _ _ _ (Act.put _ (some 85) _) _
              refine wpAny_take (i := 29) (v := ?_) rfl (by kernel_rfl) (by kernel_rfl) (by kernel_rfl) (fun _ _ _ h => h) (Or.inl ⟨by kernel_rfl, ?_⟩) ?_
              rotate_left 1
              · (intro w; first | (go_simp; done) | (go_simp; with_reducible rfl))
              change wpAny _ _ _ _ _ _ (Act.put _ (some 8) _) _
              refine wpAny_done (by kernel_rfl) ?_ _
              go_simp
              go_wp2
              exact HPQ.out _ hg
            refine AllReady.cons rfl (fun K hK => ?_) AllReady.nil
            go_simp
            refine hK _ _ ?_
            clear hK K
            refine wpAny_ready (rs := [19]) (by kernel_rfl) (by simp) ?_
            refine AllReady.cons rfl (fun K hK => ?_) AllReady.nil
            go_simp
            go_wp2_with (go_at_call 14; refine (HV1.out _ (by first | exact HD.out | exact hg)).mono ?_; rintro e w' ⟨rfl, hg⟩; have hgg := hg; obtain ⟨_, g0, g1, gx, gy, g2, gg⟩ := hgg)
            refine wpAny_ready (rs := [25]) (by kernel_rfl) (by simp) ?_
            refine AllReady.cons rfl (fun K hK => ?_) AllReady.nil
            go_simp
            go_wp2_with (go_at_call 14; refine (HV2.out _ (by first | exact HD.out | exact hg)).mono ?_; rintro e w' ⟨rfl, hg⟩; have hgg := hg; obtain ⟨_, g0, g1, gx, gy, g2, gg⟩ := hgg)
            refine wpAny_take (i := 26) (v := ?_) rfl (by kernel_rfl) (by kernel_rfl) (by kernel_rfl) (fun _ _ _ h => h) (Or.inl ⟨by kernel_rfl, ?_⟩) ?_
            rotate_left 1
            · (intro w; first | (go_simp; done) | (go_simp; with_reducible rfl))
            change wpAny _ _ _ _ _ _ (Act.put _ (some 83) _) _
            refine wpAny_take (i := 27) (v := ?_) rfl (by kernel_rfl) (by kernel_rfl) (by kernel_rfl) (fun _ _ _ h => h) (Or.inl ⟨by kernel_rfl, ?_⟩) ?_
            rotate_left 1
            · (intro w; first | (go_simp; done) | (go_simp; with_reducible rfl))
            change wpAny _ _ _ _ _ _ (Act.put _ (some 84) _) _
            refine wpAny_take (i := 28) (v := ?_) rfl (by kernel_rfl) (by kernel_rfl) (by kernel_rfl) (fun _ _ _ h => h) (Or.inl ⟨by kernel_rfl, ?_⟩) ?_
            rotate_left 1
            · (intro w; first | (go_simp; done) | (go_simp; with_reducible rfl))
            change wpAny _ _ _ _ _ _ (Act.put _ (some 85) _) _
            refine wpAny_take (i := 29) (v := ?_) rfl (by kernel_rfl) (by kernel_rfl) (by kernel_rfl) (fun _ _ _ h => h) (Or.inl ⟨by kernel_rfl, ?_⟩) ?_
            rotate_left 1
            · (intro w; first | (go_simp; done) | (go_simp; with_reducible rfl))
            change wpAny _ _ _ _ _ _ (Act.put _ (some 8) _) _
            refine wpAny_done (by kernel_rfl) ?_ _
            go_simp
            go_wp2
            exact HPQ.out _ hg
          refine AllReady.cons rfl (fun K hK => ?_) AllReady.nil
          go_simp
          refine hK _ _ ?_
          clear hK K
          refine wpAny_ready (rs := [14]) (by kernel_rfl) (by simp) ?_
          refine AllReady.cons rfl (fun K hK => ?_) AllReady.nil
          go_simp
          refine hK _ _ ?_
          clear hK K
          refine wpAny_ready (rs := [19]) (by kernel_rfl) (by simp) ?_
          refine AllReady.cons rfl (fun K hK => ?_) AllReady.nil
          go_simp
          go_wp2_with (go_at_call 14; refine (HV1.out _ (by first | exact HD.out | exact hg)).mono ?_; rintro e w' ⟨rfl, hg⟩; have hgg := hg; obtain ⟨_, g0, g1, gx, gy, g2, gg⟩ := hgg)
          refine wpAny_ready (rs := [25]) (by kernel_rfl) (by simp) ?_
          refine AllReady.cons rfl (fun K hK => ?_) AllReady.nil
          go_simp
          go_wp2_with (go_at_call 14; refine (HV2.out _ (by first | exact HD.out | exact hg)).mono ?_; rintro e w' ⟨rfl, hg⟩; have hgg := hg; obtain ⟨_, g0, g1, gx, gy, g2, gg⟩ := hgg)
          refine wpAny_take (i := 26) (v := ?_) rfl (by kernel_rfl) (by kernel_rfl) (by kernel_rfl) (fun _ _ _ h => h) (Or.inl ⟨by kernel_rfl, ?_⟩) ?_
          rotate_left 1
          · (intro w; first | (go_simp; done) | (go_simp; with_reducible rfl))
          change wpAny _ _ _ _ _ _ (Act.put _ (some 83) _) _
          refine wpAny_take (i := 27) (v := ?_) rfl (by kernel_rfl) (by kernel_rfl) (by kernel_rfl) (fun _ _ _ h => h) (Or.inl ⟨by kernel_rfl, ?_⟩) ?_
          rotate_left 1
          · (intro w; first | (go_simp; done) | (go_simp; with_reducible rfl))
          change wpAny _ _ _ _ _ _ (Act.put _ (some 84) _) _
          refine wpAny_take (i := 28) (v := ?_) rfl (by kernel_rfl) (by kernel_rfl) (by kernel_rfl) (fun _ _ _ h => h) (Or.inl ⟨by kernel_rfl, ?_⟩) ?_
          rotate_left 1
          · (intro w; first | (go_simp; done) | (go_simp; with_reducible rfl))
          change wpAny _ _ _ _ _ _ (Act.put _ (some 85) _) _
          refine wpAny_take (i := 29) (v := ?_) rfl (by kernel_rfl) (by kernel_rfl) (by kernel_rfl) (fun _ _ _ h => h) (Or.inl ⟨by kernel_rfl, ?_⟩) ?_
          rotate_left 1
          · (intro w; first | (go_simp; done) | (go_simp; with_reducible rfl))
          change wpAny _ _ _ _ _ _ (Act.put _ (some 8) _) _
          refine wpAny_done (by kernel_rfl) ?_ _
          go_simp
          go_wp2
          exact HPQ.out _ hg
        refine AllReady.cons rfl (fun K hK => ?_) AllReady.nil
        go_simp
        refine hK _ _ ?_
        clear hK K
        refine wpAny_ready (rs := [3]) (by kernel_rfl) (by simp) ?_
        refine AllReady.cons rfl (fun K hK => ?_) AllReady.nil
        go_simp
        refine hK _ _ ?_
        clear hK K
        refine wpAny_take (i := 5) (v := ?_) rfl (by kernel_rfl) (by kernel_rfl) (by kernel_rfl) (fun _ _ _ h => h) (Or.inl ⟨by kernel_rfl, ?_⟩) ?_
        rotate_left 1
        · (intro w; first | (go_simp; done) | (go_simp; with_reducible rfl))
        change wpAny _ _ _ _ _ _ (Act.put _ (some 62) _) _
        refine wpAny_ready (rs := [6]) (by kernel_rfl) (by simp) ?_
        refine AllReady.cons rfl (fun K hK => ?_) AllReady.nil
        go_simp
        refine hK _ _ ?_
        clear hK K
        refine wpAny_take (i := 12) (v := ?_) rfl (by kernel_rfl) (by kernel_rfl) (by kernel_rfl) (fun _ _ _ h => h) (Or.inl ⟨by kernel_rfl, ?_⟩) ?_
        rotate_left 1
        · (intro w; first | (go_simp; done) | (go_simp; with_reducible rfl))
        change wpAny _ _ _ _ _ _ (Act.put _ (some 69) _) _
        refine wpAny_take (i := 13) (v := ?_) rfl (by kernel_rfl) (by kernel_rfl) (by kernel_rfl) (fun _ _ _ h => h) (Or.inl ⟨by kernel_rfl, ?_⟩) ?_
        rotate_left 1
        · (intro w; first | (go_simp; done) | (go_simp; with_reducible rfl))
        change wpAny _ _ _ _ _ _ (Act.put _ (some 70) _) _
        refine wpAny_take (i := 15) (v := ?_) rfl (by kernel_rfl) (by kernel_rfl) (by kernel_rfl) (fun _ _ _ h => h) (Or.inl ⟨by kernel_rfl, ?_⟩) ?_
        rotate_left 1
        · (intro w; first | (go_simp; done) | (go_simp; with_reducible rfl))
        change wpAny _ _ _ _ _ _ (Act.put _ (some 72) _) _
        refine wpAny_take (i := 16) (v := ?_) rfl (by kernel_rfl) (by kernel_rfl) (by kernel_rfl) (fun _ _ _ h => h) (Or.inl ⟨by kernel_rfl, ?_⟩) ?_
        rotate_left 1
        · (intro w; first | (go_simp; done) | (go_simp; with_reducible rfl))
        change wpAny _ _ _ _ _ _ (Act.put _ (some 73) _) _
        refine wpAny_take (i := 17) (v := ?_) rfl (by kernel_rfl) (by kernel_rfl) (by kernel_rfl) (fun _ _ _ h => h) (Or.inl ⟨by kernel_rfl, ?_⟩) ?_
        rotate_left 1
        · (intro w; first | (go_simp; done) | (go_simp; with_reducible rfl))
        change wpAny _ _ _ _ _ _ (Act.put _ (some 74) _) _
        refine wpAny_take (i := 18) (v := ?_) rfl (by kernel_rfl) (by kernel_rfl) (by kernel_rfl) (fun _ _ _ h => h) (Or.inl ⟨by kernel_rfl, ?_⟩) ?_
        rotate_left 1
        · (intro w; first | (go_simp; done) | (go_simp; with_reducible rfl))
        change wpAny _ _ _ _ _ _ (Act.put _ (some 75) _) _
        refine wpAny_take (i := 21) (v := ?_) rfl (by kernel_rfl) (by kernel_rfl) (by kernel_rfl) (fun _ _ _ h => h) (Or.inl ⟨by kernel_rfl, ?_⟩) ?_
        rotate_left 1
        · (intro w; first | (go_simp; done) | (go_simp; with_reducible rfl))
        change wpAny _ _ _ _ _ _ (Act.put _ (some 78) _) _
        refine wpAny_take (i := 22) (v := ?_) rfl (by kernel_rfl) (by kernel_rfl) (by kernel_rfl) (fun _ _ _ h => h) (Or.inl ⟨by kernel_rfl, ?_⟩) ?_
        rotate_left 1
        · (intro w; first | (go_simp; done) | (go_simp; with_reducible rfl))
        change wpAny _ _ _ _ _ _ (Act.put _ (some 79) _) _
        refine wpAny_take (i := 23) (v := ?_) rfl (by kernel_rfl) (by kernel_rfl) (by kernel_rfl) (fun _ _ _ h => h) (Or.inl ⟨by kernel_rfl, ?_⟩) ?_
        rotate_left 1
        · (intro w; first | (go_simp; done) | (go_simp; with_reducible rfl))
        change wpAny _ _ _ _ _ _ (Act.put _ (some 80) _) _
        refine wpAny_take (i := 24) (v := ?_) rfl (by kernel_rfl) (by kernel_rfl) (by kernel_rfl) (fun _ _ _ h => h) (Or.inl ⟨by kernel_rfl, ?_⟩) ?_
        rotate_left 1
        · (intro w; first | (go_simp; done) | (go_simp; with_reducible rfl))
        change wpAny _ _ _ _ _ _ (Act.put _ (some 81) _) _
        refine wpAny_ready (rs := [14, 20]) (by kernel_rfl) (by simp) ?_
        refine AllReady.cons rfl (fun K hK => ?_) ?_
        focus
          go_simp
          refine hK _ _ ?_
          clear hK K
          refine wpAny_ready (rs := [19, 20]) (by kernel_rfl) (by simp) ?_
          refine AllReady.cons rfl (fun K hK => ?_) ?_
          focus
            go_simp
            go_wp2_with (go_at_call 14; refine (HV1.out _ (by first | exact HD.out | exact hg)).mono ?_; rintro e w' ⟨rfl, hg⟩; have hgg := hg; obtain ⟨_, g0, g1, gx, gy, g2, gg⟩ := hgg)
            refine wpAny_ready (rs := [20]) (by kernel_rfl) (by simp) ?_
            refine AllReady.cons rfl (fun K hK => ?_) AllReady.nil
            go_simp
            refine hK _ _ ?_
            clear hK K
            refine wpAny_ready (rs := [25]) (by kernel_rfl) (by simp) ?_
            refine AllReady.cons rfl (fun K hK => ?_) AllReady.nil
            go_simp
            go_wp2_with (go_at_call 14; refine (HV2.out _ (by first | exact HD.out | exact hg)).mono ?_; rintro e w' ⟨rfl, hg⟩; have hgg := hg; obtain ⟨_, g0, g1, gx, gy, g2, gg⟩ := hgg)
            refine wpAny_take (i := 26) (v := ?_) rfl (by kernel_rfl) (by kernel_rfl) (by kernel_rfl) (fun _ _ _ h => h) (Or.inl ⟨by kernel_rfl, ?_⟩) ?_
            rotate_left 1
            · (intro w; first | (go_simp; done) | (go_simp; with_reducible rfl))
            change wpAny _ _ _ _ _ _ (Act.put _ (some 83) _) _
            refine wpAny_take (i := 27) (v := ?_) rfl (by kernel_rfl) (by kernel_rfl) (by kernel_rfl) (fun _ _ _ h => h) (Or.inl ⟨by kernel_rfl, ?_⟩) ?_
            rotate_left 1
            · (intro w; first | (go_simp; done) | (go_simp; with_reducible rfl))
            change wpAny _ _ _ _ _ _ (Act.put _ (some 84) _) _
            refine wpAny_take (i := 28) (v := ?_) rfl (by kernel_rfl) (by kernel_rfl) (by kernel_rfl) (fun _ _ _ h => h) (Or.inl ⟨by kernel_rfl, ?_⟩) ?_
            rotate_left 1
            · (intro w; first | (go_simp; done) | (go_simp; with_reducible rfl))
            change wpAny _ _ _ _ _ _ (Act.put _ (some 85) _) _
            refine wpAny_take (i := 29) (v := ?_) rfl (by kernel_rfl) (by kernel_rfl) (by kernel_rfl) (fun _ _ _ h => h) (Or.inl ⟨by kernel_rfl, ?_⟩) ?_
            rotate_left 1
            · (intro w; first | (go_simp; done) | (go_simp; with_reducible rfl))
            change wpAny _ _ _ _ _ _ (Act.put _ (some 8) _) _
            refine wpAny_done (by kernel_rfl) ?_ _
            go_simp
            go_wp2
            exact HPQ.out _ hg
          refine AllReady.cons rfl (fun K hK => ?_) AllReady.nil
          go_simp
          refine hK _ _ ?_
          clear hK K
          refine wpAny_ready (rs := [19]) (by kernel_rfl) (by simp) ?_
          refine AllReady.cons rfl (fun K hK => ?_) AllReady.nil
          go_simp
          go_wp2_with (go_at_call 14; refine (HV1.out _ (by first | exact HD.out | exact hg)).mono ?_; rintro e w' ⟨rfl, hg⟩; have hgg := hg; obtain ⟨_, g0, g1, gx, gy, g2, gg⟩ := hgg)
          refine wpAny_ready (rs := [25]) (by kernel_rfl) (by simp) ?_
          refine AllReady.cons rfl (fun K hK => ?_) AllReady.nil
          go_simp
          go_wp2_with (go_at_call 14; refine (HV2.out _ (by first | exact HD.out | exact hg)).mono ?_; rintro e w' ⟨rfl, hg⟩; have hgg := hg; obtain ⟨_, g0, g1, gx, gy, g2, gg⟩ := hgg)
          refine wpAny_take (i := 26) (v := ?_) rfl (by kernel_rfl) (by kernel_rfl) (by kernel_rfl) (fun _ _ _ h => h) (Or.inl ⟨by kernel_rfl, ?_⟩) ?_
          rotate_left 1
          · (intro w; first | (go_simp; done) | (go_simp; with_reducible rfl))
          change wpAny _ _ _ _ _ _ (Act.put _ (some 83) _) _
          refine wpAny_take (i := 27) (v := ?_) rfl (by kernel_rfl) (by kernel_rfl) (by kernel_rfl) (fun _ _ _ h => h) (Or.inl ⟨by kernel_rfl, ?_⟩) ?_
          rotate_left 1
          · (intro w; first | (go_simp; done) | (go_simp; with_reducible rfl))
          change wpAny _ _ _ _ _ _ (Act.put _ (some 84) _) _
          refine wpAny_take (i := 28) (v := ?_) rfl (by kernel_rfl) (by kernel_rfl) (by kernel_rfl) (fun _ _ _ h => h) (Or.inl ⟨by kernel_rfl, ?_⟩) ?_
          rotate_left 1
          · (intro w; first | (go_simp; done) | (go_simp; with_reducible rfl))
          change wpAny _ _ _ _ _ _ (Act.put _ (some 85) _) _
          refine wpAny_take (i := 29) (v := ?_) rfl (by kernel_rfl) (by kernel_rfl) (by kernel_rfl) (fun _ _ _ h => h) (Or.inl ⟨by kernel_rfl, ?_⟩) ?_
          rotate_left 1
          · (intro w; first | (go_simp; done) | (go_simp; with_reducible rfl))
          change wpAny _ _ _ _ _ _ (Act.put _ (some 8) _) _
          refine wpAny_done (by kernel_rfl) ?_ _
          go_simp
          go_wp2
          exact HPQ.out _ hg
        refine AllReady.cons rfl (fun K hK => ?_) AllReady.nil
        go_simp
        refine hK _ _ ?_
        clear hK K
        refine wpAny_ready (rs := [14]) (by kernel_rfl) (by simp) ?_
        refine AllReady.cons rfl (fun K hK => ?_) AllReady.nil
        go_simp
        refine hK _ _ ?_
        clear hK K
        refine wpAny_ready (rs := [19]) (by kernel_rfl) (by simp) ?_
        refine AllReady.cons rfl (fun K hK => ?_) AllReady.nil
        go_simp
        go_wp2_with (go_at_call 14; refine (HV1.out _ (by first | exact HD.out | exact hg)).mono ?_; rintro e w' ⟨rfl, hg⟩; have hgg := hg; obtain ⟨_, g0, g1, gx, gy, g2, gg⟩ := hgg)
        refine wpAny_ready (rs := [25]) (by kernel_rfl) (by simp) ?_
        refine AllReady.cons rfl (fun K hK => ?_) AllReady.nil
        go_simp
        go_wp2_with (go_at_call 14; refine (HV2.out _ (by first | exact HD.out | exact hg)).mono ?_; rintro e w' ⟨rfl, hg⟩; have hgg := hg; obtain ⟨_, g0, g1, gx, gy, g2, gg⟩ := hgg)
        refine wpAny_take (i := 26) (v := ?_) rfl (by kernel_rfl) (by kernel_rfl) (by kernel_rfl) (fun _ _ _ h => h) (Or.inl ⟨by kernel_rfl, ?_⟩) ?_
        rotate_left 1
        · (intro w; first | (go_simp; done) | (go_simp; with_reducible rfl))
        change wpAny _ _ _ _ _ _ (Act.put _ (some 83) _) _
        refine wpAny_take (i := 27) (v := ?_) rfl (by kernel_rfl) (by kernel_rfl) (by kernel_rfl) (fun _ _ _ h => h) (Or.inl ⟨by kernel_rfl, ?_⟩) ?_
        rotate_left 1
        · (intro w; first | (go_simp; done) | (go_simp; with_reducible rfl))
        change wpAny _ _ _ _ _ _ (Act.put _ (some 84) _) _
        refine wpAny_take (i := 28) (v := ?_) rfl (by kernel_rfl) (by kernel_rfl) (by kernel_rfl) (fun _ _ _ h => h) (Or.inl ⟨by kernel_rfl, ?_⟩) ?_
        rotate_left 1
        · (intro w; first | (go_simp; done) | (go_simp; with_reducible rfl))
        change wpAny _ _ _ _ _ _ (Act.put _ (some 85) _) _
        refine wpAny_take (i := 29) (v := ?_) rfl (by kernel_rfl) (by kernel_rfl) (by kernel_rfl) (fun _ _ _ h => h) (Or.inl ⟨by kernel_rfl, ?_⟩) ?_
        rotate_left 1
        · (intro w; first | (go_simp; done) | (go_simp; with_reducible rfl))
        change wpAny _ _ _ _ _ _ (Act.put _ (some 8) _) _
        refine wpAny_done (by kernel_rfl) ?_ _
        go_simp
        go_wp2
        exact HPQ.out _ hg
      · have hxn : (x != y) = true := by simpa using hxy
        have HPQ : Hid (∀ q, P (.returned (.bool true)) (w3.drewN q)) := by
          rw [← HP.out]
          exact Lib.hid fun q => ⟨rfl, B3.out.trans ((below_drewN1 w3 q).mono B3.out.size)⟩
        clear HVV HROW hxy
        go_wp2_with fail
        rw [HW3.out]
        clear u0 u1 u2 k0 kx ky ug
        obtain ⟨_, u0, u1, kx, ky, u2, ug⟩ := HRW.out
        go_quiet (fail)
        go_wp2
        exact HPQ.out _
    · have hcase : a < 0 ∨ (¬ a < 0 ∧ b < 0) ∨ (¬ a < 0 ∧ ¬ b < 0 ∧ a ≥ 4352) ∨ (¬ a < 0 ∧ ¬ b < 0 ∧ ¬ a ≥ 4352 ∧ b ≥ 4352) ∨ (¬ a < 0 ∧ ¬ b < 0 ∧ ¬ a ≥ 4352 ∧ ¬ b ≥ 4352 ∧ k < 0) ∨ (¬ a < 0 ∧ ¬ b < 0 ∧ ¬ a ≥ 4352 ∧ ¬ b ≥ 4352 ∧ ¬ k < 0 ∧ k ≥ 256) := by omega
      clear h b2 ht CA1 hT1 hT2 hT3 rA hTA hrT h2 hR hok
      rcases hcase with c1 | ⟨c1, c2⟩ | ⟨c1, c2, c3⟩ | ⟨c1, c2, c3, c4⟩ | ⟨c1, c2, c3, c4, c5⟩ | ⟨c1, c2, c3, c4, c5, c6⟩
      all_goals
        go_wp2_with fail
        exact HPP.out
end Go.Proofs.YtlmkefmfhdjmmaaDoor
