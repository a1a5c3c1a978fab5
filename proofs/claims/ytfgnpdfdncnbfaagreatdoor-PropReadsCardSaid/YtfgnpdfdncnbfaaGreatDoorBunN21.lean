/- The document's ownN one and Find, of ranges. The document's ownN Right and Count, of ranges. The document's ownN add: a range behind a tight map. -/
import Derived.Test.YtfgnpdfdncnbfaaGreatDoorBunN4
import Derived.Test.YtfgnpdfdncnbfaaGreatDoorBunN8
import Derived.Test.YtfgnpdfdncnbfaaGreatDoorBunN18
import Derived.Test.YtfgnpdfdncnbfaaGreatDoorBunN13
namespace Go.Proofs.YtfgnpdfdncnbfaaGreatDoor
open Go.RowKit Go.Shelf Go.Maps
attribute [local go_sem] Oper.semAt_some

theorem one_any (x : Rng) (w : World) : Calls Tryz.prog 53 #[rngV x] w fun e w' => e = .returned (.bool (decide (okR x))) ∧ w.alloc (rngO x) = w' := by
  obtain ⟨a, b, v⟩ := x
  obtain ⟨D, hD⟩ : ∃ D, decide (okR (a, b, v)) = D := ⟨_, rfl⟩
  rw [hD]
  have HD := Lib.hid hD
  clear hD
  have no : ¬ okR (a, b, v) → D = false := fun h => by rw [← HD.out, decide_eq_false h]
  have yes : okR (a, b, v) → D = true := fun h => by rw [← HD.out, decide_eq_true h]
  unfold okR at no yes
  simp only at no yes
  have NO := Lib.hid no
  have YES := Lib.hid yes
  clear no yes
  go_enter Tryz.func53, Tryz.ntmps53
  by_cases h0 : 0 ≤ a
  · by_cases h1 : a ≤ b
    · by_cases h2 : b ≤ 1114111
      · by_cases h3 : 0 ≤ v
        · by_cases h4 : v ≤ 31
          · have h := YES.out ⟨h0, h1, h2, h3, h4⟩
            rw [h]
            go_wp2
            go_ret
            exact ⟨rfl, rfl⟩
          · have h := NO.out (by omega)
            rw [h]
            go_wp2
            go_ret
            exact ⟨rfl, rfl⟩
        · have h := NO.out (by omega)
          rw [h]
          go_wp2
          go_ret
          exact ⟨rfl, rfl⟩
      · have h := NO.out (by omega)
        rw [h]
        go_wp2
        go_ret
        exact ⟨rfl, rfl⟩
    · have h := NO.out (by omega)
      rw [h]
      go_wp2
      go_ret
      exact ⟨rfl, rfl⟩
  · have h := NO.out (by omega)
    rw [h]
    go_wp2
    go_ret
    exact ⟨rfl, rfl⟩
set_option maxRecDepth 100000 in
set_option maxHeartbeats 2000000 in
theorem refFind_any (o : Option Addr) (l : List Rng) (cap : Nat) (r : Int) (hn : l.length ≤ 1000000) (w : World) (hA : AtR w o l) :
    Calls Tryz.prog 34 #[.slice o l.length cap, .int .i64 r] w fun e w' => e = .returned (ansF (findL l r)) ∧ w = w' := by
  obtain ⟨n, hnn⟩ : ∃ n, l.length = n := ⟨_, rfl⟩
  rw [hnn] at hn ⊢
  have HN := Lib.hid hnn
  have HA := Lib.hid hA
  obtain ⟨P, hP⟩ : ∃ P, (fun (e : Ending) w' => e = .returned (ansF (findL l r)) ∧ w = w') = P := ⟨_, rfl⟩
  have HP := Lib.hid hP
  rw [hP]
  clear hP hA hnn
  go_enter Tryz.func34, Tryz.ntmps34
  go_wp2_with fail
  go_loopg [6] n (fun k v wr => ∃ (j : Nat), v = .int .i64 (j : Nat) ∧ j ≤ n ∧ k = n - j ∧ findL (l.take j) r = none ∧ w = wr)
  case atStart => exact ⟨0, rfl, Nat.zero_le _, rfl, rfl, rfl⟩
  case round =>
    obtain ⟨j, rfl, hj, rfl, hf, rfl⟩ := hrel
    rcases Nat.lt_or_ge j n with hlt | hge
    · have hj1 : j < 1000000 := by omega
      obtain ⟨x, hx⟩ : ∃ x, l[j]? = some x := ⟨_, List.getElem?_eq_getElem (by rw [HN.out]; exact hlt)⟩
      obtain ⟨g, off, rfl, hc⟩ := HA.out (by rw [HN.out]; omega)
      obtain ⟨k0, k1, k2⟩ := hc j x hx
      have yes : (x.1 ≤ r ∧ r ≤ x.2.1) → P (.returned (.tuple #[.int .i64 x.2.2, .bool true])) w := fun h => by
        rw [← HP.out, findL_pre hx hf h]
        exact ⟨rfl, rfl⟩
      have no : ¬ (x.1 ≤ r ∧ r ≤ x.2.1) → findL (l.take (j + 1)) r = none := fun h => findL_snoc hx hf h
      obtain ⟨a, b, v⟩ := x
      simp only at k0 k1 k2 yes no
      have YES := Lib.hid yes
      have NO := Lib.hid no
      clear yes no hc hx hf
      by_cases h1 : a ≤ r
      · by_cases h2 : r ≤ b
        · have HY := Lib.hid (YES.out ⟨h1, h2⟩)
          clear YES NO
          go_wp2_with fail
          exact HY.out
        · have HN2 := Lib.hid (NO.out (by omega))
          clear YES NO
          go_wp2_with fail
          go_roundg (n - (j + 1))
          case measure => omega
          case rel => exact ⟨j + 1, by simp, by omega, rfl, HN2.out, rfl⟩
      · have HN2 := Lib.hid (NO.out (by omega))
        clear YES NO
        go_wp2_with fail
        go_roundg (n - (j + 1))
        case measure => omega
        case rel => exact ⟨j + 1, by simp, by omega, rfl, HN2.out, rfl⟩
    · obtain rfl : j = n := by omega
      have HPP : Hid (P (.returned (.tuple #[.int .i64 0, .bool false])) w) := by
        rw [← HP.out]
        refine Lib.hid ⟨?_, rfl⟩
        rw [List.take_of_length_le (by rw [HN.out]; exact Nat.le_refl _)] at hf
        rw [hf]
        rfl
      clear hf
      go_wp2_with fail
      exact HPP.out
end Go.Proofs.YtfgnpdfdncnbfaaGreatDoor

namespace Go.Proofs.YtfgnpdfdncnbfaaGreatDoor
open Go.RowKit Go.Shelf Go.Maps
attribute [local go_sem] Oper.semAt_some

theorem right_take {l : List Rng} {j : Nat} {x : Rng} (hx : l[j]? = some x) (ho : ∀ y ∈ l.take j, okR y) (h : okR x) : ∀ y ∈ l.take (j + 1), okR y := by
  intro y hy
  rw [List.take_add_one, hx] at hy
  rcases List.mem_append.1 hy with h1 | h1
  · exact ho y h1
  · simp at h1; rw [h1]; exact h
theorem not_right_ok {l : List Rng} {j : Nat} {x : Rng} (hx : l[j]? = some x) (h : ¬ okR x) : ¬ rightL l := fun hr => h (hr.1.1 x (List.mem_of_getElem? hx))
theorem not_right_lap {l : List Rng} {j : Nat} {x y : Rng} (hy : l[j]? = some y) (hx : l[j + 1]? = some x) (h : x.1 ≤ y.2.1) : ¬ rightL l := fun hr => by
  have := (adj_map hr.1.1).2 hr.1.2 j y x hy hx
  omega
set_option maxRecDepth 100000 in
set_option maxHeartbeats 4000000 in
theorem refRight_any (o : Option Addr) (l : List Rng) (cap : Nat) (hn : l.length ≤ 1000000) (w : World) (hA : AtR w o l) :
    Calls Tryz.prog 40 #[.slice o l.length cap] w fun e w' => e = .returned (.bool (decide (rightL l))) ∧ Below w.heap.size w w' := by
  obtain ⟨n, hnn⟩ : ∃ n, l.length = n := ⟨_, rfl⟩
  rw [hnn] at hn ⊢
  have HN := Lib.hid hnn
  have HA := Lib.hid hA
  obtain ⟨P, hP⟩ : ∃ P, (fun (e : Ending) w' => e = .returned (.bool (decide (rightL l))) ∧ Below w.heap.size w w') = P := ⟨_, rfl⟩
  have HP := Lib.hid hP
  rw [hP]
  clear hP hA hnn
  go_enter Tryz.func40, Tryz.ntmps40
  go_wp2_with fail
  go_loopg [3] n (fun k v wr => ∃ (j : Nat), v = .int .i64 (j : Nat) ∧ j ≤ n ∧ k = n - j ∧ Hid ((∀ y ∈ l.take j, okR y) ∧ adjL (l.take j)) ∧ Hid (Below w.heap.size w wr))
  case atStart => exact ⟨0, rfl, Nat.zero_le _, rfl, Lib.hid ⟨fun y hy => by simp at hy, fun i x y hx => by simp at hx⟩, Lib.hid (Below.refl _ _)⟩
  case round =>
    obtain ⟨j, rfl, hj, rfl, HI, HB⟩ := hrel
    rcases Nat.lt_or_ge j n with hlt | hge
    · have hj1 : j < 1000000 := by omega
      obtain ⟨x, hx⟩ : ∃ x, l[j]? = some x := ⟨_, List.getElem?_eq_getElem (by rw [HN.out]; exact hlt)⟩
      obtain ⟨g, off, rfl, hc⟩ := (HA.out.below HB.out) (by rw [HN.out]; omega)
      obtain ⟨k0, k1, k2⟩ := hc j x hx
      have hg := World.block_lt_of_cell? wr _ k0
      have HX := Lib.hid hx
      have HC := Lib.hid hc
      by_cases hok : okR x
      · rcases Nat.eq_zero_or_pos j with hz | hpos
        · subst hz
          have HI2 := Lib.hid (show (∀ y ∈ l.take (0 + 1), okR y) ∧ adjL (l.take (0 + 1)) from ⟨right_take HX.out HI.out.1 hok, adj_snoc HX.out HI.out.2 (fun i y hi => by omega)⟩)
          have hdec : decide (okR x) = true := decide_eq_true hok
          obtain ⟨a, b, v⟩ := x
          simp only [Nat.zero_mul, Nat.add_zero] at k0 k1 k2
          have H1 := Lib.hid (show ∀ W, Calls Tryz.prog 53 #[.agg #[.int .i64 a, .int .i64 b, .int .i64 v]] W fun e w' => e = .returned (.bool true) ∧ W.alloc (rngO (a, b, v)) = w' from fun W => by have := one_any (a, b, v) W; rwa [hdec] at this)
          clear hc hx hok hdec
          go_wp2_with fail
          refine wp_region_any (by kernel_rfl) ?_
          try (change wpAny _ _ _ _ _ _ _ (World.drew _))
          refine wpAny_take (i := 0) (v := ?_) rfl (by kernel_rfl) (by kernel_rfl) (by kernel_rfl) (fun _ _ _ h => h) (Or.inl ⟨by kernel_rfl, ?_⟩) ?_
          rotate_left 1
          · (intro w; first | (go_simp; done) | (go_simp; with_reducible rfl))
          change wpAny _ _ _ _ _ _ (Act.put _ (some 10) _) _
          refine wpAny_take (i := 1) (v := ?_) rfl (by kernel_rfl) (by kernel_rfl) (by kernel_rfl) (fun _ _ _ h => h) (Or.inl ⟨by kernel_rfl, ?_⟩) ?_
          rotate_left 1
          · (intro w; first | (go_simp; done) | (go_simp; with_reducible rfl))
          change wpAny _ _ _ _ _ _ (Act.put _ (some 11) _) _
          refine wpAny_take (i := 2) (v := ?_) rfl (by kernel_rfl) (by kernel_rfl) (by kernel_rfl) (fun _ _ _ h => h) (Or.inl ⟨by kernel_rfl, ?_⟩) ?_
          rotate_left 1
          · (intro w; first | (go_simp; done) | (go_simp; with_reducible rfl))
          change wpAny _ _ _ _ _ _ (Act.put _ (some 12) _) _
          refine wpAny_ready (rs := [3]) (by kernel_rfl) (by simp) ?_
          refine AllReady.cons rfl (fun K hK => ?_) AllReady.nil
          go_simp
          refine hK _ _ ?_
          clear hK K
          refine wpAny_ready (rs := [4]) (by kernel_rfl) (by simp) ?_
          refine AllReady.cons rfl (fun K hK => ?_) AllReady.nil
          go_simp
          go_wp2_with (go_at_call 53; refine (H1.out _).mono ?_; rintro e wn ⟨rfl, hwn⟩)
          refine wpAny_take (i := 5) (v := ?_) rfl (by kernel_rfl) (by kernel_rfl) (by kernel_rfl) (fun _ _ _ h => h) (Or.inl ⟨by kernel_rfl, ?_⟩) ?_
          rotate_left 1
          · (intro w; first | (go_simp; done) | (go_simp; with_reducible rfl))
          change wpAny _ _ _ _ _ _ (Act.put _ (some 15) _) _
          refine wpAny_take (i := 6) (v := ?_) rfl (by kernel_rfl) (by kernel_rfl) (by kernel_rfl) (fun _ _ _ h => h) (Or.inl ⟨by kernel_rfl, ?_⟩) ?_
          rotate_left 1
          · (intro w; first | (go_simp; done) | (go_simp; with_reducible rfl))
          change wpAny _ _ _ _ _ _ (Act.put _ (some 16) _) _
          refine wpAny_take (i := 7) (v := ?_) rfl (by kernel_rfl) (by kernel_rfl) (by kernel_rfl) (fun _ _ _ h => h) (Or.inl ⟨by kernel_rfl, ?_⟩) ?_
          rotate_left 1
          · (intro w; first | (go_simp; done) | (go_simp; with_reducible rfl))
          change wpAny _ _ _ _ _ _ (Act.put _ (some 17) _) _
          refine wpAny_take (i := 8) (v := ?_) rfl (by kernel_rfl) (by kernel_rfl) (by kernel_rfl) (fun _ _ _ h => h) (Or.inl ⟨by kernel_rfl, ?_⟩) ?_
          rotate_left 1
          · (intro w; first | (go_simp; done) | (go_simp; with_reducible rfl))
          change wpAny _ _ _ _ _ _ (Act.put _ (some 18) _) _
          refine wpAny_take (i := 9) (v := ?_) rfl (by kernel_rfl) (by kernel_rfl) (by kernel_rfl) (fun _ _ _ h => h) (Or.inl ⟨by kernel_rfl, ?_⟩) ?_
          rotate_left 1
          · (intro w; first | (go_simp; done) | (go_simp; with_reducible rfl))
          change wpAny _ _ _ _ _ _ (Act.put _ (some 19) _) _
          refine wpAny_take (i := 10) (v := undef) rfl (by kernel_rfl) (by kernel_rfl) (by kernel_rfl) (fun _ _ _ h => h) (Or.inr ⟨by kernel_rfl, rfl⟩) ?_
          change wpAny _ _ _ _ _ _ (Act.put _ (some 20) _) _
          refine wpAny_take (i := 11) (v := undef) rfl (by kernel_rfl) (by kernel_rfl) (by kernel_rfl) (fun _ _ _ h => h) (Or.inr ⟨by kernel_rfl, rfl⟩) ?_
          change wpAny _ _ _ _ _ _ (Act.put _ (some 21) _) _
          refine wpAny_take (i := 12) (v := undef) rfl (by kernel_rfl) (by kernel_rfl) (by kernel_rfl) (fun _ _ _ h => h) (Or.inr ⟨by kernel_rfl, rfl⟩) ?_
          change wpAny _ _ _ _ _ _ (Act.put _ (some 22) _) _
          refine wpAny_take (i := 13) (v := undef) rfl (by kernel_rfl) (by kernel_rfl) (by kernel_rfl) (fun _ _ _ h => h) (Or.inr ⟨by kernel_rfl, rfl⟩) ?_
          change wpAny _ _ _ _ _ _ (Act.put _ (some 23) _) _
          refine wpAny_take (i := 14) (v := undef) rfl (by kernel_rfl) (by kernel_rfl) (by kernel_rfl) (fun _ _ _ h => h) (Or.inr ⟨by kernel_rfl, rfl⟩) ?_
          change wpAny _ _ _ _ _ _ (Act.put _ (some 24) _) _
          refine wpAny_take (i := 15) (v := undef) rfl (by kernel_rfl) (by kernel_rfl) (by kernel_rfl) (fun _ _ _ h => h) (Or.inr ⟨by kernel_rfl, rfl⟩) ?_
          change wpAny _ _ _ _ _ _ (Act.put _ (some 25) _) _
          refine wpAny_take (i := 16) (v := undef) rfl (by kernel_rfl) (by kernel_rfl) (by kernel_rfl) (fun _ _ _ h => h) (Or.inr ⟨by kernel_rfl, rfl⟩) ?_
          change wpAny _ _ _ _ _ _ (Act.put _ (some 26) _) _
          refine wpAny_take (i := 17) (v := undef) rfl (by kernel_rfl) (by kernel_rfl) (by kernel_rfl) (fun _ _ _ h => h) (Or.inr ⟨by kernel_rfl, rfl⟩) ?_
          change wpAny _ _ _ _ _ _ (Act.put _ (some 27) _) _
          refine wpAny_take (i := 18) (v := undef) rfl (by kernel_rfl) (by kernel_rfl) (by kernel_rfl) (fun _ _ _ h => h) (Or.inr ⟨by kernel_rfl, rfl⟩) ?_
          change wpAny _ _ _ _ _ _ (Act.put _ (some 28) _) _
          refine wpAny_take (i := 19) (v := undef) rfl (by kernel_rfl) (by kernel_rfl) (by kernel_rfl) (fun _ _ _ h => h) (Or.inr ⟨by kernel_rfl, rfl⟩) ?_
          change wpAny _ _ _ _ _ _ (Act.put _ (some 29) _) _
          refine wpAny_take (i := 20) (v := undef) rfl (by kernel_rfl) (by kernel_rfl) (by kernel_rfl) (fun _ _ _ h => h) (Or.inr ⟨by kernel_rfl, rfl⟩) ?_
          change wpAny _ _ _ _ _ _ (Act.put _ (some 30) _) _
          refine wpAny_take (i := 21) (v := undef) rfl (by kernel_rfl) (by kernel_rfl) (by kernel_rfl) (fun _ _ _ h => h) (Or.inr ⟨by kernel_rfl, rfl⟩) ?_
          change wpAny _ _ _ _ _ _ (Act.put _ (some 31) _) _
          refine wpAny_take (i := 22) (v := ?_) rfl (by kernel_rfl) (by kernel_rfl) (by kernel_rfl) (fun _ _ _ h => h) (Or.inl ⟨by kernel_rfl, ?_⟩) ?_
          rotate_left 1
          · (intro w; first | (go_simp; done) | (go_simp; with_reducible rfl))
          change wpAny _ _ _ _ _ _ (Act.put _ (some 32) _) _
          refine wpAny_take (i := 23) (v := ?_) rfl (by kernel_rfl) (by kernel_rfl) (by kernel_rfl) (fun _ _ _ h => h) (Or.inl ⟨by kernel_rfl, ?_⟩) ?_
          rotate_left 1
          · (intro w; first | (go_simp; done) | (go_simp; with_reducible rfl))
          change wpAny _ _ _ _ _ _ (Act.put _ (some 33) _) _
          refine wpAny_done (by kernel_rfl) ?_ _
          go_simp
          go_wp2
          go_roundg (n - (0 + 1))
          case measure => omega
          case rel => exact ⟨0 + 1, by simp, by omega, rfl, HI2, Lib.hid (HB.out.trans ((show Below wr.heap.size wr wn from by rw [← hwn]; exact ((Below.refl _ _).drew).alloc (Nat.le_refl _) _).mono HB.out.size))⟩
        · obtain ⟨i, rfl⟩ : ∃ i, j = i + 1 := ⟨j - 1, by omega⟩
          obtain ⟨y, hy⟩ : ∃ y, l[i]? = some y := ⟨_, List.getElem?_eq_getElem (by rw [HN.out]; omega)⟩
          obtain ⟨m0, m1, m2⟩ := hc i y hy
          have hw1 : IntKind.i64.wrap (((i : Nat) : Int) + 1 - 1) = (i : Nat) := by rw [show ((i : Nat) : Int) + 1 - 1 = (i : Nat) from by omega]; exact wrap_id (by omega) (by omega)
          have hin : i < n := by omega
          have hw4 : IntKind.i64.wrap ((i : Nat) : Int) = (i : Nat) := wrap_id (by omega) (by omega)
          have hw2 : IntKind.i64.wrap (((i : Nat) : Int) + 1) = (i : Nat) + 1 := wrap_id (by omega) (by omega)
          have hw3 : IntKind.i64.wrap (((i : Nat) : Int) + 1 + 1) = (i : Nat) + 1 + 1 := wrap_id (by omega) (by omega)
          have hn1 : (((i : Nat) : Int) + 1).toNat = i + 1 := by omega
          have hn2 : 0 ≤ ((i : Nat) : Int) + 1 := by omega
          have hn3 : 0 < ((i : Nat) : Int) + 1 := by omega
          have hdec : decide (okR x) = true := decide_eq_true hok
          have HY := Lib.hid hy
          by_cases hlap : x.1 ≤ y.2.1
          · have HPP : ∀ W, Below w.heap.size w W → Hid (P (.returned (.bool false)) W) := fun W hb => by
              rw [← HP.out]
              exact Lib.hid ⟨by rw [decide_eq_false (not_right_lap HY.out HX.out hlap)], hb⟩
            obtain ⟨a, b, v⟩ := x
            obtain ⟨ya, yb, yv⟩ := y
            simp only at k0 k1 k2 m0 m1 m2 hlap
            have H1 := Lib.hid (show ∀ W, Calls Tryz.prog 53 #[.agg #[.int .i64 a, .int .i64 b, .int .i64 v]] W fun e w' => e = .returned (.bool true) ∧ W.alloc (rngO (a, b, v)) = w' from fun W => by have := one_any (a, b, v) W; rwa [hdec] at this)
            have hwr : Hid (∀ ad u, wr.cell? ad = some u → (wr.drew.alloc (rngO (a, b, v))).cell? ad = some u) := Lib.hid fun ad u h => cell_keepN (((Below.refl _ _).drew).alloc (Nat.le_refl _) _) h
            clear hc hx hy hok hdec hpos
            go_wp2_with fail
            refine wp_region_any (by kernel_rfl) ?_
            try (change wpAny _ _ _ _ _ _ _ (World.drew _))
            refine wpAny_take (i := 0) (v := ?_) rfl (by kernel_rfl) (by kernel_rfl) (by kernel_rfl) (fun _ _ _ h => h) (Or.inl ⟨by kernel_rfl, ?_⟩) ?_
            rotate_left 1
            · (intro w; first | (go_simp; done) | (go_simp; with_reducible rfl))
            change wpAny _ _ _ _ _ _ (Act.put _ (some 10) _) _
            refine wpAny_take (i := 1) (v := ?_) rfl (by kernel_rfl) (by kernel_rfl) (by kernel_rfl) (fun _ _ _ h => h) (Or.inl ⟨by kernel_rfl, ?_⟩) ?_
            rotate_left 1
            · (intro w; first | (go_simp; done) | (go_simp; with_reducible rfl))
            change wpAny _ _ _ _ _ _ (Act.put _ (some 11) _) _
            refine wpAny_take (i := 2) (v := ?_) rfl (by kernel_rfl) (by kernel_rfl) (by kernel_rfl) (fun _ _ _ h => h) (Or.inl ⟨by kernel_rfl, ?_⟩) ?_
            rotate_left 1
            · (intro w; first | (go_simp; done) | (go_simp; with_reducible rfl))
            change wpAny _ _ _ _ _ _ (Act.put _ (some 12) _) _
            refine wpAny_ready (rs := [3]) (by kernel_rfl) (by simp) ?_
            refine AllReady.cons rfl (fun K hK => ?_) AllReady.nil
            go_simp
            refine hK _ _ ?_
            clear hK K
            refine wpAny_ready (rs := [4]) (by kernel_rfl) (by simp) ?_
            refine AllReady.cons rfl (fun K hK => ?_) AllReady.nil
            go_simp
            go_wp2_with (go_at_call 53; refine (H1.out _).mono ?_; rintro e wn ⟨rfl, hwn⟩)
            have s0 := hwr.out _ _ k0
            have s1 := hwr.out _ _ m1
            rw [hwn] at s0 s1
            refine wpAny_take (i := 5) (v := ?_) rfl (by kernel_rfl) (by kernel_rfl) (by kernel_rfl) (fun _ _ _ h => h) (Or.inl ⟨by kernel_rfl, ?_⟩) ?_
            rotate_left 1
            · (intro w; first | (go_simp; done) | (go_simp; with_reducible rfl))
            change wpAny _ _ _ _ _ _ (Act.put _ (some 15) _) _
            refine wpAny_take (i := 6) (v := ?_) rfl (by kernel_rfl) (by kernel_rfl) (by kernel_rfl) (fun _ _ _ h => h) (Or.inl ⟨by kernel_rfl, ?_⟩) ?_
            rotate_left 1
            · (intro w; first | (go_simp; done) | (go_simp; with_reducible rfl))
            change wpAny _ _ _ _ _ _ (Act.put _ (some 16) _) _
            refine wpAny_take (i := 7) (v := ?_) rfl (by kernel_rfl) (by kernel_rfl) (by kernel_rfl) (fun _ _ _ h => h) (Or.inl ⟨by kernel_rfl, ?_⟩) ?_
            rotate_left 1
            · (intro w; first | (go_simp; done) | (go_simp; with_reducible rfl))
            change wpAny _ _ _ _ _ _ (Act.put _ (some 17) _) _
            refine wpAny_take (i := 8) (v := ?_) rfl (by kernel_rfl) (by kernel_rfl) (by kernel_rfl) (fun _ _ _ h => h) (Or.inl ⟨by kernel_rfl, ?_⟩) ?_
            rotate_left 1
            · (intro w; first | (go_simp; done) | (go_simp; with_reducible rfl))
            change wpAny _ _ _ _ _ _ (Act.put _ (some 18) _) _
            refine wpAny_take (i := 9) (v := ?_) rfl (by kernel_rfl) (by kernel_rfl) (by kernel_rfl) (fun _ _ _ h => h) (Or.inl ⟨by kernel_rfl, ?_⟩) ?_
            rotate_left 1
            · (intro w; first | (go_simp; done) | (go_simp; with_reducible rfl))
            change wpAny _ _ _ _ _ _ (Act.put _ (some 19) _) _
            refine wpAny_take (i := 10) (v := ?_) rfl (by kernel_rfl) (by kernel_rfl) (by kernel_rfl) (fun _ _ _ h => h) (Or.inl ⟨by kernel_rfl, ?_⟩) ?_
            rotate_left 1
            · (intro w; first | (go_simp; done) | (go_simp; with_reducible rfl))
            change wpAny _ _ _ _ _ _ (Act.put _ (some 20) _) _
            refine wpAny_take (i := 11) (v := ?_) rfl (by kernel_rfl) (by kernel_rfl) (by kernel_rfl) (fun _ _ _ h => h) (Or.inl ⟨by kernel_rfl, ?_⟩) ?_
            rotate_left 1
            · (intro w; first | (go_simp; done) | (go_simp; with_reducible rfl))
            change wpAny _ _ _ _ _ _ (Act.put _ (some 21) _) _
            refine wpAny_take (i := 12) (v := ?_) rfl (by kernel_rfl) (by kernel_rfl) (by kernel_rfl) (fun _ _ _ h => h) (Or.inl ⟨by kernel_rfl, ?_⟩) ?_
            rotate_left 1
            · (intro w; first | (go_simp; done) | (go_simp; with_reducible rfl))
            change wpAny _ _ _ _ _ _ (Act.put _ (some 22) _) _
            refine wpAny_take (i := 13) (v := ?_) rfl (by kernel_rfl) (by kernel_rfl) (by kernel_rfl) (fun _ _ _ h => h) (Or.inl ⟨by kernel_rfl, ?_⟩) ?_
            rotate_left 1
            · (intro w; first | (go_simp; done) | (go_simp; with_reducible rfl))
            change wpAny _ _ _ _ _ _ (Act.put _ (some 23) _) _
            refine wpAny_take (i := 15) (v := ?_) rfl (by kernel_rfl) (by kernel_rfl) (by kernel_rfl) (fun _ _ _ h => h) (Or.inl ⟨by kernel_rfl, ?_⟩) ?_
            rotate_left 1
            · (intro w; first | (go_simp; done) | (go_simp; with_reducible rfl))
            change wpAny _ _ _ _ _ _ (Act.put _ (some 25) _) _
            refine wpAny_take (i := 16) (v := ?_) rfl (by kernel_rfl) (by kernel_rfl) (by kernel_rfl) (fun _ _ _ h => h) (Or.inl ⟨by kernel_rfl, ?_⟩) ?_
            rotate_left 1
            · (intro w; first | (go_simp; done) | (go_simp; with_reducible rfl))
            change wpAny _ _ _ _ _ _ (Act.put _ (some 26) _) _
            refine wpAny_take (i := 17) (v := ?_) rfl (by kernel_rfl) (by kernel_rfl) (by kernel_rfl) (fun _ _ _ h => h) (Or.inl ⟨by kernel_rfl, ?_⟩) ?_
            rotate_left 1
            · (intro w; first | (go_simp; done) | (go_simp; with_reducible rfl))
            change wpAny _ _ _ _ _ _ (Act.put _ (some 27) _) _
            refine wpAny_take (i := 18) (v := ?_) rfl (by kernel_rfl) (by kernel_rfl) (by kernel_rfl) (fun _ _ _ h => h) (Or.inl ⟨by kernel_rfl, ?_⟩) ?_
            rotate_left 1
            · (intro w; first | (go_simp; done) | (go_simp; with_reducible rfl))
            change wpAny _ _ _ _ _ _ (Act.put _ (some 28) _) _
            refine wpAny_take (i := 19) (v := ?_) rfl (by kernel_rfl) (by kernel_rfl) (by kernel_rfl) (fun _ _ _ h => h) (Or.inl ⟨by kernel_rfl, ?_⟩) ?_
            rotate_left 1
            · (intro w; first | (go_simp; done) | (go_simp; with_reducible rfl))
            change wpAny _ _ _ _ _ _ (Act.put _ (some 29) _) _
            refine wpAny_ready (rs := [14, 20]) (by kernel_rfl) (by simp) ?_
            refine AllReady.cons rfl (fun K hK => ?_) ?_
            focus
              go_simp
              refine hK _ _ ?_
              clear hK K
              refine wpAny_ready (rs := [20]) (by kernel_rfl) (by simp) ?_
              refine AllReady.cons rfl (fun K hK => ?_) AllReady.nil
              go_simp
              refine hK _ _ ?_
              clear hK K
              refine wpAny_take (i := 21) (v := ?_) rfl (by kernel_rfl) (by kernel_rfl) (by kernel_rfl) (fun _ _ _ h => h) (Or.inl ⟨by kernel_rfl, ?_⟩) ?_
              rotate_left 1
              · (intro w; first | (go_simp; done) | (go_simp; with_reducible rfl))
              change wpAny _ _ _ _ _ _ (Act.put _ (some 31) _) _
              refine wpAny_take (i := 22) (v := ?_) rfl (by kernel_rfl) (by kernel_rfl) (by kernel_rfl) (fun _ _ _ h => h) (Or.inl ⟨by kernel_rfl, ?_⟩) ?_
              rotate_left 1
              · (intro w; first | (go_simp; done) | (go_simp; with_reducible rfl))
              change wpAny _ _ _ _ _ _ (Act.put _ (some 32) _) _
              refine wpAny_take (i := 23) (v := ?_) rfl (by kernel_rfl) (by kernel_rfl) (by kernel_rfl) (fun _ _ _ h => h) (Or.inl ⟨by kernel_rfl, ?_⟩) ?_
              rotate_left 1
              · (intro w; first | (go_simp; done) | (go_simp; with_reducible rfl))
              change wpAny _ _ _ _ _ _ (Act.put _ (some 33) _) _
              refine wpAny_done (by kernel_rfl) ?_ _
              go_simp
              have HQ := HPP wn (HB.out.trans ((show Below wr.heap.size wr wn from by rw [← hwn]; exact ((Below.refl _ _).drew).alloc (Nat.le_refl _) _).mono HB.out.size))
              clear HPP
              go_wp2
              exact HQ.out
            refine AllReady.cons rfl (fun K hK => ?_) AllReady.nil
            go_simp
            refine hK _ _ ?_
            clear hK K
            refine wpAny_ready (rs := [14]) (by kernel_rfl) (by simp) ?_
            refine AllReady.cons rfl (fun K hK => ?_) AllReady.nil
            go_simp
            refine hK _ _ ?_
            clear hK K
            refine wpAny_take (i := 21) (v := ?_) rfl (by kernel_rfl) (by kernel_rfl) (by kernel_rfl) (fun _ _ _ h => h) (Or.inl ⟨by kernel_rfl, ?_⟩) ?_
            rotate_left 1
            · (intro w; first | (go_simp; done) | (go_simp; with_reducible rfl))
            change wpAny _ _ _ _ _ _ (Act.put _ (some 31) _) _
            refine wpAny_take (i := 22) (v := ?_) rfl (by kernel_rfl) (by kernel_rfl) (by kernel_rfl) (fun _ _ _ h => h) (Or.inl ⟨by kernel_rfl, ?_⟩) ?_
            rotate_left 1
            · (intro w; first | (go_simp; done) | (go_simp; with_reducible rfl))
            change wpAny _ _ _ _ _ _ (Act.put _ (some 32) _) _
            refine wpAny_take (i := 23) (v := ?_) rfl (by kernel_rfl) (by kernel_rfl) (by kernel_rfl) (fun _ _ _ h => h) (Or.inl ⟨by kernel_rfl, ?_⟩) ?_
            rotate_left 1
            · (intro w; first | (go_simp; done) | (go_simp; with_reducible rfl))
            change wpAny _ _ _ _ _ _ (Act.put _ (some 33) _) _
            refine wpAny_done (by kernel_rfl) ?_ _
            go_simp
            have HQ := HPP wn (HB.out.trans ((show Below wr.heap.size wr wn from by rw [← hwn]; exact ((Below.refl _ _).drew).alloc (Nat.le_refl _) _).mono HB.out.size))
            clear HPP
            go_wp2
            exact HQ.out
          · have HI2 := Lib.hid (show (∀ y ∈ l.take (i + 1 + 1), okR y) ∧ adjL (l.take (i + 1 + 1)) from ⟨right_take HX.out HI.out.1 hok, adj_snoc HX.out HI.out.2 (fun i' y' hi hy' => by
              obtain rfl : i = i' := by omega
              rw [HY.out] at hy'
              cases hy'
              omega)⟩)
            obtain ⟨a, b, v⟩ := x
            obtain ⟨ya, yb, yv⟩ := y
            simp only at k0 k1 k2 m0 m1 m2 hlap
            have H1 := Lib.hid (show ∀ W, Calls Tryz.prog 53 #[.agg #[.int .i64 a, .int .i64 b, .int .i64 v]] W fun e w' => e = .returned (.bool true) ∧ W.alloc (rngO (a, b, v)) = w' from fun W => by have := one_any (a, b, v) W; rwa [hdec] at this)
            have hwr : Hid (∀ ad u, wr.cell? ad = some u → (wr.drew.alloc (rngO (a, b, v))).cell? ad = some u) := Lib.hid fun ad u h => cell_keepN (((Below.refl _ _).drew).alloc (Nat.le_refl _) _) h
            clear hc hx hy hok hdec hpos
            go_wp2_with fail
            refine wp_region_any (by kernel_rfl) ?_
            try (change wpAny _ _ _ _ _ _ _ (World.drew _))
            refine wpAny_take (i := 0) (v := ?_) rfl (by kernel_rfl) (by kernel_rfl) (by kernel_rfl) (fun _ _ _ h => h) (Or.inl ⟨by kernel_rfl, ?_⟩) ?_
            rotate_left 1
            · (intro w; first | (go_simp; done) | (go_simp; with_reducible rfl))
            change wpAny _ _ _ _ _ _ (Act.put _ (some 10) _) _
            refine wpAny_take (i := 1) (v := ?_) rfl (by kernel_rfl) (by kernel_rfl) (by kernel_rfl) (fun _ _ _ h => h) (Or.inl ⟨by kernel_rfl, ?_⟩) ?_
            rotate_left 1
            · (intro w; first | (go_simp; done) | (go_simp; with_reducible rfl))
            change wpAny _ _ _ _ _ _ (Act.put _ (some 11) _) _
            refine wpAny_take (i := 2) (v := ?_) rfl (by kernel_rfl) (by kernel_rfl) (by kernel_rfl) (fun _ _ _ h => h) (Or.inl ⟨by kernel_rfl, ?_⟩) ?_
            rotate_left 1
            · (intro w; first | (go_simp; done) | (go_simp; with_reducible rfl))
            change wpAny _ _ _ _ _ _ (Act.put _ (some 12) _) _
            refine wpAny_ready (rs := [3]) (by kernel_rfl) (by simp) ?_
            refine AllReady.cons rfl (fun K hK => ?_) AllReady.nil
            go_simp
            refine hK _ _ ?_
            clear hK K
            refine wpAny_ready (rs := [4]) (by kernel_rfl) (by simp) ?_
            refine AllReady.cons rfl (fun K hK => ?_) AllReady.nil
            go_simp
            go_wp2_with (go_at_call 53; refine (H1.out _).mono ?_; rintro e wn ⟨rfl, hwn⟩)
            have s0 := hwr.out _ _ k0
            have s1 := hwr.out _ _ m1
            rw [hwn] at s0 s1
            refine wpAny_take (i := 5) (v := ?_) rfl (by kernel_rfl) (by kernel_rfl) (by kernel_rfl) (fun _ _ _ h => h) (Or.inl ⟨by kernel_rfl, ?_⟩) ?_
            rotate_left 1
            · (intro w; first | (go_simp; done) | (go_simp; with_reducible rfl))
            change wpAny _ _ _ _ _ _ (Act.put _ (some 15) _) _
            refine wpAny_take (i := 6) (v := ?_) rfl (by kernel_rfl) (by kernel_rfl) (by kernel_rfl) (fun _ _ _ h => h) (Or.inl ⟨by kernel_rfl, ?_⟩) ?_
            rotate_left 1
            · (intro w; first | (go_simp; done) | (go_simp; with_reducible rfl))
            change wpAny _ _ _ _ _ _ (Act.put _ (some 16) _) _
            refine wpAny_take (i := 7) (v := ?_) rfl (by kernel_rfl) (by kernel_rfl) (by kernel_rfl) (fun _ _ _ h => h) (Or.inl ⟨by kernel_rfl, ?_⟩) ?_
            rotate_left 1
            · (intro w; first | (go_simp; done) | (go_simp; with_reducible rfl))
            change wpAny _ _ _ _ _ _ (Act.put _ (some 17) _) _
            refine wpAny_take (i := 8) (v := ?_) rfl (by kernel_rfl) (by kernel_rfl) (by kernel_rfl) (fun _ _ _ h => h) (Or.inl ⟨by kernel_rfl, ?_⟩) ?_
            rotate_left 1
            · (intro w; first | (go_simp; done) | (go_simp; with_reducible rfl))
            change wpAny _ _ _ _ _ _ (Act.put _ (some 18) _) _
            refine wpAny_take (i := 9) (v := ?_) rfl (by kernel_rfl) (by kernel_rfl) (by kernel_rfl) (fun _ _ _ h => h) (Or.inl ⟨by kernel_rfl, ?_⟩) ?_
            rotate_left 1
            · (intro w; first | (go_simp; done) | (go_simp; with_reducible rfl))
            change wpAny _ _ _ _ _ _ (Act.put _ (some 19) _) _
            refine wpAny_take (i := 10) (v := ?_) rfl (by kernel_rfl) (by kernel_rfl) (by kernel_rfl) (fun _ _ _ h => h) (Or.inl ⟨by kernel_rfl, ?_⟩) ?_
            rotate_left 1
            · (intro w; first | (go_simp; done) | (go_simp; with_reducible rfl))
            change wpAny _ _ _ _ _ _ (Act.put _ (some 20) _) _
            refine wpAny_take (i := 11) (v := ?_) rfl (by kernel_rfl) (by kernel_rfl) (by kernel_rfl) (fun _ _ _ h => h) (Or.inl ⟨by kernel_rfl, ?_⟩) ?_
            rotate_left 1
            · (intro w; first | (go_simp; done) | (go_simp; with_reducible rfl))
            change wpAny _ _ _ _ _ _ (Act.put _ (some 21) _) _
            refine wpAny_take (i := 12) (v := ?_) rfl (by kernel_rfl) (by kernel_rfl) (by kernel_rfl) (fun _ _ _ h => h) (Or.inl ⟨by kernel_rfl, ?_⟩) ?_
            rotate_left 1
            · (intro w; first | (go_simp; done) | (go_simp; with_reducible rfl))
            change wpAny _ _ _ _ _ _ (Act.put _ (some 22) _) _
            refine wpAny_take (i := 13) (v := ?_) rfl (by kernel_rfl) (by kernel_rfl) (by kernel_rfl) (fun _ _ _ h => h) (Or.inl ⟨by kernel_rfl, ?_⟩) ?_
            rotate_left 1
            · (intro w; first | (go_simp; done) | (go_simp; with_reducible rfl))
            change wpAny _ _ _ _ _ _ (Act.put _ (some 23) _) _
            refine wpAny_take (i := 15) (v := ?_) rfl (by kernel_rfl) (by kernel_rfl) (by kernel_rfl) (fun _ _ _ h => h) (Or.inl ⟨by kernel_rfl, ?_⟩) ?_
            rotate_left 1
            · (intro w; first | (go_simp; done) | (go_simp; with_reducible rfl))
            change wpAny _ _ _ _ _ _ (Act.put _ (some 25) _) _
            refine wpAny_take (i := 16) (v := ?_) rfl (by kernel_rfl) (by kernel_rfl) (by kernel_rfl) (fun _ _ _ h => h) (Or.inl ⟨by kernel_rfl, ?_⟩) ?_
            rotate_left 1
            · (intro w; first | (go_simp; done) | (go_simp; with_reducible rfl))
            change wpAny _ _ _ _ _ _ (Act.put _ (some 26) _) _
            refine wpAny_take (i := 17) (v := ?_) rfl (by kernel_rfl) (by kernel_rfl) (by kernel_rfl) (fun _ _ _ h => h) (Or.inl ⟨by kernel_rfl, ?_⟩) ?_
            rotate_left 1
            · (intro w; first | (go_simp; done) | (go_simp; with_reducible rfl))
            change wpAny _ _ _ _ _ _ (Act.put _ (some 27) _) _
            refine wpAny_take (i := 18) (v := ?_) rfl (by kernel_rfl) (by kernel_rfl) (by kernel_rfl) (fun _ _ _ h => h) (Or.inl ⟨by kernel_rfl, ?_⟩) ?_
            rotate_left 1
            · (intro w; first | (go_simp; done) | (go_simp; with_reducible rfl))
            change wpAny _ _ _ _ _ _ (Act.put _ (some 28) _) _
            refine wpAny_take (i := 19) (v := ?_) rfl (by kernel_rfl) (by kernel_rfl) (by kernel_rfl) (fun _ _ _ h => h) (Or.inl ⟨by kernel_rfl, ?_⟩) ?_
            rotate_left 1
            · (intro w; first | (go_simp; done) | (go_simp; with_reducible rfl))
            change wpAny _ _ _ _ _ _ (Act.put _ (some 29) _) _
            refine wpAny_ready (rs := [14, 20]) (by kernel_rfl) (by simp) ?_
            refine AllReady.cons rfl (fun K hK => ?_) ?_
            focus
              go_simp
              refine hK _ _ ?_
              clear hK K
              refine wpAny_ready (rs := [20]) (by kernel_rfl) (by simp) ?_
              refine AllReady.cons rfl (fun K hK => ?_) AllReady.nil
              go_simp
              refine hK _ _ ?_
              clear hK K
              refine wpAny_take (i := 21) (v := ?_) rfl (by kernel_rfl) (by kernel_rfl) (by kernel_rfl) (fun _ _ _ h => h) (Or.inl ⟨by kernel_rfl, ?_⟩) ?_
              rotate_left 1
              · (intro w; first | (go_simp; done) | (go_simp; with_reducible rfl))
              change wpAny _ _ _ _ _ _ (Act.put _ (some 31) _) _
              refine wpAny_take (i := 22) (v := ?_) rfl (by kernel_rfl) (by kernel_rfl) (by kernel_rfl) (fun _ _ _ h => h) (Or.inl ⟨by kernel_rfl, ?_⟩) ?_
              rotate_left 1
              · (intro w; first | (go_simp; done) | (go_simp; with_reducible rfl))
              change wpAny _ _ _ _ _ _ (Act.put _ (some 32) _) _
              refine wpAny_take (i := 23) (v := ?_) rfl (by kernel_rfl) (by kernel_rfl) (by kernel_rfl) (fun _ _ _ h => h) (Or.inl ⟨by kernel_rfl, ?_⟩) ?_
              rotate_left 1
              · (intro w; first | (go_simp; done) | (go_simp; with_reducible rfl))
              change wpAny _ _ _ _ _ _ (Act.put _ (some 33) _) _
              refine wpAny_done (by kernel_rfl) ?_ _
              go_simp
              go_wp2
              go_roundg (n - (i + 1 + 1))
              case measure => omega
              case rel => exact ⟨i + 1 + 1, by simp, by omega, rfl, HI2, Lib.hid (HB.out.trans ((show Below wr.heap.size wr wn from by rw [← hwn]; exact ((Below.refl _ _).drew).alloc (Nat.le_refl _) _).mono HB.out.size))⟩
            refine AllReady.cons rfl (fun K hK => ?_) AllReady.nil
            go_simp
            refine hK _ _ ?_
            clear hK K
            refine wpAny_ready (rs := [14]) (by kernel_rfl) (by simp) ?_
            refine AllReady.cons rfl (fun K hK => ?_) AllReady.nil
            go_simp
            refine hK _ _ ?_
            clear hK K
            refine wpAny_take (i := 21) (v := ?_) rfl (by kernel_rfl) (by kernel_rfl) (by kernel_rfl) (fun _ _ _ h => h) (Or.inl ⟨by kernel_rfl, ?_⟩) ?_
            rotate_left 1
            · (intro w; first | (go_simp; done) | (go_simp; with_reducible rfl))
            change wpAny _ _ _ _ _ _ (Act.put _ (some 31) _) _
            refine wpAny_take (i := 22) (v := ?_) rfl (by kernel_rfl) (by kernel_rfl) (by kernel_rfl) (fun _ _ _ h => h) (Or.inl ⟨by kernel_rfl, ?_⟩) ?_
            rotate_left 1
            · (intro w; first | (go_simp; done) | (go_simp; with_reducible rfl))
            change wpAny _ _ _ _ _ _ (Act.put _ (some 32) _) _
            refine wpAny_take (i := 23) (v := ?_) rfl (by kernel_rfl) (by kernel_rfl) (by kernel_rfl) (fun _ _ _ h => h) (Or.inl ⟨by kernel_rfl, ?_⟩) ?_
            rotate_left 1
            · (intro w; first | (go_simp; done) | (go_simp; with_reducible rfl))
            change wpAny _ _ _ _ _ _ (Act.put _ (some 33) _) _
            refine wpAny_done (by kernel_rfl) ?_ _
            go_simp
            go_wp2
            go_roundg (n - (i + 1 + 1))
            case measure => omega
            case rel => exact ⟨i + 1 + 1, by simp, by omega, rfl, HI2, Lib.hid (HB.out.trans ((show Below wr.heap.size wr wn from by rw [← hwn]; exact ((Below.refl _ _).drew).alloc (Nat.le_refl _) _).mono HB.out.size))⟩
      · have HPP : ∀ W, Below w.heap.size w W → Hid (P (.returned (.bool false)) W) := fun W hb => by
          rw [← HP.out]
          exact Lib.hid ⟨by rw [decide_eq_false (not_right_ok HX.out hok)], hb⟩
        have hdec : decide (okR x) = false := decide_eq_false hok
        obtain ⟨a, b, v⟩ := x
        simp only at k0 k1 k2
        have H1 := Lib.hid (show ∀ W, Calls Tryz.prog 53 #[.agg #[.int .i64 a, .int .i64 b, .int .i64 v]] W fun e w' => e = .returned (.bool false) ∧ W.alloc (rngO (a, b, v)) = w' from fun W => by have := one_any (a, b, v) W; rwa [hdec] at this)
        clear hc hx hok hdec
        go_wp2_with fail
        refine wp_region_any (by kernel_rfl) ?_
        try (change wpAny _ _ _ _ _ _ _ (World.drew _))
        refine wpAny_take (i := 0) (v := ?_) rfl (by kernel_rfl) (by kernel_rfl) (by kernel_rfl) (fun _ _ _ h => h) (Or.inl ⟨by kernel_rfl, ?_⟩) ?_
        rotate_left 1
        · (intro w; first | (go_simp; done) | (go_simp; with_reducible rfl))
        change wpAny _ _ _ _ _ _ (Act.put _ (some 10) _) _
        refine wpAny_take (i := 1) (v := ?_) rfl (by kernel_rfl) (by kernel_rfl) (by kernel_rfl) (fun _ _ _ h => h) (Or.inl ⟨by kernel_rfl, ?_⟩) ?_
        rotate_left 1
        · (intro w; first | (go_simp; done) | (go_simp; with_reducible rfl))
        change wpAny _ _ _ _ _ _ (Act.put _ (some 11) _) _
        refine wpAny_take (i := 2) (v := ?_) rfl (by kernel_rfl) (by kernel_rfl) (by kernel_rfl) (fun _ _ _ h => h) (Or.inl ⟨by kernel_rfl, ?_⟩) ?_
        rotate_left 1
        · (intro w; first | (go_simp; done) | (go_simp; with_reducible rfl))
        change wpAny _ _ _ _ _ _ (Act.put _ (some 12) _) _
        refine wpAny_ready (rs := [3]) (by kernel_rfl) (by simp) ?_
        refine AllReady.cons rfl (fun K hK => ?_) AllReady.nil
        go_simp
        refine hK _ _ ?_
        clear hK K
        refine wpAny_ready (rs := [4]) (by kernel_rfl) (by simp) ?_
        refine AllReady.cons rfl (fun K hK => ?_) AllReady.nil
        go_simp
        go_wp2_with (go_at_call 53; refine (H1.out _).mono ?_; rintro e wn ⟨rfl, hwn⟩)
        refine wpAny_take (i := 5) (v := ?_) rfl (by kernel_rfl) (by kernel_rfl) (by kernel_rfl) (fun _ _ _ h => h) (Or.inl ⟨by kernel_rfl, ?_⟩) ?_
        rotate_left 1
        · (intro w; first | (go_simp; done) | (go_simp; with_reducible rfl))
        change wpAny _ _ _ _ _ _ (Act.put _ (some 15) _) _
        refine wpAny_take (i := 6) (v := ?_) rfl (by kernel_rfl) (by kernel_rfl) (by kernel_rfl) (fun _ _ _ h => h) (Or.inl ⟨by kernel_rfl, ?_⟩) ?_
        rotate_left 1
        · (intro w; first | (go_simp; done) | (go_simp; with_reducible rfl))
        change wpAny _ _ _ _ _ _ (Act.put _ (some 16) _) _
        refine wpAny_take (i := 7) (v := undef) rfl (by kernel_rfl) (by kernel_rfl) (by kernel_rfl) (fun _ _ _ h => h) (Or.inr ⟨by kernel_rfl, rfl⟩) ?_
        change wpAny _ _ _ _ _ _ (Act.put _ (some 17) _) _
        refine wpAny_take (i := 8) (v := undef) rfl (by kernel_rfl) (by kernel_rfl) (by kernel_rfl) (fun _ _ _ h => h) (Or.inr ⟨by kernel_rfl, rfl⟩) ?_
        change wpAny _ _ _ _ _ _ (Act.put _ (some 18) _) _
        refine wpAny_take (i := 9) (v := undef) rfl (by kernel_rfl) (by kernel_rfl) (by kernel_rfl) (fun _ _ _ h => h) (Or.inr ⟨by kernel_rfl, rfl⟩) ?_
        change wpAny _ _ _ _ _ _ (Act.put _ (some 19) _) _
        refine wpAny_take (i := 10) (v := undef) rfl (by kernel_rfl) (by kernel_rfl) (by kernel_rfl) (fun _ _ _ h => h) (Or.inr ⟨by kernel_rfl, rfl⟩) ?_
        change wpAny _ _ _ _ _ _ (Act.put _ (some 20) _) _
        refine wpAny_take (i := 11) (v := undef) rfl (by kernel_rfl) (by kernel_rfl) (by kernel_rfl) (fun _ _ _ h => h) (Or.inr ⟨by kernel_rfl, rfl⟩) ?_
        change wpAny _ _ _ _ _ _ (Act.put _ (some 21) _) _
        refine wpAny_take (i := 12) (v := undef) rfl (by kernel_rfl) (by kernel_rfl) (by kernel_rfl) (fun _ _ _ h => h) (Or.inr ⟨by kernel_rfl, rfl⟩) ?_
        change wpAny _ _ _ _ _ _ (Act.put _ (some 22) _) _
        refine wpAny_take (i := 13) (v := undef) rfl (by kernel_rfl) (by kernel_rfl) (by kernel_rfl) (fun _ _ _ h => h) (Or.inr ⟨by kernel_rfl, rfl⟩) ?_
        change wpAny _ _ _ _ _ _ (Act.put _ (some 23) _) _
        refine wpAny_take (i := 14) (v := undef) rfl (by kernel_rfl) (by kernel_rfl) (by kernel_rfl) (fun _ _ _ h => h) (Or.inr ⟨by kernel_rfl, rfl⟩) ?_
        change wpAny _ _ _ _ _ _ (Act.put _ (some 24) _) _
        refine wpAny_take (i := 15) (v := undef) rfl (by kernel_rfl) (by kernel_rfl) (by kernel_rfl) (fun _ _ _ h => h) (Or.inr ⟨by kernel_rfl, rfl⟩) ?_
        change wpAny _ _ _ _ _ _ (Act.put _ (some 25) _) _
        refine wpAny_take (i := 16) (v := undef) rfl (by kernel_rfl) (by kernel_rfl) (by kernel_rfl) (fun _ _ _ h => h) (Or.inr ⟨by kernel_rfl, rfl⟩) ?_
        change wpAny _ _ _ _ _ _ (Act.put _ (some 26) _) _
        refine wpAny_take (i := 17) (v := undef) rfl (by kernel_rfl) (by kernel_rfl) (by kernel_rfl) (fun _ _ _ h => h) (Or.inr ⟨by kernel_rfl, rfl⟩) ?_
        change wpAny _ _ _ _ _ _ (Act.put _ (some 27) _) _
        refine wpAny_take (i := 18) (v := undef) rfl (by kernel_rfl) (by kernel_rfl) (by kernel_rfl) (fun _ _ _ h => h) (Or.inr ⟨by kernel_rfl, rfl⟩) ?_
        change wpAny _ _ _ _ _ _ (Act.put _ (some 28) _) _
        refine wpAny_take (i := 19) (v := undef) rfl (by kernel_rfl) (by kernel_rfl) (by kernel_rfl) (fun _ _ _ h => h) (Or.inr ⟨by kernel_rfl, rfl⟩) ?_
        change wpAny _ _ _ _ _ _ (Act.put _ (some 29) _) _
        refine wpAny_take (i := 20) (v := undef) rfl (by kernel_rfl) (by kernel_rfl) (by kernel_rfl) (fun _ _ _ h => h) (Or.inr ⟨by kernel_rfl, rfl⟩) ?_
        change wpAny _ _ _ _ _ _ (Act.put _ (some 30) _) _
        refine wpAny_take (i := 21) (v := undef) rfl (by kernel_rfl) (by kernel_rfl) (by kernel_rfl) (fun _ _ _ h => h) (Or.inr ⟨by kernel_rfl, rfl⟩) ?_
        change wpAny _ _ _ _ _ _ (Act.put _ (some 31) _) _
        refine wpAny_take (i := 22) (v := undef) rfl (by kernel_rfl) (by kernel_rfl) (by kernel_rfl) (fun _ _ _ h => h) (Or.inr ⟨by kernel_rfl, rfl⟩) ?_
        change wpAny _ _ _ _ _ _ (Act.put _ (some 32) _) _
        refine wpAny_take (i := 23) (v := ?_) rfl (by kernel_rfl) (by kernel_rfl) (by kernel_rfl) (fun _ _ _ h => h) (Or.inl ⟨by kernel_rfl, ?_⟩) ?_
        rotate_left 1
        · (intro w; first | (go_simp; done) | (go_simp; with_reducible rfl))
        change wpAny _ _ _ _ _ _ (Act.put _ (some 33) _) _
        refine wpAny_done (by kernel_rfl) ?_ _
        go_simp
        have HQ := HPP wn (HB.out.trans ((show Below wr.heap.size wr wn from by rw [← hwn]; exact ((Below.refl _ _).drew).alloc (Nat.le_refl _) _).mono HB.out.size))
        clear HPP
        go_wp2
        exact HQ.out
    · obtain rfl : j = n := by omega
      have hI := HI.out
      rw [List.take_of_length_le (by rw [HN.out]; exact Nat.le_refl _)] at hI
      have hdec : decide (rightL l) = decide (((j : Nat) : Int) ≤ 600) := by
        have : rightL l ↔ ((j : Nat) : Int) ≤ 600 := ⟨fun h => by have := h.2; rw [HN.out] at this; omega, fun h => ⟨⟨hI.1, (adj_map hI.1).1 hI.2⟩, by rw [HN.out]; omega⟩⟩
        simp only [this]
      have HPP : Hid (P (.returned (.bool (decide (((j : Nat) : Int) ≤ 600)))) wr) := by
        rw [← HP.out]
        exact Lib.hid ⟨by rw [hdec], HB.out⟩
      clear hI hdec
      go_wp2_with fail
      exact HPP.out
end Go.Proofs.YtfgnpdfdncnbfaaGreatDoor

namespace Go.Proofs.YtfgnpdfdncnbfaaGreatDoor
open Go.RowKit Go.Shelf Go.Maps
attribute [local go_sem ↓] app_hide

set_option maxRecDepth 100000 in
set_option maxHeartbeats 2000000 in
theorem refAdd_any {o : Option Addr} {m : List Rng} {cap base : Nat} (x : Rng) (w : World) (ho : w.ownsRow base 53 3 (.slice o m.length cap) m.length (cellsR m)) (hb : ∀ y ∈ m, -1000000 ≤ y.2.1 ∧ y.2.1 ≤ 10000000) (hn : m.length ≤ 10000) (hbase : base ≤ w.heap.size) :
    Calls Tryz.prog 55 #[.slice o m.length cap, rngV x] w (JoinPost m x base (.slice o m.length cap) w) := by
  obtain ⟨w1, hw1⟩ : ∃ w1, w.alloc (rngO x) = w1 := ⟨_, rfl⟩
  have A1 : Below w.heap.size w w1 := by rw [← hw1]; exact (Below.refl _ _).alloc (Nat.le_refl _) _
  have z1 : w1.heap.size = w.heap.size + 1 := by rw [← hw1]; simp
  have x1 : w1.heap[w.heap.size]? = some (rngO x) := by rw [← hw1]; exact heap_alloc_new _ _
  have o1 := own_below ho A1
  have grow : (∀ y, m.getLast? = some y → ¬ (y.2.1 + 1 = x.1 ∧ y.2.2 = x.2.2)) → ∀ q, ∃ g6 cap6 w6, (appSem #[26, 26] 26 #[.slice o m.length cap, .slice (some ⟨w1.heap.size, 0, none⟩) 1 1]).run Tryz.prog ((w1.drewN q).alloc (rngO x)) = .ok (.slice (some ⟨g6, 0, none⟩) (m.length + 1) cap6) w6 ∧
      JoinPost m x base (.slice o m.length cap) w (.returned (.slice (some ⟨g6, 0, none⟩) (m.length + 1) cap6)) w6 := fun hno q => by
    have A2 : Below w1.heap.size w1 ((w1.drewN q).alloc (rngO x)) := (Moves.below (Below.refl _ _) (Nat.le_refl _) (moves_drewN1 w1 q) (fun k h => h.elim)).alloc (Nat.le_refl _) _
    have o2 := own_below o1 A2
    obtain ⟨g6, cap6, w6, hr, own6, gr6, hat⟩ := rng_own x o2 (by omega) (by have := A2.size; omega) (e := w1.heap.size) (heap_alloc_new (w1.drewN q) _)
    have hj : joinL m x = m ++ [x] := by
      unfold joinL
      cases hl : m.getLast? with
      | none => rfl
      | some y => simp only; rw [if_neg (hno y hl)]
    refine ⟨g6, cap6, w6, hr, g6, cap6, ?_, ?_, ?_, ?_⟩
    · rw [hj]; simp
    · rw [hj, cellsR_append, List.length_append]; exact own6
    · exact (Moves.of_below (A1.trans (A2.mono (by omega)))).trans ((Moves.of_grownN gr6).mono fun k hk => hk.symm)
    · rcases hat g6 (by simp [Value.ownBlock]) with h | h
      · exact .inl h
      · exact .inr (by have := A2.size; omega)
  have ext : ∀ d y, m = d ++ [y] → (y.2.1 + 1 = x.1 ∧ y.2.2 = x.2.2) → ∀ g, o = some ⟨g, 0, none⟩ → ∀ q, JoinPost m x base (.slice o m.length cap) w (.returned (.slice (some ⟨g, 0, none⟩) m.length cap)) ((w1.drewN q).setCell ⟨g, d.length * 3 + 1, none⟩ (.int .i64 x.2.1)) := fun d y hd hy g hg q => by
    subst hg
    have hl : m.getLast? = some y := by rw [hd]; simp
    have hdl : m.dropLast = d := by rw [hd]; simp
    have hj : joinL m x = d ++ [(y.1, x.2.1, y.2.2)] := by
      unfold joinL
      rw [hl]
      simp only
      rw [if_pos hy, hdl]
    have hlen : (joinL m x).length = m.length := by rw [hj, hd]; simp
    have hml : m.length = d.length + 1 := by rw [hd]; simp
    have o2 : (w1.drewN q).ownsRow base 53 3 (.slice (some ⟨g, 0, none⟩) m.length cap) m.length (cellsR m) := own_below o1 (Moves.below (Below.refl _ _) (Nat.le_refl _) (moves_drewN1 w1 q) (fun k h => h.elim))
    rw [hml] at o2
    have o3 := own_set (d := d) (y := y) x.2.1 (by rw [← hd]; exact o2)
    refine ⟨g, cap, by rw [hlen], ?_, ?_, .inl rfl⟩
    · rw [hlen, hj, hml]; exact o3
    · exact ((Moves.of_below A1).trans ((moves_drewN1 w1 q).mono fun k h => h.elim)).trans (Moves.setCell (by rfl))
  obtain ⟨P, hP⟩ : ∃ P, JoinPost m x base (.slice o m.length cap) w = P := ⟨_, rfl⟩
  rw [hP] at grow ext ⊢
  have GR := Lib.hid grow
  have EX := Lib.hid ext
  have HO1 := Lib.hid o1
  have HW1 := Lib.hid hw1
  have HBD := Lib.hid hb
  obtain ⟨n, hnn⟩ : ∃ n, m.length = n := ⟨_, rfl⟩
  have HN := Lib.hid hnn
  rw [hnn] at hn ⊢
  obtain ⟨q0, q1, q2, _⟩ := rng_cells x1
  clear grow ext hP ho o1 hw1 A1 x1 hnn hb
  obtain ⟨a, b, v⟩ := x
  simp only at q0 q1 q2 GR EX HW1
  go_enter Tryz.func55, Tryz.ntmps55
  go_wp2_with fail
  rw [HW1.out]
  rcases Nat.eq_zero_or_pos n with h0 | hpos
  · subst h0
    have hm0 : m = [] := List.eq_nil_of_length_eq_zero HN.out
    have G2 := Lib.hid (GR.out (fun y hy => by rw [hm0] at hy; simp at hy))
    clear hm0 GR EX
    go_wp2_with fail
    go_quiet (fail)
    obtain ⟨g6, cap6, w6, hr, hp⟩ := G2.out nq
    rw [HN.out] at hr hp
    obtain ⟨w2, hw2⟩ : ∃ w2, w1.drewN nq = w2 := ⟨_, rfl⟩
    have s0 : w2.cell? ⟨w.heap.size, 0, none⟩ = some (.int .i64 a) := by rw [← hw2]; exact q0
    have s1 : w2.cell? ⟨w.heap.size, 1, none⟩ = some (.int .i64 b) := by rw [← hw2]; exact q1
    have s2 : w2.cell? ⟨w.heap.size, 2, none⟩ = some (.int .i64 v) := by rw [← hw2]; exact q2
    have z2 : w2.heap.size = w1.heap.size := by rw [← hw2]; rfl
    rw [hw2] at hr ⊢
    rw [z1] at hr
    have HPP := Lib.hid hp
    clear hp hw2 q0 q1 q2
    go_wp2
    exact HPP.out
  · obtain ⟨k, rfl⟩ : ∃ k, n = k + 1 := ⟨n - 1, by omega⟩
    obtain ⟨y, hy⟩ : ∃ y, m[k]? = some y := ⟨_, List.getElem?_eq_getElem (by rw [HN.out]; omega)⟩
    have hd : m = m.take k ++ [y] := by
      have h1 : m = m.take (k + 1) := (List.take_of_length_le (by rw [HN.out]; exact Nat.le_refl _)).symm
      rw [List.take_add_one, hy] at h1
      exact h1
    have hdl : (m.take k).length = k := by rw [List.length_take, HN.out]; omega
    have hlast : m.getLast? = some y := by rw [List.getLast?_eq_getElem?, HN.out]; exact hy
    obtain ⟨g, rfl⟩ : ∃ g, o = some ⟨g, 0, none⟩ := by
      rcases HO1.out.2 with ⟨hv, h0⟩ | ⟨g', cap', cur, hv, _⟩
      · rw [HN.out] at h0; omega
      · exact ⟨g', by simpa using (Value.slice.inj hv).1⟩
    obtain ⟨k0, k1, k2, fz⟩ := own_at HO1.out hy
    have hyb := HBD.out y (List.mem_of_getElem? hy)
    have hgl := World.block_lt_of_cell? w1 _ k0
    obtain ⟨ya, yb, yv⟩ := y
    simp only at k0 k1 k2 hyb
    have hwy : IntKind.i64.wrap (yb + 1) = yb + 1 := wrap_id (by omega) (by omega)
    have hwk : IntKind.i64.wrap (((k : Nat) : Int) + 1 - 1) = (k : Nat) := by rw [show ((k : Nat) : Int) + 1 - 1 = (k : Nat) from by omega]; exact wrap_id (by omega) (by omega)
    have hwk2 : IntKind.i64.wrap ((k : Nat) : Int) = (k : Nat) := wrap_id (by omega) (by omega)
    have hkb : k < 1000000 := by omega
    by_cases e1 : yb + 1 = a
    · have hb1 : (yb + 1 == a) = true := by simpa using e1
      by_cases e2 : yv = v
      · have hb2 : (yv == v) = true := by simpa using e2
        have E2 := Lib.hid fun q => EX.out _ _ hd ⟨e1, e2⟩ g rfl q
        have HDL := Lib.hid hdl
        clear EX GR hd hlast hy hdl e1 e2
        go_wp2_with fail
        go_quiet (fail)
        have hp := E2.out nq
        rw [HN.out, HDL.out] at hp
        obtain ⟨w2, hw2⟩ : ∃ w2, w1.drewN nq = w2 := ⟨_, rfl⟩
        have s1 : w2.cell? ⟨w.heap.size, 1, none⟩ = some (.int .i64 b) := by rw [← hw2]; exact q1
        have t1 : w2.cell? ⟨g, k * 3 + 1, none⟩ = some (.int .i64 yb) := by rw [← hw2]; exact k1
        have t2 : w2.frozen? ⟨g, k * 3 + 1, none⟩ = false := by rw [← hw2]; exact fz
        rw [hw2] at hp ⊢
        have HPP := Lib.hid hp
        clear hp hw2 q0 q1 q2 k0 k1 k2 fz
        go_wp2
        exact HPP.out
      · have hb2 : (yv == v) = false := by simpa using e2
        have G2 := Lib.hid (GR.out (fun z hz => by rw [hlast] at hz; cases hz; exact fun h => e2 h.2))
        clear EX GR hd hlast hy hdl e1 e2
        go_wp2_with fail
        go_quiet (fail)
        obtain ⟨g6, cap6, w6, hr, hp⟩ := G2.out nq
        rw [HN.out] at hr hp
        obtain ⟨w2, hw2⟩ : ∃ w2, w1.drewN nq = w2 := ⟨_, rfl⟩
        have s0 : w2.cell? ⟨w.heap.size, 0, none⟩ = some (.int .i64 a) := by rw [← hw2]; exact q0
        have s1 : w2.cell? ⟨w.heap.size, 1, none⟩ = some (.int .i64 b) := by rw [← hw2]; exact q1
        have s2 : w2.cell? ⟨w.heap.size, 2, none⟩ = some (.int .i64 v) := by rw [← hw2]; exact q2
        have z2 : w2.heap.size = w1.heap.size := by rw [← hw2]; rfl
        rw [hw2] at hr ⊢
        rw [z1] at hr
        have HPP := Lib.hid hp
        clear hp hw2 q0 q1 q2
        go_wp2
        exact HPP.out
    · have hb1 : (yb + 1 == a) = false := by simpa using e1
      have G2 := Lib.hid (GR.out (fun z hz => by rw [hlast] at hz; cases hz; exact fun h => e1 h.1))
      clear EX GR hd hlast hy hdl e1
      go_wp2_with fail
      go_quiet (fail)
      obtain ⟨g6, cap6, w6, hr, hp⟩ := G2.out nq
      rw [HN.out] at hr hp
      obtain ⟨w2, hw2⟩ : ∃ w2, w1.drewN nq = w2 := ⟨_, rfl⟩
      have s0 : w2.cell? ⟨w.heap.size, 0, none⟩ = some (.int .i64 a) := by rw [← hw2]; exact q0
      have s1 : w2.cell? ⟨w.heap.size, 1, none⟩ = some (.int .i64 b) := by rw [← hw2]; exact q1
      have s2 : w2.cell? ⟨w.heap.size, 2, none⟩ = some (.int .i64 v) := by rw [← hw2]; exact q2
      have z2 : w2.heap.size = w1.heap.size := by rw [← hw2]; rfl
      rw [hw2] at hr ⊢
      rw [z1] at hr
      have HPP := Lib.hid hp
      clear hp hw2 q0 q1 q2
      go_wp2
      exact HPP.out
end Go.Proofs.YtfgnpdfdncnbfaaGreatDoor
