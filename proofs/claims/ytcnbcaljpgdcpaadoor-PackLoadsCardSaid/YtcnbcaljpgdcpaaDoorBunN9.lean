/- The document's ownN Right and Count, of ranges. What the cards' ownN ties give: what the library's variables hold that the calls look at; a world for the witness; the last step of each row. An argument that is a list of records: what its reading says of the memory. -/
import Derived.Test.YtcnbcaljpgdcpaaDoorBunN7
import Derived.Test.YtcnbcaljpgdcpaaDoorBunN3
import Derived.Test.YtcnbcaljpgdcpaaDoorCards
import Derived.Test.YtcnbcaljpgdcpaaDoorTie
import Derived.Test.YtcnbcaljpgdcpaaDoorChecked
import Derived.ProofKit
import Derived.OpenShut
import Derived.Below
import Derived.ChangeSame
import Derived.Carry
import Derived.Deep.DeepHandedRow
import Derived.Deep.DeepWitnessRowRef
import Derived.LaidSub
import Derived.LaidHandle
import Derived.Lay
import Derived.MakeChecks
import Derived.Shelf.Vars
import Derived.SliceStrings
import Derived.LaidMore
import Derived.Deep.Strs
namespace Go.Proofs.YtcnbcaljpgdcpaaDoor
open Go.RowKit Go.Shelf Go.Maps
attribute [local go_sem] Oper.semAt_some

theorem right_take {l : List Rng} {j : Nat} {x : Rng} (hx : l[j]? = some x) (ho : ∀ y ∈ l.take j, okR y) (h : okR x) : ∀ y ∈ l.take (j + 1), okR y := by
  intro y hy
  rw [List.take_add_one, hx] at hy
  rcases List.mem_append.1 hy with h1 | h1
  · exact ho y h1
  · simp at h1; rw [h1]; exact h
theorem not_right_ok {l : List Rng} {j : Nat} {x : Rng} (hx : l[j]? = some x) (h : ¬ okR x) : ¬ rightL l := fun hr => h (hr.1.1 x (List.mem_of_getElem? hx))
theorem not_right_lap {l : List Rng} {j : Nat} {x y : Rng} (hy : l[j]? = some y) (hx : l[j + 1]? = some x) (h : x.1 ≤ y.2.1) : ¬ rightL l := fun hr => by
  have := (adj_map hr.1.1).2 hr.1.2 j y x hy hx
  omega
set_option maxRecDepth 100000 in
set_option maxHeartbeats 4000000 in
theorem refRight_any (o : Option Addr) (l : List Rng) (cap : Nat) (hn : l.length ≤ 1000000) (w : World) (hA : AtR w o l) :
    Calls Tryd.prog 44 #[.slice o l.length cap] w fun e w' => e = .returned (.bool (decide (rightL l))) ∧ Below w.heap.size w w' := by
  obtain ⟨n, hnn⟩ : ∃ n, l.length = n := ⟨_, rfl⟩
  rw [hnn] at hn ⊢
  have HN := Lib.hid hnn
  have HA := Lib.hid hA
  obtain ⟨P, hP⟩ : ∃ P, (fun (e : Ending) w' => e = .returned (.bool (decide (rightL l))) ∧ Below w.heap.size w w') = P := ⟨_, rfl⟩
  have HP := Lib.hid hP
  rw [hP]
  clear hP hA hnn
  go_enter Tryd.func44, Tryd.ntmps44
  go_wp2_with fail
  go_loopg [3] n (fun k v wr => ∃ (j : Nat), v = .int .i64 (j : Nat) ∧ j ≤ n ∧ k = n - j ∧ Hid ((∀ y ∈ l.take j, okR y) ∧ adjL (l.take j)) ∧ Hid (Below w.heap.size w wr))
  case atStart => exact ⟨0, rfl, Nat.zero_le _, rfl, Lib.hid ⟨fun y hy => by simp at hy, fun i x y hx => by simp at hx⟩, Lib.hid (Below.refl _ _)⟩
  case round =>
    obtain ⟨j, rfl, hj, rfl, HI, HB⟩ := hrel
    rcases Nat.lt_or_ge j n with hlt | hge
    · have hj1 : j < 1000000 := by omega
      obtain ⟨x, hx⟩ : ∃ x, l[j]? = some x := ⟨_, List.getElem?_eq_getElem (by rw [HN.out]; exact hlt)⟩
      obtain ⟨g, off, rfl, hc⟩ := (HA.out.below HB.out) (by rw [HN.out]; omega)
      obtain ⟨k0, k1, k2⟩ := hc j x hx
      have hg := World.block_lt_of_cell? wr _ k0
      have HX := Lib.hid hx
      have HC := Lib.hid hc
      by_cases hok : okR x
      · rcases Nat.eq_zero_or_pos j with hz | hpos
        · subst hz
          have HI2 := Lib.hid (show (∀ y ∈ l.take (0 + 1), okR y) ∧ adjL (l.take (0 + 1)) from ⟨right_take HX.out HI.out.1 hok, adj_snoc HX.out HI.out.2 (fun i y hi => by omega)⟩)
          have hdec : decide (okR x) = true := decide_eq_true hok
          obtain ⟨a, b, v⟩ := x
          simp only [Nat.zero_mul, Nat.add_zero] at k0 k1 k2
          have H1 := Lib.hid (show ∀ W, Calls Tryd.prog 64 #[.agg #[.int .i64 a, .int .i64 b, .int .i64 v]] W fun e w' => e = .returned (.bool true) ∧ W.alloc (rngO (a, b, v)) = w' from fun W => by have := one_any (a, b, v) W; rwa [hdec] at this)
          clear hc hx hok hdec
          go_wp2_with fail
          refine wp_region_any (by kernel_rfl) ?_
          try (change wpAny _ _ _ _ _ _ _ (World.drew _))
          refine wpAny_take (i := 0) (v := ?_) rfl (by kernel_rfl) (by kernel_rfl) (by kernel_rfl) (fun _ _ _ h => h) (Or.inl ⟨by kernel_rfl, ?_⟩) ?_
          rotate_left 1
          · (intro w; first | (go_simp; done) | (go_simp; with_reducible rfl))
          change wpAny _ _ _ _ _ _ (Act.put _ (some 10) _) _
          refine wpAny_take (i := 1) (v := ?_) rfl (by kernel_rfl) (by kernel_rfl) (by kernel_rfl) (fun _ _ _ h => h) (Or.inl ⟨by kernel_rfl, ?_⟩) ?_
          rotate_left 1
          · (intro w; first | (go_simp; done) | (go_simp; with_reducible rfl))
          change wpAny _ _ _ _ _ _ (Act.put _ (some 11) _) _
          refine wpAny_take (i := 2) (v := ?_) rfl (by kernel_rfl) (by kernel_rfl) (by kernel_rfl) (fun _ _ _ h => h) (Or.inl ⟨by kernel_rfl, ?_⟩) ?_
          rotate_left 1
          · (intro w; first | (go_simp; done) | (go_simp; with_reducible rfl))
          change wpAny _ _ _ _ _ _ (Act.put _ (some 12) _) _
          refine wpAny_ready (rs := [3]) (by kernel_rfl) (by simp) ?_
          refine AllReady.cons rfl (fun K hK => ?_) AllReady.nil
          go_simp
          refine hK _ _ ?_
          clear hK K
          refine wpAny_ready (rs := [4]) (by kernel_rfl) (by simp) ?_
          refine AllReady.cons rfl (fun K hK => ?_) AllReady.nil
          go_simp
          go_wp2_with (go_at_call 64; refine (H1.out _).mono ?_; rintro e wn ⟨rfl, hwn⟩)
          refine wpAny_take (i := 5) (v := ?_) rfl (by kernel_rfl) (by kernel_rfl) (by kernel_rfl) (fun _ _ _ h => h) (Or.inl ⟨by kernel_rfl, ?_⟩) ?_
          rotate_left 1
          · (intro w; first | (go_simp; done) | (go_simp; with_reducible rfl))
          change wpAny _ _ _ _ _ _ (Act.put _ (some 15) _) _
          refine wpAny_take (i := 6) (v := ?_) rfl (by kernel_rfl) (by kernel_rfl) (by kernel_rfl) (fun _ _ _ h => h) (Or.inl ⟨by kernel_rfl, ?_⟩) ?_
          rotate_left 1
          · (intro w; first | (go_simp; done) | (go_simp; with_reducible rfl))
          change wpAny _ _ _ _ _ _ (Act.put _ (some 16) _) _
          refine wpAny_take (i := 7) (v := ?_) rfl (by kernel_rfl) (by kernel_rfl) (by kernel_rfl) (fun _ _ _ h => h) (Or.inl ⟨by kernel_rfl, ?_⟩) ?_
          rotate_left 1
          · (intro w; first | (go_simp; done) | (go_simp; with_reducible rfl))
          change wpAny _ _ _ _ _ _ (Act.put _ (some 17) _) _
          refine wpAny_take (i := 8) (v := ?_) rfl (by kernel_rfl) (by kernel_rfl) (by kernel_rfl) (fun _ _ _ h => h) (Or.inl ⟨by kernel_rfl, ?_⟩) ?_
          rotate_left 1
          · (intro w; first | (go_simp; done) | (go_simp; with_reducible rfl))
          change wpAny _ _ _ _ _ _ (Act.put _ (some 18) _) _
          refine wpAny_take (i := 9) (v := ?_) rfl (by kernel_rfl) (by kernel_rfl) (by kernel_rfl) (fun _ _ _ h => h) (Or.inl ⟨by kernel_rfl, ?_⟩) ?_
          rotate_left 1
          · (intro w; first | (go_simp; done) | (go_simp; with_reducible rfl))
          change wpAny _ _ _ _ _ _ (Act.put _ (some 19) _) _
          refine wpAny_take (i := 10) (v := undef) rfl (by kernel_rfl) (by kernel_rfl) (by kernel_rfl) (fun _ _ _ h => h) (Or.inr ⟨by kernel_rfl, rfl⟩) ?_
          change wpAny _ _ _ _ _ _ (Act.put _ (some 20) _) _
          refine wpAny_take (i := 11) (v := undef) rfl (by kernel_rfl) (by kernel_rfl) (by kernel_rfl) (fun _ _ _ h => h) (Or.inr ⟨by kernel_rfl, rfl⟩) ?_
          change wpAny _ _ _ _ _ _ (Act.put _ (some 21) _) _
          refine wpAny_take (i := 12) (v := undef) rfl (by kernel_rfl) (by kernel_rfl) (by kernel_rfl) (fun _ _ _ h => h) (Or.inr ⟨by kernel_rfl, rfl⟩) ?_
          change wpAny _ _ _ _ _ _ (Act.put _ (some 22) _) _
          refine wpAny_take (i := 13) (v := undef) rfl (by kernel_rfl) (by kernel_rfl) (by kernel_rfl) (fun _ _ _ h => h) (Or.inr ⟨by kernel_rfl, rfl⟩) ?_
          change wpAny _ _ _ _ _ _ (Act.put _ (some 23) _) _
          refine wpAny_take (i := 14) (v := undef) rfl (by kernel_rfl) (by kernel_rfl) (by kernel_rfl) (fun _ _ _ h => h) (Or.inr ⟨by kernel_rfl, rfl⟩) ?_
          change wpAny _ _ _ _ _ _ (Act.put _ (some 24) _) _
          refine wpAny_take (i := 15) (v := undef) rfl (by kernel_rfl) (by kernel_rfl) (by kernel_rfl) (fun _ _ _ h => h) (Or.inr ⟨by kernel_rfl, rfl⟩) ?_
          change wpAny _ _ _ _ _ _ (Act.put _ (some 25) _) _
          refine wpAny_take (i := 16) (v := undef) rfl (by kernel_rfl) (by kernel_rfl) (by kernel_rfl) (fun _ _ _ h => h) (Or.inr ⟨by kernel_rfl, rfl⟩) ?_
          change wpAny _ _ _ _ _ _ (Act.put _ (some 26) _) _
          refine wpAny_take (i := 17) (v := undef) rfl (by kernel_rfl) (by kernel_rfl) (by kernel_rfl) (fun _ _ _ h => h) (Or.inr ⟨by kernel_rfl, rfl⟩) ?_
          change wpAny _ _ _ _ _ _ (Act.put _ (some 27) _) _
          refine wpAny_take (i := 18) (v := undef) rfl (by kernel_rfl) (by kernel_rfl) (by kernel_rfl) (fun _ _ _ h => h) (Or.inr ⟨by kernel_rfl, rfl⟩) ?_
          change wpAny _ _ _ _ _ _ (Act.put _ (some 28) _) _
          refine wpAny_take (i := 19) (v := undef) rfl (by kernel_rfl) (by kernel_rfl) (by kernel_rfl) (fun _ _ _ h => h) (Or.inr ⟨by kernel_rfl, rfl⟩) ?_
          change wpAny _ _ _ _ _ _ (Act.put _ (some 29) _) _
          refine wpAny_take (i := 20) (v := undef) rfl (by kernel_rfl) (by kernel_rfl) (by kernel_rfl) (fun _ _ _ h => h) (Or.inr ⟨by kernel_rfl, rfl⟩) ?_
          change wpAny _ _ _ _ _ _ (Act.put _ (some 30) _) _
          refine wpAny_take (i := 21) (v := undef) rfl (by kernel_rfl) (by kernel_rfl) (by kernel_rfl) (fun _ _ _ h => h) (Or.inr ⟨by kernel_rfl, rfl⟩) ?_
          change wpAny _ _ _ _ _ _ (Act.put _ (some 31) _) _
          refine wpAny_take (i := 22) (v := ?_) rfl (by kernel_rfl) (by kernel_rfl) (by kernel_rfl) (fun _ _ _ h => h) (Or.inl ⟨by kernel_rfl, ?_⟩) ?_
          rotate_left 1
          · (intro w; first | (go_simp; done) | (go_simp; with_reducible rfl))
          change wpAny _ _ _ _ _ _ (Act.put _ (some 32) _) _
          refine wpAny_take (i := 23) (v := ?_) rfl (by kernel_rfl) (by kernel_rfl) (by kernel_rfl) (fun _ _ _ h => h) (Or.inl ⟨by kernel_rfl, ?_⟩) ?_
          rotate_left 1
          · (intro w; first | (go_simp; done) | (go_simp; with_reducible rfl))
          change wpAny _ _ _ _ _ _ (Act.put _ (some 33) _) _
          refine wpAny_done (by kernel_rfl) ?_ _
          go_simp
          go_wp2
          go_roundg (n - (0 + 1))
          case measure => omega
          case rel => exact ⟨0 + 1, by simp, by omega, rfl, HI2, Lib.hid (HB.out.trans ((show Below wr.heap.size wr wn from by rw [← hwn]; exact ((Below.refl _ _).drew).alloc (Nat.le_refl _) _).mono HB.out.size))⟩
        · obtain ⟨i, rfl⟩ : ∃ i, j = i + 1 := ⟨j - 1, by omega⟩
          obtain ⟨y, hy⟩ : ∃ y, l[i]? = some y := ⟨_, List.getElem?_eq_getElem (by rw [HN.out]; omega)⟩
          obtain ⟨m0, m1, m2⟩ := hc i y hy
          have hw1 : IntKind.i64.wrap (((i : Nat) : Int) + 1 - 1) = (i : Nat) := by rw [show ((i : Nat) : Int) + 1 - 1 = (i : Nat) from by omega]; exact wrap_id (by omega) (by omega)
          have hin : i < n := by omega
          have hw4 : IntKind.i64.wrap ((i : Nat) : Int) = (i : Nat) := wrap_id (by omega) (by omega)
          have hw2 : IntKind.i64.wrap (((i : Nat) : Int) + 1) = (i : Nat) + 1 := wrap_id (by omega) (by omega)
          have hw3 : IntKind.i64.wrap (((i : Nat) : Int) + 1 + 1) = (i : Nat) + 1 + 1 := wrap_id (by omega) (by omega)
          have hn1 : (((i : Nat) : Int) + 1).toNat = i + 1 := by omega
          have hn2 : 0 ≤ ((i : Nat) : Int) + 1 := by omega
          have hn3 : 0 < ((i : Nat) : Int) + 1 := by omega
          have hdec : decide (okR x) = true := decide_eq_true hok
          have HY := Lib.hid hy
          by_cases hlap : x.1 ≤ y.2.1
          · have HPP : ∀ W, Below w.heap.size w W → Hid (P (.returned (.bool false)) W) := fun W hb => by
              rw [← HP.out]
              exact Lib.hid ⟨by rw [decide_eq_false (not_right_lap HY.out HX.out hlap)], hb⟩
            obtain ⟨a, b, v⟩ := x
            obtain ⟨ya, yb, yv⟩ := y
            simp only at k0 k1 k2 m0 m1 m2 hlap
            have H1 := Lib.hid (show ∀ W, Calls Tryd.prog 64 #[.agg #[.int .i64 a, .int .i64 b, .int .i64 v]] W fun e w' => e = .returned (.bool true) ∧ W.alloc (rngO (a, b, v)) = w' from fun W => by have := one_any (a, b, v) W; rwa [hdec] at this)
            have hwr : Hid (∀ ad u, wr.cell? ad = some u → (wr.drew.alloc (rngO (a, b, v))).cell? ad = some u) := Lib.hid fun ad u h => cell_keepN (((Below.refl _ _).drew).alloc (Nat.le_refl _) _) h
            clear hc hx hy hok hdec hpos
            go_wp2_with fail
            refine wp_region_any (by kernel_rfl) ?_
            try (change wpAny _ _ _ _ _ _ _ (World.drew _))
            refine wpAny_take (i := 0) (v := ?_) rfl (by kernel_rfl) (by kernel_rfl) (by kernel_rfl) (fun _ _ _ h => h) (Or.inl ⟨by kernel_rfl, ?_⟩) ?_
            rotate_left 1
            · (intro w; first | (go_simp; done) | (go_simp; with_reducible rfl))
            change wpAny _ _ _ _ _ _ (Act.put _ (some 10) _) _
            refine wpAny_take (i := 1) (v := ?_) rfl (by kernel_rfl) (by kernel_rfl) (by kernel_rfl) (fun _ _ _ h => h) (Or.inl ⟨by kernel_rfl, ?_⟩) ?_
            rotate_left 1
            · (intro w; first | (go_simp; done) | (go_simp; with_reducible rfl))
            change wpAny _ _ _ _ _ _ (Act.put _ (some 11) _) _
            refine wpAny_take (i := 2) (v := ?_) rfl (by kernel_rfl) (by kernel_rfl) (by kernel_rfl) (fun _ _ _ h => h) (Or.inl ⟨by kernel_rfl, ?_⟩) ?_
            rotate_left 1
            · (intro w; first | (go_simp; done) | (go_simp; with_reducible rfl))
            change wpAny _ _ _ _ _ _ (Act.put _ (some 12) _) _
            refine wpAny_ready (rs := [3]) (by kernel_rfl) (by simp) ?_
            refine AllReady.cons rfl (fun K hK => ?_) AllReady.nil
            go_simp
            refine hK _ _ ?_
            clear hK K
            refine wpAny_ready (rs := [4]) (by kernel_rfl) (by simp) ?_
            refine AllReady.cons rfl (fun K hK => ?_) AllReady.nil
            go_simp
            go_wp2_with (go_at_call 64; refine (H1.out _).mono ?_; rintro e wn ⟨rfl, hwn⟩)
            have s0 := hwr.out _ _ k0
            have s1 := hwr.out _ _ m1
            rw [hwn] at s0 s1
            refine wpAny_take (i := 5) (v := ?_) rfl (by kernel_rfl) (by kernel_rfl) (by kernel_rfl) (fun _ _ _ h => h) (Or.inl ⟨by kernel_rfl, ?_⟩) ?_
            rotate_left 1
            · (intro w; first | (go_simp; done) | (go_simp; with_reducible rfl))
            change wpAny _ _ _ _ _ _ (Act.put _ (some 15) _) _
            refine wpAny_take (i := 6) (v := ?_) rfl (by kernel_rfl) (by kernel_rfl) (by kernel_rfl) (fun _ _ _ h => h) (Or.inl ⟨by kernel_rfl, ?_⟩) ?_
            rotate_left 1
            · (intro w; first | (go_simp; done) | (go_simp; with_reducible rfl))
            change wpAny _ _ _ _ _ _ (Act.put _ (some 16) _) _
            refine wpAny_take (i := 7) (v := ?_) rfl (by kernel_rfl) (by kernel_rfl) (by kernel_rfl) (fun _ _ _ h => h) (Or.inl ⟨by kernel_rfl, ?_⟩) ?_
            rotate_left 1
            · (intro w; first | (go_simp; done) | (go_simp; with_reducible rfl))
            change wpAny _ _ _ _ _ _ (Act.put _ (some 17) _) _
            refine wpAny_take (i := 8) (v := ?_) rfl (by kernel_rfl) (by kernel_rfl) (by kernel_rfl) (fun _ _ _ h => h) (Or.inl ⟨by kernel_rfl, ?_⟩) ?_
            rotate_left 1
            · (intro w; first | (go_simp; done) | (go_simp; with_reducible rfl))
            change wpAny _ _ _ _ _ _ (Act.put _ (some 18) _) _
            refine wpAny_take (i := 9) (v := ?_) rfl (by kernel_rfl) (by kernel_rfl) (by kernel_rfl) (fun _ _ _ h => h) (Or.inl ⟨by kernel_rfl, ?_⟩) ?_
            rotate_left 1
            · (intro w; first | (go_simp; done) | (go_simp; with_reducible rfl))
            change wpAny _ _ _ _ _ _ (Act.put _ (some 19) _) _
            refine wpAny_take (i := 10) (v := ?_) rfl (by kernel_rfl) (by kernel_rfl) (by kernel_rfl) (fun _ _ _ h => h) (Or.inl ⟨by kernel_rfl, ?_⟩) ?_
            rotate_left 1
            · (intro w; first | (go_simp; done) | (go_simp; with_reducible rfl))
            change wpAny _ _ _ _ _ _ (Act.put _ (some 20) _) _
            refine wpAny_take (i := 11) (v := ?_) rfl (by kernel_rfl) (by kernel_rfl) (by kernel_rfl) (fun _ _ _ h => h) (Or.inl ⟨by kernel_rfl, ?_⟩) ?_
            rotate_left 1
            · (intro w; first | (go_simp; done) | (go_simp; with_reducible rfl))
            change wpAny _ _ _ _ _ _ (Act.put _ (some 21) _) _
            refine wpAny_take (i := 12) (v := ?_) rfl (by kernel_rfl) (by kernel_rfl) (by kernel_rfl) (fun _ _ _ h => h) (Or.inl ⟨by kernel_rfl, ?_⟩) ?_
            rotate_left 1
            · (intro w; first | (go_simp; done) | (go_simp; with_reducible rfl))
            change wpAny _ _ _ _ _ _ (Act.put _ (some 22) _) _
            refine wpAny_take (i := 13) (v := ?_) rfl (by kernel_rfl) (by kernel_rfl) (by kernel_rfl) (fun _ _ _ h => h) (Or.inl ⟨by kernel_rfl, ?_⟩) ?_
            rotate_left 1
            · (intro w; first | (go_simp; done) | (go_simp; with_reducible rfl))
            change wpAny _ _ _ _ _ _ (Act.put _ (some 23) _) _
            refine wpAny_take (i := 15) (v := ?_) rfl (by kernel_rfl) (by kernel_rfl) (by kernel_rfl) (fun _ _ _ h => h) (Or.inl ⟨by kernel_rfl, ?_⟩) ?_
            rotate_left 1
            · (intro w; first | (go_simp; done) | (go_simp; with_reducible rfl))
            change wpAny _ _ _ _ _ _ (Act.put _ (some 25) _) _
            refine wpAny_take (i := 16) (v := ?_) rfl (by kernel_rfl) (by kernel_rfl) (by kernel_rfl) (fun _ _ _ h => h) (Or.inl ⟨by kernel_rfl, ?_⟩) ?_
            rotate_left 1
            · (intro w; first | (go_simp; done) | (go_simp; with_reducible rfl))
            change wpAny _ _ _ _ _ _ (Act.put _ (some 26) _) _
            refine wpAny_take (i := 17) (v := ?_) rfl (by kernel_rfl) (by kernel_rfl) (by kernel_rfl) (fun _ _ _ h => h) (Or.inl ⟨by kernel_rfl, ?_⟩) ?_
            rotate_left 1
            · (intro w; first | (go_simp; done) | (go_simp; with_reducible rfl))
            change wpAny _ _ _ _ _ _ (Act.put _ (some 27) _) _
            refine wpAny_take (i := 18) (v := ?_) rfl (by kernel_rfl) (by kernel_rfl) (by kernel_rfl) (fun _ _ _ h => h) (Or.inl ⟨by kernel_rfl, ?_⟩) ?_
            rotate_left 1
            · (intro w; first | (go_simp; done) | (go_simp; with_reducible rfl))
            change wpAny _ _ _ _ _ _ (Act.put _ (some 28) _) _
            refine wpAny_take (i := 19) (v := ?_) rfl (by kernel_rfl) (by kernel_rfl) (by kernel_rfl) (fun _ _ _ h => h) (Or.inl ⟨by kernel_rfl, ?_⟩) ?_
            rotate_left 1
            · (intro w; first | (go_simp; done) | (go_simp; with_reducible rfl))
            change wpAny _ _ _ _ _ _ (Act.put _ (some 29) _) _
            refine wpAny_ready (rs := [14, 20]) (by kernel_rfl) (by simp) ?_
            refine AllReady.cons rfl (fun K hK => ?_) ?_
            focus
              go_simp
              refine hK _ _ ?_
              clear hK K
              refine wpAny_ready (rs := [20]) (by kernel_rfl) (by simp) ?_
              refine AllReady.cons rfl (fun K hK => ?_) AllReady.nil
              go_simp
              refine hK _ _ ?_
              clear hK K
              refine wpAny_take (i := 21) (v := ?_) rfl (by kernel_rfl) (by kernel_rfl) (by kernel_rfl) (fun _ _ _ h => h) (Or.inl ⟨by kernel_rfl, ?_⟩) ?_
              rotate_left 1
              · (intro w; first | (go_simp; done) | (go_simp; with_reducible rfl))
              change wpAny _ _ _ _ _ _ (Act.put _ (some 31) _) _
              refine wpAny_take (i := 22) (v := ?_) rfl (by kernel_rfl) (by kernel_rfl) (by kernel_rfl) (fun _ _ _ h => h) (Or.inl ⟨by kernel_rfl, ?_⟩) ?_
              rotate_left 1
              · (intro w; first | (go_simp; done) | (go_simp; with_reducible rfl))
              change wpAny _ _ _ _ _ _ (Act.put _ (some 32) _) _
              refine wpAny_take (i := 23) (v := ?_) rfl (by kernel_rfl) (by kernel_rfl) (by kernel_rfl) (fun _ _ _ h => h) (Or.inl ⟨by kernel_rfl, ?_⟩) ?_
              rotate_left 1
              · (intro w; first | (go_simp; done) | (go_simp; with_reducible rfl))
              change wpAny _ _ _ _ _ _ (Act.put _ (some 33) _) _
              refine wpAny_done (by kernel_rfl) ?_ _
              go_simp
              have HQ := HPP wn (HB.out.trans ((show Below wr.heap.size wr wn from by rw [← hwn]; exact ((Below.refl _ _).drew).alloc (Nat.le_refl _) _).mono HB.out.size))
              clear HPP
              go_wp2
              exact HQ.out
            refine AllReady.cons rfl (fun K hK => ?_) AllReady.nil
            go_simp
            refine hK _ _ ?_
            clear hK K
            refine wpAny_ready (rs := [14]) (by kernel_rfl) (by simp) ?_
            refine AllReady.cons rfl (fun K hK => ?_) AllReady.nil
            go_simp
            refine hK _ _ ?_
            clear hK K
            refine wpAny_take (i := 21) (v := ?_) rfl (by kernel_rfl) (by kernel_rfl) (by kernel_rfl) (fun _ _ _ h => h) (Or.inl ⟨by kernel_rfl, ?_⟩) ?_
            rotate_left 1
            · (intro w; first | (go_simp; done) | (go_simp; with_reducible rfl))
            change wpAny _ _ _ _ _ _ (Act.put _ (some 31) _) _
            refine wpAny_take (i := 22) (v := ?_) rfl (by kernel_rfl) (by kernel_rfl) (by kernel_rfl) (fun _ _ _ h => h) (Or.inl ⟨by kernel_rfl, ?_⟩) ?_
            rotate_left 1
            · (intro w; first | (go_simp; done) | (go_simp; with_reducible rfl))
            change wpAny _ _ _ _ _ _ (Act.put _ (some 32) _) _
            refine wpAny_take (i := 23) (v := ?_) rfl (by kernel_rfl) (by kernel_rfl) (by kernel_rfl) (fun _ _ _ h => h) (Or.inl ⟨by kernel_rfl, ?_⟩) ?_
            rotate_left 1
            · (intro w; first | (go_simp; done) | (go_simp; with_reducible rfl))
            change wpAny _ _ _ _ _ _ (Act.put _ (some 33) _) _
            refine wpAny_done (by kernel_rfl) ?_ _
            go_simp
            have HQ := HPP wn (HB.out.trans ((show Below wr.heap.size wr wn from by rw [← hwn]; exact ((Below.refl _ _).drew).alloc (Nat.le_refl _) _).mono HB.out.size))
            clear HPP
            go_wp2
            exact HQ.out
          · have HI2 := Lib.hid (show (∀ y ∈ l.take (i + 1 + 1), okR y) ∧ adjL (l.take (i + 1 + 1)) from ⟨right_take HX.out HI.out.1 hok, adj_snoc HX.out HI.out.2 (fun i' y' hi hy' => by
              obtain rfl : i = i' := by omega
              rw [HY.out] at hy'
              cases hy'
              omega)⟩)
            obtain ⟨a, b, v⟩ := x
            obtain ⟨ya, yb, yv⟩ := y
            simp only at k0 k1 k2 m0 m1 m2 hlap
            have H1 := Lib.hid (show ∀ W, Calls Tryd.prog 64 #[.agg #[.int .i64 a, .int .i64 b, .int .i64 v]] W fun e w' => e = .returned (.bool true) ∧ W.alloc (rngO (a, b, v)) = w' from fun W => by have := one_any (a, b, v) W; rwa [hdec] at this)
            have hwr : Hid (∀ ad u, wr.cell? ad = some u → (wr.drew.alloc (rngO (a, b, v))).cell? ad = some u) := Lib.hid fun ad u h => cell_keepN (((Below.refl _ _).drew).alloc (Nat.le_refl _) _) h
            clear hc hx hy hok hdec hpos
            go_wp2_with fail
            refine wp_region_any (by kernel_rfl) ?_
            try (change wpAny _ _ _ _ _ _ _ (World.drew _))
            refine wpAny_take (i := 0) (v := ?_) rfl (by kernel_rfl) (by kernel_rfl) (by kernel_rfl) (fun _ _ _ h => h) (Or.inl ⟨by kernel_rfl, ?_⟩) ?_
            rotate_left 1
            · (intro w; first | (go_simp; done) | (go_simp; with_reducible rfl))
            change wpAny _ _ _ _ _ _ (Act.put _ (some 10) _) _
            refine wpAny_take (i := 1) (v := ?_) rfl (by kernel_rfl) (by kernel_rfl) (by kernel_rfl) (fun _ _ _ h => h) (Or.inl ⟨by kernel_rfl, ?_⟩) ?_
            rotate_left 1
            · (intro w; first | (go_simp; done) | (go_simp; with_reducible rfl))
            change wpAny _ _ _ _ _ _ (Act.put _ (some 11) _) _
            refine wpAny_take (i := 2) (v := ?_) rfl (by kernel_rfl) (by kernel_rfl) (by kernel_rfl) (fun _ _ _ h => h) (Or.inl ⟨by kernel_rfl, ?_⟩) ?_
            rotate_left 1
            · (intro w; first | (go_simp; done) | (go_simp; with_reducible rfl))
            change wpAny _ _ _ _ _ _ (Act.put _ (some 12) _) _
            refine wpAny_ready (rs := [3]) (by kernel_rfl) (by simp) ?_
            refine AllReady.cons rfl (fun K hK => ?_) AllReady.nil
            go_simp
            refine hK _ _ ?_
            clear hK K
            refine wpAny_ready (rs := [4]) (by kernel_rfl) (by simp) ?_
            refine AllReady.cons rfl (fun K hK => ?_) AllReady.nil
            go_simp
            go_wp2_with (go_at_call 64; refine (H1.out _).mono ?_; rintro e wn ⟨rfl, hwn⟩)
            have s0 := hwr.out _ _ k0
            have s1 := hwr.out _ _ m1
            rw [hwn] at s0 s1
            refine wpAny_take (i := 5) (v := ?_) rfl (by kernel_rfl) (by kernel_rfl) (by kernel_rfl) (fun _ _ _ h => h) (Or.inl ⟨by kernel_rfl, ?_⟩) ?_
            rotate_left 1
            · (intro w; first | (go_simp; done) | (go_simp; with_reducible rfl))
            change wpAny _ _ _ _ _ _ (Act.put _ (some 15) _) _
            refine wpAny_take (i := 6) (v := ?_) rfl (by kernel_rfl) (by kernel_rfl) (by kernel_rfl) (fun _ _ _ h => h) (Or.inl ⟨by kernel_rfl, ?_⟩) ?_
            rotate_left 1
            · (intro w; first | (go_simp; done) | (go_simp; with_reducible rfl))
            change wpAny _ _ _ _ _ _ (Act.put _ (some 16) _) _
            refine wpAny_take (i := 7) (v := ?_) rfl (by kernel_rfl) (by kernel_rfl) (by kernel_rfl) (fun _ _ _ h => h) (Or.inl ⟨by kernel_rfl, ?_⟩) ?_
            rotate_left 1
            · (intro w; first | (go_simp; done) | (go_simp; with_reducible rfl))
            change wpAny _ _ _ _ _ _ (Act.put _ (some 17) _) _
            refine wpAny_take (i := 8) (v := ?_) rfl (by kernel_rfl) (by kernel_rfl) (by kernel_rfl) (fun _ _ _ h => h) (Or.inl ⟨by kernel_rfl, ?_⟩) ?_
            rotate_left 1
            · (intro w; first | (go_simp; done) | (go_simp; with_reducible rfl))
            change wpAny _ _ _ _ _ _ (Act.put _ (some 18) _) _
            refine wpAny_take (i := 9) (v := ?_) rfl (by kernel_rfl) (by kernel_rfl) (by kernel_rfl) (fun _ _ _ h => h) (Or.inl ⟨by kernel_rfl, ?_⟩) ?_
            rotate_left 1
            · (intro w; first | (go_simp; done) | (go_simp; with_reducible rfl))
            change wpAny _ _ _ _ _ _ (Act.put _ (some 19) _) _
            refine wpAny_take (i := 10) (v := ?_) rfl (by kernel_rfl) (by kernel_rfl) (by kernel_rfl) (fun _ _ _ h => h) (Or.inl ⟨by kernel_rfl, ?_⟩) ?_
            rotate_left 1
            · (intro w; first | (go_simp; done) | (go_simp; with_reducible rfl))
            change wpAny _ _ _ _ _ _ (Act.put _ (some 20) _) _
            refine wpAny_take (i := 11) (v := ?_) rfl (by kernel_rfl) (by kernel_rfl) (by kernel_rfl) (fun _ _ _ h => h) (Or.inl ⟨by kernel_rfl, ?_⟩) ?_
            rotate_left 1
            · (intro w; first | (go_simp; done) | (go_simp; with_reducible rfl))
            change wpAny _ _ _ _ _ _ (Act.put _ (some 21) _) _
            refine wpAny_take (i := 12) (v := ?_) rfl (by kernel_rfl) (by kernel_rfl) (by kernel_rfl) (fun _ _ _ h => h) (Or.inl ⟨by kernel_rfl, ?_⟩) ?_
            rotate_left 1
            · (intro w; first | (go_simp; done) | (go_simp; with_reducible rfl))
            change wpAny _ _ _ _ _ _ (Act.put _ (some 22) _) _
            refine wpAny_take (i := 13) (v := ?_) rfl (by kernel_rfl) (by kernel_rfl) (by kernel_rfl) (fun _ _ _ h => h) (Or.inl ⟨by kernel_rfl, ?_⟩) ?_
            rotate_left 1
            · (intro w; first | (go_simp; done) | (go_simp; with_reducible rfl))
            change wpAny _ _ _ _ _ _ (Act.put _ (some 23) _) _
            refine wpAny_take (i := 15) (v := ?_) rfl (by kernel_rfl) (by kernel_rfl) (by kernel_rfl) (fun _ _ _ h => h) (Or.inl ⟨by kernel_rfl, ?_⟩) ?_
            rotate_left 1
            · (intro w; first | (go_simp; done) | (go_simp; with_reducible rfl))
            change wpAny _ _ _ _ _ _ (Act.put _ (some 25) _) _
            refine wpAny_take (i := 16) (v := ?_) rfl (by kernel_rfl) (by kernel_rfl) (by kernel_rfl) (fun _ _ _ h => h) (Or.inl ⟨by kernel_rfl, ?_⟩) ?_
            rotate_left 1
            · (intro w; first | (go_simp; done) | (go_simp; with_reducible rfl))
            change wpAny _ _ _ _ _ _ (Act.put _ (some 26) _) _
            refine wpAny_take (i := 17) (v := ?_) rfl (by kernel_rfl) (by kernel_rfl) (by kernel_rfl) (fun _ _ _ h => h) (Or.inl ⟨by kernel_rfl, ?_⟩) ?_
            rotate_left 1
            · (intro w; first | (go_simp; done) | (go_simp; with_reducible rfl))
            change wpAny _ _ _ _ _ _ (Act.put _ (some 27) _) _
            refine wpAny_take (i := 18) (v := ?_) rfl (by kernel_rfl) (by kernel_rfl) (by kernel_rfl) (fun _ _ _ h => h) (Or.inl ⟨by kernel_rfl, ?_⟩) ?_
            rotate_left 1
            · (intro w; first | (go_simp; done) | (go_simp; with_reducible rfl))
            change wpAny _ _ _ _ _ _ (Act.put _ (some 28) _) _
            refine wpAny_take (i := 19) (v := ?_) rfl (by kernel_rfl) (by kernel_rfl) (by kernel_rfl) (fun _ _ _ h => h) (Or.inl ⟨by kernel_rfl, ?_⟩) ?_
            rotate_left 1
            · (intro w; first | (go_simp; done) | (go_simp; with_reducible rfl))
            change wpAny _ _ _ _ _ _ (Act.put _ (some 29) _) _
            refine wpAny_ready (rs := [14, 20]) (by kernel_rfl) (by simp) ?_
            refine AllReady.cons rfl (fun K hK => ?_) ?_
            focus
              go_simp
              refine hK _ _ ?_
              clear hK K
              refine wpAny_ready (rs := [20]) (by kernel_rfl) (by simp) ?_
              refine AllReady.cons rfl (fun K hK => ?_) AllReady.nil
              go_simp
              refine hK _ _ ?_
              clear hK K
              refine wpAny_take (i := 21) (v := ?_) rfl (by kernel_rfl) (by kernel_rfl) (by kernel_rfl) (fun _ _ _ h => h) (Or.inl ⟨by kernel_rfl, ?_⟩) ?_
              rotate_left 1
              · (intro w; first | (go_simp; done) | (go_simp; with_reducible rfl))
              change wpAny _ _ _ _ _ _ (Act.put _ (some 31) _) _
              refine wpAny_take (i := 22) (v := ?_) rfl (by kernel_rfl) (by kernel_rfl) (by kernel_rfl) (fun _ _ _ h => h) (Or.inl ⟨by kernel_rfl, ?_⟩) ?_
              rotate_left 1
              · (intro w; first | (go_simp; done) | (go_simp; with_reducible rfl))
              change wpAny _ _ _ _ _ _ (Act.put _ (some 32) _) _
              refine wpAny_take (i := 23) (v := ?_) rfl (by kernel_rfl) (by kernel_rfl) (by kernel_rfl) (fun _ _ _ h => h) (Or.inl ⟨by kernel_rfl, ?_⟩) ?_
              rotate_left 1
              · (intro w; first | (go_simp; done) | (go_simp; with_reducible rfl))
              change wpAny _ _ _ _ _ _ (Act.put _ (some 33) _) _
              refine wpAny_done (by kernel_rfl) ?_ _
              go_simp
              go_wp2
              go_roundg (n - (i + 1 + 1))
              case measure => omega
              case rel => exact ⟨i + 1 + 1, by simp, by omega, rfl, HI2, Lib.hid (HB.out.trans ((show Below wr.heap.size wr wn from by rw [← hwn]; exact ((Below.refl _ _).drew).alloc (Nat.le_refl _) _).mono HB.out.size))⟩
            refine AllReady.cons rfl (fun K hK => ?_) AllReady.nil
            go_simp
            refine hK _ _ ?_
            clear hK K
            refine wpAny_ready (rs := [14]) (by kernel_rfl) (by simp) ?_
            refine AllReady.cons rfl (fun K hK => ?_) AllReady.nil
            go_simp
            refine hK _ _ ?_
            clear hK K
            refine wpAny_take (i := 21) (v := ?_) rfl (by kernel_rfl) (by kernel_rfl) (by kernel_rfl) (fun _ _ _ h => h) (Or.inl ⟨by kernel_rfl, ?_⟩) ?_
            rotate_left 1
            · (intro w; first | (go_simp; done) | (go_simp; with_reducible rfl))
            change wpAny _ _ _ _ _ _ (Act.put _ (some 31) _) _
            refine wpAny_take (i := 22) (v := ?_) rfl (by kernel_rfl) (by kernel_rfl) (by kernel_rfl) (fun _ _ _ h => h) (Or.inl ⟨by kernel_rfl, ?_⟩) ?_
            rotate_left 1
            · (intro w; first | (go_simp; done) | (go_simp; with_reducible rfl))
            change wpAny _ _ _ _ _ _ (Act.put _ (some 32) _) _
            refine wpAny_take (i := 23) (v := ?_) rfl (by kernel_rfl) (by kernel_rfl) (by kernel_rfl) (fun _ _ _ h => h) (Or.inl ⟨by kernel_rfl, ?_⟩) ?_
            rotate_left 1
            · (intro w; first | (go_simp; done) | (go_simp; with_reducible rfl))
            change wpAny _ _ _ _ _ _ (Act.put _ (some 33) _) _
            refine wpAny_done (by kernel_rfl) ?_ _
            go_simp
            go_wp2
            go_roundg (n - (i + 1 + 1))
            case measure => omega
            case rel => exact ⟨i + 1 + 1, by simp, by omega, rfl, HI2, Lib.hid (HB.out.trans ((show Below wr.heap.size wr wn from by rw [← hwn]; exact ((Below.refl _ _).drew).alloc (Nat.le_refl _) _).mono HB.out.size))⟩
      · have HPP : ∀ W, Below w.heap.size w W → Hid (P (.returned (.bool false)) W) := fun W hb => by
          rw [← HP.out]
          exact Lib.hid ⟨by rw [decide_eq_false (not_right_ok HX.out hok)], hb⟩
        have hdec : decide (okR x) = false := decide_eq_false hok
        obtain ⟨a, b, v⟩ := x
        simp only at k0 k1 k2
        have H1 := Lib.hid (show ∀ W, Calls Tryd.prog 64 #[.agg #[.int .i64 a, .int .i64 b, .int .i64 v]] W fun e w' => e = .returned (.bool false) ∧ W.alloc (rngO (a, b, v)) = w' from fun W => by have := one_any (a, b, v) W; rwa [hdec] at this)
        clear hc hx hok hdec
        go_wp2_with fail
        refine wp_region_any (by kernel_rfl) ?_
        try (change wpAny _ _ _ _ _ _ _ (World.drew _))
        refine wpAny_take (i := 0) (v := ?_) rfl (by kernel_rfl) (by kernel_rfl) (by kernel_rfl) (fun _ _ _ h => h) (Or.inl ⟨by kernel_rfl, ?_⟩) ?_
        rotate_left 1
        · (intro w; first | (go_simp; done) | (go_simp; with_reducible rfl))
        change wpAny _ _ _ _ _ _ (Act.put _ (some 10) _) _
        refine wpAny_take (i := 1) (v := ?_) rfl (by kernel_rfl) (by kernel_rfl) (by kernel_rfl) (fun _ _ _ h => h) (Or.inl ⟨by kernel_rfl, ?_⟩) ?_
        rotate_left 1
        · (intro w; first | (go_simp; done) | (go_simp; with_reducible rfl))
        change wpAny _ _ _ _ _ _ (Act.put _ (some 11) _) _
        refine wpAny_take (i := 2) (v := ?_) rfl (by kernel_rfl) (by kernel_rfl) (by kernel_rfl) (fun _ _ _ h => h) (Or.inl ⟨by kernel_rfl, ?_⟩) ?_
        rotate_left 1
        · (intro w; first | (go_simp; done) | (go_simp; with_reducible rfl))
        change wpAny _ _ _ _ _ _ (Act.put _ (some 12) _) _
        refine wpAny_ready (rs := [3]) (by kernel_rfl) (by simp) ?_
        refine AllReady.cons rfl (fun K hK => ?_) AllReady.nil
        go_simp
        refine hK _ _ ?_
        clear hK K
        refine wpAny_ready (rs := [4]) (by kernel_rfl) (by simp) ?_
        refine AllReady.cons rfl (fun K hK => ?_) AllReady.nil
        go_simp
        go_wp2_with (go_at_call 64; refine (H1.out _).mono ?_; rintro e wn ⟨rfl, hwn⟩)
        refine wpAny_take (i := 5) (v := ?_) rfl (by kernel_rfl) (by kernel_rfl) (by kernel_rfl) (fun _ _ _ h => h) (Or.inl ⟨by kernel_rfl, ?_⟩) ?_
        rotate_left 1
        · (intro w; first | (go_simp; done) | (go_simp; with_reducible rfl))
        change wpAny _ _ _ _ _ _ (Act.put _ (some 15) _) _
        refine wpAny_take (i := 6) (v := ?_) rfl (by kernel_rfl) (by kernel_rfl) (by kernel_rfl) (fun _ _ _ h => h) (Or.inl ⟨by kernel_rfl, ?_⟩) ?_
        rotate_left 1
        · (intro w; first | (go_simp; done) | (go_simp; with_reducible rfl))
        change wpAny _ _ _ _ _ _ (Act.put _ (some 16) _) _
        refine wpAny_take (i := 7) (v := undef) rfl (by kernel_rfl) (by kernel_rfl) (by kernel_rfl) (fun _ _ _ h => h) (Or.inr ⟨by kernel_rfl, rfl⟩) ?_
        change wpAny _ _ _ _ _ _ (Act.put _ (some 17) _) _
        refine wpAny_take (i := 8) (v := undef) rfl (by kernel_rfl) (by kernel_rfl) (by kernel_rfl) (fun _ _ _ h => h) (Or.inr ⟨by kernel_rfl, rfl⟩) ?_
        change wpAny _ _ _ _ _ _ (Act.put _ (some 18) _) _
        refine wpAny_take (i := 9) (v := undef) rfl (by kernel_rfl) (by kernel_rfl) (by kernel_rfl) (fun _ _ _ h => h) (Or.inr ⟨by kernel_rfl, rfl⟩) ?_
        change wpAny _ _ _ _ _ _ (Act.put _ (some 19) _) _
        refine wpAny_take (i := 10) (v := undef) rfl (by kernel_rfl) (by kernel_rfl) (by kernel_rfl) (fun _ _ _ h => h) (Or.inr ⟨by kernel_rfl, rfl⟩) ?_
        change wpAny _ _ _ _ _ _ (Act.put _ (some 20) _) _
        refine wpAny_take (i := 11) (v := undef) rfl (by kernel_rfl) (by kernel_rfl) (by kernel_rfl) (fun _ _ _ h => h) (Or.inr ⟨by kernel_rfl, rfl⟩) ?_
        change wpAny _ _ _ _ _ _ (Act.put _ (some 21) _) _
        refine wpAny_take (i := 12) (v := undef) rfl (by kernel_rfl) (by kernel_rfl) (by kernel_rfl) (fun _ _ _ h => h) (Or.inr ⟨by kernel_rfl, rfl⟩) ?_
        change wpAny _ _ _ _ _ _ (Act.put _ (some 22) _) _
        refine wpAny_take (i := 13) (v := undef) rfl (by kernel_rfl) (by kernel_rfl) (by kernel_rfl) (fun _ _ _ h => h) (Or.inr ⟨by kernel_rfl, rfl⟩) ?_
        change wpAny _ _ _ _ _ _ (Act.put _ (some 23) _) _
        refine wpAny_take (i := 14) (v := undef) rfl (by kernel_rfl) (by kernel_rfl) (by kernel_rfl) (fun _ _ _ h => h) (Or.inr ⟨by kernel_rfl, rfl⟩) ?_
        change wpAny _ _ _ _ _ _ (Act.put _ (some 24) _) _
        refine wpAny_take (i := 15) (v := undef) rfl (by kernel_rfl) (by kernel_rfl) (by kernel_rfl) (fun _ _ _ h => h) (Or.inr ⟨by kernel_rfl, rfl⟩) ?_
        change wpAny _ _ _ _ _ _ (Act.put _ (some 25) _) _
        refine wpAny_take (i := 16) (v := undef) rfl (by kernel_rfl) (by kernel_rfl) (by kernel_rfl) (fun _ _ _ h => h) (Or.inr ⟨by kernel_rfl, rfl⟩) ?_
        change wpAny _ _ _ _ _ _ (Act.put _ (some 26) _) _
        refine wpAny_take (i := 17) (v := undef) rfl (by kernel_rfl) (by kernel_rfl) (by kernel_rfl) (fun _ _ _ h => h) (Or.inr ⟨by kernel_rfl, rfl⟩) ?_
        change wpAny _ _ _ _ _ _ (Act.put _ (some 27) _) _
        refine wpAny_take (i := 18) (v := undef) rfl (by kernel_rfl) (by kernel_rfl) (by kernel_rfl) (fun _ _ _ h => h) (Or.inr ⟨by kernel_rfl, rfl⟩) ?_
        change wpAny _ _ _ _ _ _ (Act.put _ (some 28) _) _
        refine wpAny_take (i := 19) (v := undef) rfl (by kernel_rfl) (by kernel_rfl) (by kernel_rfl) (fun _ _ _ h => h) (Or.inr ⟨by kernel_rfl, rfl⟩) ?_
        change wpAny _ _ _ _ _ _ (Act.put _ (some 29) _) _
        refine wpAny_take (i := 20) (v := undef) rfl (by kernel_rfl) (by kernel_rfl) (by kernel_rfl) (fun _ _ _ h => h) (Or.inr ⟨by kernel_rfl, rfl⟩) ?_
        change wpAny _ _ _ _ _ _ (Act.put _ (some 30) _) _
        refine wpAny_take (i := 21) (v := undef) rfl (by kernel_rfl) (by kernel_rfl) (by kernel_rfl) (fun _ _ _ h => h) (Or.inr ⟨by kernel_rfl, rfl⟩) ?_
        change wpAny _ _ _ _ _ _ (Act.put _ (some 31) _) _
        refine wpAny_take (i := 22) (v := undef) rfl (by kernel_rfl) (by kernel_rfl) (by kernel_rfl) (fun _ _ _ h => h) (Or.inr ⟨by kernel_rfl, rfl⟩) ?_
        change wpAny _ _ _ _ _ _ (Act.put _ (some 32) _) _
        refine wpAny_take (i := 23) (v := ?_) rfl (by kernel_rfl) (by kernel_rfl) (by kernel_rfl) (fun _ _ _ h => h) (Or.inl ⟨by kernel_rfl, ?_⟩) ?_
        rotate_left 1
        · (intro w; first | (go_simp; done) | (go_simp; with_reducible rfl))
        change wpAny _ _ _ _ _ _ (Act.put _ (some 33) _) _
        refine wpAny_done (by kernel_rfl) ?_ _
        go_simp
        have HQ := HPP wn (HB.out.trans ((show Below wr.heap.size wr wn from by rw [← hwn]; exact ((Below.refl _ _).drew).alloc (Nat.le_refl _) _).mono HB.out.size))
        clear HPP
        go_wp2
        exact HQ.out
    · obtain rfl : j = n := by omega
      have hI := HI.out
      rw [List.take_of_length_le (by rw [HN.out]; exact Nat.le_refl _)] at hI
      have hdec : decide (rightL l) = decide (((j : Nat) : Int) ≤ 600) := by
        have : rightL l ↔ ((j : Nat) : Int) ≤ 600 := ⟨fun h => by have := h.2; rw [HN.out] at this; omega, fun h => ⟨⟨hI.1, (adj_map hI.1).1 hI.2⟩, by rw [HN.out]; omega⟩⟩
        simp only [this]
      have HPP : Hid (P (.returned (.bool (decide (((j : Nat) : Int) ≤ 600)))) wr) := by
        rw [← HP.out]
        exact Lib.hid ⟨by rw [hdec], HB.out⟩
      clear hI hdec
      go_wp2_with fail
      exact HPP.out
end Go.Proofs.YtcnbcaljpgdcpaaDoor

namespace Go.Proofs.YtcnbcaljpgdcpaaDoor
open Go.ChangeShapes Go.WideShapes Go.ChangeAt Go.RowKit

theorem ownN : ownKnob Tryd.prog.godebug = none := by kernel_rfl
abbrev laidAN : List (String × DataW Unit) := [("errors.errorType", Rows.laid_errors_errorType)]
theorem gEtN : Tryd.prog.globalNamed "errors.errorType" = some 2 := by kernel_rfl
theorem rtNN : (Tryd.prog.cutTypes.find? (·.1 == "internal/reflectlite.rtype")).map (·.2) = some 148 := by kernel_rfl
theorem typesNN : Tryd.prog.types.size = 206 := by kernel_rfl
theorem oneRowN : ((List.range 206).filter fun t => Tryd.prog.rowNamed t [101, 114, 114, 111, 114]) = [54] := by kernel_rfl

theorem et_of_laidN {W : World} (h : laidMetH Tryd.prog laidAN W) : W.cell? ⟨2, 0, none⟩ = some (.iface 148 (.agg #[.pointer (some ⟨3, 54, none⟩)])) := by
  have h2 : laidMetH Tryd.prog [("errors.errorType", Rows.laid_errors_errorType)] W := h
  have h' : laidMet Tryd.prog [] W ∧ handlesMet Tryd.prog [("errors.errorType", Rows.laid_errors_errorType)] W := h2
  obtain ⟨name, u, ty, e1, e2, e3, e4, e5⟩ := h'.2 _ (List.mem_singleton.2 rfl)
  have en : name = [101, 114, 114, 111, 114] := (Option.some.inj e1).symm
  subst en
  obtain rfl := Option.some.inj (rtNN.symm.trans e2)
  have hm : ty ∈ (List.range 206).filter fun t => Tryd.prog.rowNamed t [101, 114, 114, 111, 114] := List.mem_filter.2 ⟨List.mem_range.2 (by rw [← typesNN]; exact e3), e4⟩
  rw [oneRowN] at hm
  obtain rfl := List.mem_singleton.1 hm
  have hh : typeHandle Tryd.prog 54 = .pointer (some ⟨3, 54, none⟩) := by kernel_rfl
  rw [hh] at e5
  simpa using World.var?_cell gEtN e5 0
/-- A WORLD FOR THE WITNESS: the settled one, the handle laid, the tables laid. -/
noncomputable def baseWorldN (os : Os) : World :=
  let w0 := World.holding Tryd.prog os ⟨#[], #[], []⟩
  { w0 with heap := w0.heap.modify 2 fun
      | .cells _ t frozen => .cells #[.iface 148 (.agg #[.pointer (some ⟨3, 54, none⟩)])] t frozen
      | o => o }
theorem baseWorld_os (os : Os) : (baseWorldN os).os = os := rfl
set_option maxRecDepth 100000 in
theorem laid_met_wN (os : Os) : laidMet Tryd.prog [] (baseWorldN os) := ⟨[], rfl, List.nodup_nil, fun _ _ h => by simp at h⟩
set_option maxRecDepth 100000 in
theorem laid_metN (os : Os) (args : Array Value) : laidMetH Tryd.prog laidAN ((baseWorldN os).forCall (fun _ _ => 0) ⟨#[], args, []⟩).memory :=
  laidMetH_of_parts ((laid_met_wN os).of_heap (by simp [World.memory, World.forCall, Input.heap])) (by kernel_rfl)

/-- WHAT EACH ROW ASKS OF A CALL THAT ANSWERS true AND LEAVES WHAT LAY BEFORE IT AS IT LAY. -/
theorem true_postN {H : Type} {enc : TypeId × Value → H} {f : Func} {s : ChangeSpec} {W W' : World} {args : Array Value} {ds gs : List (DataW H)} {before : List MemPlace}
    (hW : DataW.Whole enc Tryd.prog f.params.toList s.vars false W args.toList ds gs before) (hr : f.resultTypes = #[4]) (hfn : s.fn H (ds ++ gs) = { results := [.lit (.bool true)], args := ds }) (hv : s.vars = [])
    (hargs : DataW.TrodAll enc Tryd.prog W' 0 (fun b => decide (b < W.heap.size)) true f.params.toList args.toList ds before) (hb : Below W.heap.size W W') :
    s.post enc Tryd.prog f false true false false W args (.bool true) W' := by
  refine ⟨ds, gs, before, [], before, [], hW, ?_, ?_, ?_, ?_, fun h => by cases h⟩
  · rw [hr, hfn]
    exact trodAll_cons_mk (shut_bool Tryd.underlying4 _) trodAll_mk0
  · rw [hfn]
    exact hargs
  · rw [hv, hfn]
    rfl
  · exact World.keptBut_mono (fun p hp => ⟨hp, .inr (.inl hp)⟩) (hb.frame (· ∈ before))
end Go.Proofs.YtcnbcaljpgdcpaaDoor

namespace Go.Proofs.YtcnbcaljpgdcpaaDoor
open Go.ChangeShapes Go.WideShapes Go.ChangeAt Go.RowKit Go.ChangeMaps

theorem list_ofN {α : Type} {Q : Nat → α → Prop} : ∀ n : Nat, (∀ i, i < n → ∃ x, Q i x) → ∃ l : List α, l.length = n ∧ ∀ i x, l[i]? = some x → Q i x
  | 0, _ => ⟨[], rfl, fun i x h => by simp at h⟩
  | n + 1, h => by
    obtain ⟨l, hl, hq⟩ := list_ofN n fun i hi => h i (by omega)
    obtain ⟨y, hy⟩ := h n (by omega)
    refine ⟨l ++ [y], by simp [hl], fun i x hx => ?_⟩
    rcases Nat.lt_or_ge i l.length with hi | hi
    · rw [List.getElem?_append_left hi] at hx
      exact hq i x hx
    · rw [List.getElem?_append_right hi] at hx
      have hi2 : i - l.length = 0 := by
        have := (List.getElem?_eq_some_iff.1 hx).1
        simp at this
        omega
      rw [hi2] at hx
      cases hx
      rw [show i = n from by omega]
      exact hy
theorem add_atN (g off k : Nat) : (⟨g, off, none⟩ : Addr).add k = ⟨g, off + k, none⟩ := by unfold Addr.add; split <;> simp_all
theorem cellsRng : Tryd.prog.cellsOf 106 = 3 := by kernel_rfl
theorem cellsIntN : Tryd.prog.cellsOf 3 = 1 := by kernel_rfl
section
variable {H : Type} {enc : TypeId × Value → H} {W : World}
theorem list3 {α : Type} {cs : List α} (h : cs.length = 3) : ∃ c0 c1 c2, cs = [c0, c1, c2] := by
  match cs, h with
  | [c0, c1, c2], _ => exact ⟨c0, c1, c2, rfl⟩
theorem rngOpen {fuel : Nat} {cs : List Value} {x : DataW H × List MemPlace} (h : DataW.trod enc Tryd.prog W 0 (fun _ => true) true fuel 106 cs = some x) :
    ∃ X : Rng, cs[0]? = some (.int .i64 X.1) ∧ cs[1]? = some (.int .i64 X.2.1) ∧ cs[2]? = some (.int .i64 X.2.2) := by
  obtain ⟨y0, y1, y2, n, _, hl, h0, h1, h2⟩ := Go.Deep.trod_struct3 Tryd.underlying106 h
  rw [cellsRng] at hl
  obtain ⟨k0, k1, k2, rfl⟩ := list3 hl
  obtain ⟨a, c0, _, _⟩ := DataW.trod_int Tryd.underlying3 h0
  obtain ⟨b, c1, _, _⟩ := DataW.trod_int Tryd.underlying3 h1
  obtain ⟨v, c2, _, _⟩ := DataW.trod_int Tryd.underlying3 h2
  change List.take (Tryd.prog.cellsOf 3) (List.drop 0 [k0, k1, k2]) = _ at c0
  change List.take (Tryd.prog.cellsOf 3) (List.drop 1 [k0, k1, k2]) = _ at c1
  change List.take (Tryd.prog.cellsOf 3) (List.drop 2 [k0, k1, k2]) = _ at c2
  rw [cellsIntN] at c0 c1 c2
  obtain rfl : k0 = .int .i64 a := by simpa using c0
  obtain rfl : k1 = .int .i64 b := by simpa using c1
  obtain rfl : k2 = .int .i64 v := by simpa using c2
  exact ⟨(a, b, v), rfl, rfl, rfl⟩
theorem open_rngs {fuel : Nat} {v : Value} {x : DataW H × List MemPlace} (h : DataW.trod enc Tryd.prog W 0 (fun _ => true) true fuel 44 [v] = some x) :
    ∃ (o : Option Addr) (rs : List Rng) (cap : Nat), v = .slice o rs.length cap ∧ AtR W o rs ∧ rs.length ≤ cap := by
  rcases DataW.trod_slice Tryd.underlying44 h with ⟨hv, _⟩ | ⟨a, len, cap, elems, rest, n, _, hv, _, _, hle, hcap, hlen, hc, _, _⟩
  · obtain rfl : v = .slice none 0 0 := by simpa using hv
    exact ⟨none, [], 0, rfl, fun h => absurd h (Nat.not_lt_zero _), Nat.le_refl _⟩
  · obtain rfl : v = .slice (some a) len cap := by simpa using hv
    have hall : ∀ i, i < len → ∃ X : Rng, W.cell? ((a.add (i * 3)).add 0) = some (.int .i64 X.1) ∧ W.cell? ((a.add (i * 3)).add 1) = some (.int .i64 X.2.1) ∧ W.cell? ((a.add (i * 3)).add 2) = some (.int .i64 X.2.2) := fun i hi => by
      have he := hc i hi
      rw [cellsRng, List.getElem?_eq_getElem (by omega)] at he
      obtain ⟨cs, hcs, ht⟩ := Option.bind_eq_some_iff.1 he
      obtain ⟨_, hl, hg⟩ := World.cells?_some hcs
      obtain ⟨X, c0, c1, c2⟩ := rngOpen ht
      exact ⟨X, by rw [hg 0 (by omega), c0], by rw [hg 1 (by omega), c1], by rw [hg 2 (by omega), c2]⟩
    obtain ⟨rs, hrl, hrs⟩ := list_ofN len hall
    subst hrl
    refine ⟨some a, rs, cap, rfl, fun hn => ?_, by omega⟩
    obtain ⟨h0, _⟩ := hrs 0 _ (List.getElem?_eq_getElem hn)
    obtain ⟨g, off, spot⟩ := a
    have hspot : spot = none := by simpa [Addr.add] using World.cell?_spot h0
    subst hspot
    refine ⟨g, off, rfl, fun j x hx => ?_⟩
    obtain ⟨c0, c1, c2⟩ := hrs j x hx
    rw [add_atN, add_atN] at c0 c1 c2
    exact ⟨c0, c1, c2⟩
end
end Go.Proofs.YtcnbcaljpgdcpaaDoor
