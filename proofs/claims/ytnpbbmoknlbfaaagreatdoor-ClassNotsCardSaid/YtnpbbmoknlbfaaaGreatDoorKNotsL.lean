/- ClassNots: what is not not in a set is in it; each class is in it, or not. -/
import Derived.Test.YtnpbbmoknlbfaaaGreatDoorKShown
namespace Go.Proofs.YtnpbbmoknlbfaaaGreatDoor
open Go.RowKit Go.Shelf Go.Maps
attribute [local go_sem] Oper.semAt_some

set_option maxRecDepth 100000 in
set_option maxHeartbeats 4000000 in
theorem nots_anyL (s n c : Int) (w : World) (hG : KGlob w) :
    Calls Tryz.prog 6 #[.int .i64 s, .int .i64 n, .int .i64 c] w fun e w' => e = .returned (.bool true) ∧ Below w.heap.size w w' := by
  have HS := Lib.hid (shownK_any w hG)
  have K1 := Lib.hid (fun W => Not_anyK s n W)
  have K2 := Lib.hid (fun W => Right_anyK s n W)
  obtain ⟨P, hP⟩ : ∃ P, (fun (e : Ending) w' => e = .returned (.bool true) ∧ Below w.heap.size w w') = P := ⟨_, rfl⟩
  have HP := Lib.hid hP
  rw [hP]
  clear hP hG
  cases hr : rightZ s n with
  | false =>
    have e0 : notZ s n = 0 := by unfold notZ; rw [hr]; rfl
    rw [e0] at K1
    rw [hr] at K2
    clear hr e0
    go_enter Tryz.func6, Tryz.ntmps6
    go_wp2_with fail
    refine HS.out.mono ?_
    rintro e w1 ⟨rfl, b1⟩
    have B1 := Lib.hid b1
    clear b1
    go_wp2_with fail
    refine (K1.out _).mono ?_
    rintro e w2 ⟨rfl, b2⟩
    have B2 := Lib.hid (B1.out.trans (b2.mono B1.out.size))
    clear b2
    go_wp2_with fail
    refine (K2.out _).mono ?_
    rintro e w3 ⟨rfl, b3⟩
    have HQ : Hid (P (.returned (.bool true)) w3) := by
      rw [← HP.out]
      exact Lib.hid ⟨rfl, B2.out.trans (b3.mono B2.out.size)⟩
    clear b3
    go_wp2
    exact HQ.out
  | true =>
    obtain ⟨x, m, rfl, rfl, h1, h2, hx⟩ := rightZ_of hr
    have hx32 : x < 2 ^ 32 := Nat.lt_of_lt_of_le hx (Nat.pow_le_pow_right (by decide) h2)
    have hyl : notN m x < 2 ^ m := notN_lt
    have hy32 : notN m x < 2 ^ 32 := Nat.lt_of_lt_of_le hyl (Nat.pow_le_pow_right (by decide) h2)
    rw [notZ_nat h1 h2 hx] at K1
    rw [hr] at K2
    have K3 := Lib.hid (fun W => Right_anyK ((notN m x : Nat) : Int) ((m : Nat) : Int) W)
    rw [rightZ_ok h1 h2 hyl] at K3
    have K4 := Lib.hid (fun W => Not_anyK ((notN m x : Nat) : Int) ((m : Nat) : Int) W)
    rw [notZ_nat h1 h2 hyl, notN_notN hx] at K4
    have K5 := Lib.hid (fun W => Has_anyK ((x : Nat) : Int) c W)
    have K6 := Lib.hid (fun W => Has_anyK ((notN m x : Nat) : Int) c W)
    have K7 := Lib.hid (fun W => Classes_anyK ((x : Nat) : Int) W)
    have K8 := Lib.hid (fun W => Classes_anyK ((notN m x : Nat) : Int) W)
    have c1 : classesZ ((x : Nat) : Int) = classesN m x := by
      unfold classesZ
      rw [rightZ_32 h2 hx, if_pos rfl, Int.toNat_natCast, classesN_32 hx h2]
    have c2 : classesZ ((notN m x : Nat) : Int) = classesN m (notN m x) := by
      unfold classesZ
      rw [rightZ_32 h2 hyl, if_pos rfl, Int.toNat_natCast, classesN_32 hyl h2]
    have hlen := classesN_length hx m (Nat.le_refl _)
    rw [← c1, ← c2] at hlen
    have hc : c < 0 ∨ (¬ c < 0 ∧ ((m : Nat) : Int) ≤ c) ∨ (¬ c < 0 ∧ ¬ ((m : Nat) : Int) ≤ c ∧ hasZ ((x : Nat) : Int) c = !hasZ ((notN m x : Nat) : Int) c) := by
      by_cases g1 : c < 0
      · exact .inl g1
      · by_cases g2 : ((m : Nat) : Int) ≤ c
        · exact .inr (.inl ⟨g1, g2⟩)
        · exact .inr (.inr ⟨g1, g2, has_not h2 hx (by omega) (by omega)⟩)
    obtain ⟨y, hy⟩ : ∃ y, notN m x = y := ⟨_, rfl⟩
    rw [hy] at K1 K3 K4 K6 K8 hlen hc
    obtain ⟨p, hp⟩ : ∃ p, (classesZ ((x : Nat) : Int)).length = p := ⟨_, rfl⟩
    obtain ⟨q, hq⟩ : ∃ p, (classesZ ((y : Nat) : Int)).length = p := ⟨_, rfl⟩
    have K7' : Hid (∀ W, Calls Tryz.prog 25 #[.int .i64 (x : Nat)] W fun e w' => ∃ o c, e = .returned (.slice o p c) ∧ Below W.heap.size W w') := Lib.hid fun W => by rw [← hp]; exact (K7.out W).mono fun e w' ⟨o, c, h1, _, _, h2⟩ => ⟨o, c, h1, h2⟩
    have K8' : Hid (∀ W, Calls Tryz.prog 25 #[.int .i64 (y : Nat)] W fun e w' => ∃ o c, e = .returned (.slice o q c) ∧ Below W.heap.size W w') := Lib.hid fun W => by rw [← hq]; exact (K8.out W).mono fun e w' ⟨o, c, h1, _, _, h2⟩ => ⟨o, c, h1, h2⟩
    rw [hp, hq] at hlen
    have hsum : ((p : Nat) : Int) + ((q : Nat) : Int) = ((m : Nat) : Int) := by omega
    obtain ⟨b1v, hb1⟩ : ∃ b, hasZ ((x : Nat) : Int) c = b := ⟨_, rfl⟩
    obtain ⟨b2v, hb2⟩ : ∃ b, hasZ ((y : Nat) : Int) c = b := ⟨_, rfl⟩
    rw [hb1] at K5
    rw [hb2] at K6
    rw [hb1, hb2] at hc
    clear hr hx hx32 hyl hy32 c1 c2 hy hp hq hb1 hb2 K7 K8
    rcases hc with g1 | ⟨g1, g2⟩ | ⟨g1, g2, g3⟩
    focus
      go_enter Tryz.func6, Tryz.ntmps6
    rotate_left 1
    focus
      go_enter Tryz.func6, Tryz.ntmps6
    rotate_left 1
    focus
      subst g3
      go_enter Tryz.func6, Tryz.ntmps6
    all_goals
      go_wp2_with fail
      refine HS.out.mono ?_
      rintro e w1 ⟨rfl, b1⟩
      have B1 := Lib.hid b1
      clear b1
      go_wp2_with fail
      refine (K1.out _).mono ?_
      rintro e w2 ⟨rfl, b2⟩
      have B2 := Lib.hid (B1.out.trans (b2.mono B1.out.size))
      clear b2
      go_wp2_with fail
      refine (K2.out _).mono ?_
      rintro e w3 ⟨rfl, b3⟩
      have B3 := Lib.hid (B2.out.trans (b3.mono B2.out.size))
      clear b3
      go_wp2_with fail
      refine (K3.out _).mono ?_
      rintro e w4 ⟨rfl, b4⟩
      have B4 := Lib.hid (B3.out.trans (b4.mono B3.out.size))
      clear b4
      go_wp2_with fail
      refine (K4.out _).mono ?_
      rintro e w5 ⟨rfl, b5⟩
      have B5 := Lib.hid (B4.out.trans (b5.mono B4.out.size))
      clear b5
      go_wp2_with fail
      try
        refine (K5.out _).mono ?_
        rintro e w6 ⟨rfl, b6⟩
        replace B5 := Lib.hid (B5.out.trans (b6.mono B5.out.size))
        clear b6
        go_wp2_with fail
        refine (K6.out _).mono ?_
        rintro e w7 ⟨rfl, b7⟩
        replace B5 := Lib.hid (B5.out.trans (b7.mono B5.out.size))
        clear b7
        go_wp2_with fail
      refine (K7'.out _).mono ?_
      rintro e w8 ⟨o8, c8, rfl, b8⟩
      have B8 := Lib.hid (B5.out.trans (b8.mono B5.out.size))
      clear b8
      go_wp2_with fail
      refine (K8'.out _).mono ?_
      rintro e w9 ⟨o9, c9, rfl, b9⟩
      have HQ : Hid (P (.returned (.bool true)) w9) := by
        rw [← HP.out]
        exact Lib.hid ⟨rfl, B8.out.trans (b9.mono B8.out.size)⟩
      clear b9
      go_wp2
      exact HQ.out
end Go.Proofs.YtnpbbmoknlbfaaaGreatDoor
