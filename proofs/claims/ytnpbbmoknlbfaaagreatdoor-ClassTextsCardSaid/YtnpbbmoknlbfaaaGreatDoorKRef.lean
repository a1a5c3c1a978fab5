/- The document's own worth, Right, Has, Of, Classes, Not. -/
import Derived.Test.YtnpbbmoknlbfaaaGreatDoorKOfP
namespace Go.Proofs.YtnpbbmoknlbfaaaGreatDoor
open Go.RowKit Go.Shelf Go.Maps
attribute [local go_sem] Oper.semAt_some
attribute [local go_sem ↓] app_hide

set_option maxHeartbeats 1000000 in
theorem worth_any (n : Nat) (hn : n ≤ 32) (w : World) : Calls Tryz.prog 54 #[.int .i64 (n : Nat)] w fun e w' => e = .returned (.int .i64 ((2 ^ n : Nat) : Int)) ∧ w = w' := by
  obtain ⟨P, hP⟩ : ∃ P, (fun (e : Ending) w' => e = .returned (.int .i64 ((2 ^ n : Nat) : Int)) ∧ w = w') = P := ⟨_, rfl⟩
  have HP := Lib.hid hP
  rw [hP]
  clear hP
  go_enter Tryz.func54, Tryz.ntmps54
  go_wp2_with fail
  go_loopg [3, 4] n (fun k v i wr => ∃ (j p : Nat), i = .int .i64 (j : Nat) ∧ v = .int .i64 (p : Nat) ∧ j ≤ n ∧ k = n - j ∧ Hid (p = 2 ^ j) ∧ w = wr)
  case atStart => exact ⟨0, 1, rfl, rfl, Nat.zero_le _, rfl, Lib.hid rfl, rfl⟩
  case round =>
    obtain ⟨j, p, rfl, rfl, hj, rfl, hp, rfl⟩ := hrel
    rcases Nat.lt_or_ge j n with hlt | hge
    · have hp2 : Hid (2 * p = 2 ^ (j + 1)) := Lib.hid (by rw [hp.out, Nat.pow_succ, Nat.mul_comm])
      have hpl : p ≤ 4294967296 := by rw [hp.out]; exact two_32 (by omega)
      have hj1 : j < 1000000 := by omega
      go_wp2
      go_roundg (n - (j + 1))
      case measure => omega
      case rel => exact ⟨j + 1, 2 * p, by simp, by simp, by omega, rfl, hp2, rfl⟩
    · obtain rfl : j = n := by omega
      have HQ : Hid (P (.returned (.int .i64 ((p : Nat) : Int))) w) := by
        rw [← HP.out]
        exact Lib.hid ⟨by rw [hp.out], rfl⟩
      go_wp2
      exact HQ.out
set_option maxHeartbeats 1000000 in
theorem refRight_any (s n : Int) (w : World) : Calls Tryz.prog 21 #[.int .i64 s, .int .i64 n] w fun e w' => e = .returned (.bool (rightZ s n)) ∧ w = w' := by
  obtain ⟨P, hP⟩ : ∃ P, (fun (e : Ending) w' => e = .returned (.bool (rightZ s n)) ∧ w = w') = P := ⟨_, rfl⟩
  have HP := Lib.hid hP
  have NO : ¬ (1 ≤ n ∧ n ≤ 32 ∧ 0 ≤ s ∧ s < 2 ^ n.toNat) → Hid (P (.returned (.bool false)) w) := fun h => by
    rw [← HP.out]
    exact Lib.hid ⟨by unfold rightZ; rw [decide_eq_false h], rfl⟩
  have YES : (1 ≤ n ∧ n ≤ 32 ∧ 0 ≤ s ∧ s < 2 ^ n.toNat) → Hid (P (.returned (.bool true)) w) := fun h => by
    rw [← HP.out]
    exact Lib.hid ⟨by unfold rightZ; rw [decide_eq_true h], rfl⟩
  rw [hP]
  clear hP
  by_cases g1 : 1 ≤ n
  · by_cases g2 : n ≤ 32
    · by_cases g3 : 0 ≤ s
      · obtain ⟨m, rfl⟩ := Int.eq_ofNat_of_zero_le (show 0 ≤ n by omega)
        have hm : m ≤ 32 := by omega
        have W1 := Lib.hid (worth_any m hm w)
        have e2 : ((2 : Int) ^ m) = ((2 ^ m : Nat) : Int) := by simp
        rw [Int.toNat_natCast, e2] at NO YES
        obtain ⟨p, hpp⟩ : ∃ p, 2 ^ m = p := ⟨_, rfl⟩
        rw [hpp] at NO YES W1
        by_cases g4 : s < ((p : Nat) : Int)
        · have YY := YES ⟨g1, g2, g3, g4⟩
          have g5 : decide (s < ((p : Nat) : Int)) = true := decide_eq_true g4
          clear NO YES hpp e2
          go_enter Tryz.func21, Tryz.ntmps21
          go_wp2_with fail
          refine W1.out.mono ?_
          rintro e w2 ⟨rfl, rfl⟩
          go_wp2
          exact YY.out
        · have YY := NO fun h => g4 h.2.2.2
          have g5 : decide (s < ((p : Nat) : Int)) = false := decide_eq_false g4
          clear NO YES hpp e2
          go_enter Tryz.func21, Tryz.ntmps21
          go_wp2_with fail
          refine W1.out.mono ?_
          rintro e w2 ⟨rfl, rfl⟩
          go_wp2
          exact YY.out
      · have NN := NO (by omega)
        clear NO YES
        go_enter Tryz.func21, Tryz.ntmps21
        go_wp2
        exact NN.out
    · have NN := NO (by omega)
      clear NO YES
      go_enter Tryz.func21, Tryz.ntmps21
      go_wp2
      exact NN.out
  · have NN := NO (by omega)
    clear NO YES
    go_enter Tryz.func21, Tryz.ntmps21
    go_wp2
    exact NN.out
set_option maxRecDepth 100000 in
set_option maxHeartbeats 1000000 in
theorem refHas_any (s c : Int) (w : World) : Calls Tryz.prog 23 #[.int .i64 s, .int .i64 c] w fun e w' => e = .returned (.bool (hasZ s c)) ∧ w = w' := by
  have H := Lib.hid (refRight_any s 32 w)
  obtain ⟨P, hP⟩ : ∃ P, (fun (e : Ending) w' => e = .returned (.bool (hasZ s c)) ∧ w = w') = P := ⟨_, rfl⟩
  have HP := Lib.hid hP
  have ANS : ∀ b, hasZ s c = b → Hid (P (.returned (.bool b)) w) := fun b h => by
    rw [← HP.out]
    exact Lib.hid ⟨by rw [h], rfl⟩
  rw [hP]
  clear hP
  cases hr : rightZ s 32 with
  | false =>
    rw [hr] at H
    have HQ := ANS false (by unfold hasZ; rw [hr]; rfl)
    clear ANS hr
    go_enter Tryz.func23, Tryz.ntmps23
    go_wp2_with fail
    refine H.out.mono ?_
    rintro e w2 ⟨rfl, rfl⟩
    go_wp2
    exact HQ.out
  | true =>
    obtain ⟨x, m, rfl, hm, _, _, hx⟩ := rightZ_of hr
    have h32 : m = 32 := by omega
    subst h32
    clear hm
    rw [hr] at H
    rw [hasZ_nat hx] at ANS
    by_cases g1 : 0 ≤ c
    · by_cases g2 : c < 32
      · obtain ⟨k, rfl⟩ := Int.eq_ofNat_of_zero_le g1
        have hk : k < 32 := by omega
        have W1 := Lib.hid (worth_any k (by omega) w)
        have hp := two_pos k
        have hdb := div_bit x k
        rw [decide_eq_true ⟨g1, g2⟩, Bool.true_and, Int.toNat_natCast] at ANS
        obtain ⟨p, hpp⟩ : ∃ p, 2 ^ k = p := ⟨_, rfl⟩
        rw [hpp] at W1 hp hdb
        have t1 : ((x : Nat) : Int).tdiv ((p : Nat) : Int) = ((x / p : Nat) : Int) := by rw [Int.tdiv_eq_ediv_of_nonneg (Int.natCast_nonneg _)]; simp
        have t2 : ((x : Nat) : Int) / ((p : Nat) : Int) = ((x / p : Nat) : Int) := by simp
        obtain ⟨q, hq⟩ : ∃ q, x / p = q := ⟨_, rfl⟩
        rw [hq] at t1 t2 hdb
        have t3 : ((q : Nat) : Int).tmod 2 = ((q % 2 : Nat) : Int) := by rw [Int.tmod_eq_emod_of_nonneg (Int.natCast_nonneg _)]; simp
        have HQ := ANS (((q : Nat) : Int) % 2 == 1) (by
          rw [← hdb]
          by_cases h : q % 2 = 1
          · rw [decide_eq_true h]
            have : ((q : Nat) : Int) % 2 = 1 := by omega
            rw [this]; rfl
          · rw [decide_eq_false h]
            have : ((q : Nat) : Int) % 2 = 0 := by omega
            rw [this]; rfl)
        have hpne : ¬ ((p : Nat) : Int) = 0 := by omega
        have hwq : wrap64 ((q : Nat) : Int) = ((q : Nat) : Int) := by
          have : q ≤ x := by rw [← hq]; exact Nat.div_le_self _ _
          exact wrap_idK (by omega) (by omega)
        clear ANS hr hx hdb hpp hq g1 g2
        go_enter Tryz.func23, Tryz.ntmps23
        go_wp2_with fail
        refine H.out.mono ?_
        rintro e w2 ⟨rfl, rfl⟩
        go_wp2_with fail
        refine W1.out.mono ?_
        rintro e w3 ⟨rfl, rfl⟩
        go_wp2
        exact HQ.out
      · have HQ := ANS false (by rw [decide_eq_false (by omega)]; rfl)
        clear ANS hr hx
        go_enter Tryz.func23, Tryz.ntmps23
        go_wp2_with fail
        refine H.out.mono ?_
        rintro e w2 ⟨rfl, rfl⟩
        go_wp2
        exact HQ.out
    · have HQ := ANS false (by rw [decide_eq_false (by omega)]; rfl)
      clear ANS hr hx
      go_enter Tryz.func23, Tryz.ntmps23
      go_wp2_with fail
      refine H.out.mono ?_
      rintro e w2 ⟨rfl, rfl⟩
      go_wp2
      exact HQ.out
set_option maxRecDepth 100000 in
set_option maxHeartbeats 2000000 in
theorem refOf_any (o : Option Addr) (l : List Int) (cap : Nat) (hl : l.length ≤ 1000) (w : World) (hA : NumsAt w o l) :
    Calls Tryz.prog 19 #[.slice o l.length cap] w fun e w' => e = .returned (.tuple #[.int .i64 (ofV l), .int .i64 (errZ (ofZ l))]) ∧ w = w' := by
  obtain ⟨P, hP⟩ : ∃ P, (fun (e : Ending) w' => e = .returned (.tuple #[.int .i64 (ofV l), .int .i64 (errZ (ofZ l))]) ∧ w = w') = P := ⟨_, rfl⟩
  have HP := Lib.hid hP
  rw [hP]
  obtain ⟨n, hnn⟩ : ∃ n, l.length = n := ⟨_, rfl⟩
  rw [hnn] at hl ⊢
  have HN := Lib.hid hnn
  have HA := Lib.hid hA
  clear hP hA hnn
  go_enter Tryz.func19, Tryz.ntmps19
  go_wp2_with fail
  go_loopg [4, 5] n (fun k v i wr => ∃ (j x : Nat), i = .int .i64 (j : Nat) ∧ v = .int .i64 (x : Nat) ∧ j ≤ n ∧ k = n - j ∧ Hid ((l.take j).all inC = true ∧ ofN (l.take j) = x ∧ x < 2 ^ 32) ∧ w = wr)
  case atStart => exact ⟨0, 0, rfl, rfl, Nat.zero_le _, rfl, Lib.hid ⟨rfl, rfl, by decide⟩, rfl⟩
  case round =>
    obtain ⟨j, x, rfl, rfl, hj, rfl, HX, rfl⟩ := hrel
    rcases Nat.lt_or_ge j n with hlt | hge
    · have hj1 : j < 1000000 := by omega
      obtain ⟨c, hc⟩ : ∃ c, l[j]? = some c := ⟨_, List.getElem?_eq_getElem (by rw [HN.out]; exact hlt)⟩
      obtain ⟨g, off, rfl, hcc⟩ := HA.out (by rw [HN.out]; omega)
      have k0 := hcc j c hc
      have hg := World.block_lt_of_cell? w _ k0
      have hm := List.mem_of_getElem? hc
      have ht : l.take (j + 1) = l.take j ++ [c] := by rw [List.take_add_one, hc]; rfl
      by_cases hin : 0 ≤ c ∧ c < 32
      · obtain ⟨k, rfl⟩ := Int.eq_ofNat_of_zero_le hin.1
        have hk : k < 32 := by omega
        have HH := Lib.hid (refHas_any ((x : Nat) : Int) ((k : Nat) : Int) w)
        rw [hasZ_nat HX.out.2.2, decide_eq_true hin, Bool.true_and, Int.toNat_natCast] at HH
        have HX2 : Hid ((l.take (j + 1)).all inC = true ∧ ofN (l.take (j + 1)) = (x ||| 2 ^ k) ∧ (x ||| 2 ^ k) < 2 ^ 32) := Lib.hid (by
          refine ⟨?_, ?_, or_two_lt HX.out.2.2 hk⟩
          · rw [ht, List.all_append, HX.out.1]
            simp [inC]
            omega
          · rw [ht]
            show ofA 0 _ = _
            rw [ofA_snoc, Int.toNat_natCast]
            have := HX.out.2.1
            have h2 : ofA 0 (l.take j) = x := this
            rw [h2])
        have hlo : ¬ ((k : Nat) : Int) < 0 := by omega
        have hhi : ¬ (31 : Int) < ((k : Nat) : Int) := by omega
        cases hb : x.testBit k with
        | true =>
          rw [or_two_has hb] at HX2
          rw [hb] at HH
          clear hcc hc hm ht hin hb
          go_wp2_with fail
          refine HH.out.mono ?_
          rintro e w2 ⟨rfl, rfl⟩
          go_wp2
          go_roundg (n - (j + 1))
          case measure => omega
          case rel => exact ⟨j + 1, x, by simp, rfl, by omega, rfl, HX2, rfl⟩
        | false =>
          rw [or_two hb] at HX2
          rw [hb] at HH
          have HW := Lib.hid (worth_any k (by omega) w)
          have hx2 := HX2.out.2.2
          obtain ⟨p, hp⟩ : ∃ p, 2 ^ k = p := ⟨_, rfl⟩
          rw [hp] at HW HX2 hx2
          have hwx : wrap64 (((x : Nat) : Int) + ((p : Nat) : Int)) = ((x + p : Nat) : Int) := by rw [← Int.natCast_add]; exact wrap_idK (by omega) (by omega)
          clear hcc hc hm ht hin hb hp
          go_wp2_with fail
          refine HH.out.mono ?_
          rintro e w2 ⟨rfl, rfl⟩
          go_wp2_with fail
          refine HW.out.mono ?_
          rintro e w2 ⟨rfl, rfl⟩
          go_wp2
          go_roundg (n - (j + 1))
          case measure => omega
          case rel => exact ⟨j + 1, x + p, by simp, by first | exact congrArg _ hwx | simp, by omega, rfl, HX2, rfl⟩
      · have HNO : ofZ l = none := ofZ_none hm (decide_eq_false hin)
        have HQ : Hid (P (.returned (.tuple #[.int .i64 0, .int .i64 70])) w) := by
          rw [← HP.out]
          exact Lib.hid ⟨by unfold ofV; rw [HNO]; rfl, rfl⟩
        have hcase : c < 0 ∨ (¬ c < 0 ∧ 31 < c) := by omega
        clear hcc hc ht hin HNO
        rcases hcase with h0 | ⟨h0, h32⟩
        all_goals
          go_wp2
          exact HQ.out
    · obtain rfl : j = n := by omega
      have hof : ofZ l = some x := by
        have h := HX.out
        rw [List.take_of_length_le (by rw [HN.out]; exact Nat.le_refl _)] at h
        rw [ofZ_some h.1, h.2.1]
      have HQ : Hid (P (.returned (.tuple #[.int .i64 (x : Nat), .int .i64 0])) w) := by
        rw [← HP.out]
        exact Lib.hid ⟨by unfold ofV; rw [hof]; rfl, rfl⟩
      clear hof
      go_wp2
      exact HQ.out
set_option maxHeartbeats 1000000 in
theorem refNot_any (s n : Int) (w : World) : Calls Tryz.prog 28 #[.int .i64 s, .int .i64 n] w fun e w' => e = .returned (.int .i64 (notZ s n)) ∧ w = w' := by
  have H := Lib.hid (refRight_any s n w)
  cases hr : rightZ s n with
  | false =>
    rw [hr] at H
    have e0 : notZ s n = 0 := by unfold notZ; rw [hr]; rfl
    rw [e0]
    clear hr e0
    go_enter Tryz.func28, Tryz.ntmps28
    go_wp2_with fail
    refine H.out.mono ?_
    rintro e w2 ⟨rfl, rfl⟩
    go_wp2
    go_ret
    exact ⟨rfl, rfl⟩
  | true =>
    obtain ⟨x, m, rfl, rfl, h1, h2, hx⟩ := rightZ_of hr
    rw [hr] at H
    have W1 := Lib.hid (worth_any m h2 w)
    have hl := two_32 h2
    rw [notZ_nat h1 h2 hx]
    unfold notN
    obtain ⟨p, hp⟩ : ∃ p, 2 ^ m = p := ⟨_, rfl⟩
    rw [hp] at W1 hx hl ⊢
    have e1 : ((p - 1 - x : Nat) : Int) = ((p : Nat) : Int) - 1 - ((x : Nat) : Int) := by omega
    rw [e1]
    clear hr hp e1
    go_enter Tryz.func28, Tryz.ntmps28
    go_wp2_with fail
    refine H.out.mono ?_
    rintro e w2 ⟨rfl, rfl⟩
    go_wp2_with fail
    refine W1.out.mono ?_
    rintro e w3 ⟨rfl, rfl⟩
    go_wp2
    go_ret
    exact ⟨rfl, rfl⟩
theorem own_rowK {w : World} {base n cap : Nat} {o : Option Addr} {e : TypeId} {size : Nat} {xs : List Value} {k : Nat} (h : w.ownsRow base e size (.slice o n cap) n xs) (hk : (Value.slice o n cap).ownBlock = some k) : base ≤ k := by
  rcases h.2 with ⟨hv, _⟩ | ⟨g, cap', cur, hv, hg, _⟩
  · rw [hv] at hk; simp [Value.ownBlock] at hk
  · rw [hv] at hk
    obtain rfl : g = k := by simpa [Value.ownBlock] using hk
    exact hg
def clZ (s : Int) (j : Nat) : List Nat := if rightZ s 32 then classesN j s.toNat else []
theorem clZ_all (s : Int) : clZ s 32 = classesZ s := rfl
theorem clZ_snoc (s : Int) {j : Nat} (hj : j < 32) : clZ s (j + 1) = clZ s j ++ (if hasZ s ((j : Nat) : Int) then [j] else []) := by
  unfold clZ
  cases hr : rightZ s 32 with
  | false =>
    have : hasZ s ((j : Nat) : Int) = false := by unfold hasZ; rw [hr]; rfl
    rw [this]; rfl
  | true =>
    have : hasZ s ((j : Nat) : Int) = s.toNat.testBit j := by
      unfold hasZ
      rw [hr, decide_eq_true (show (0 : Int) ≤ ((j : Nat) : Int) ∧ ((j : Nat) : Int) < 32 by omega)]
      simp
    rw [this]
    exact classesN_snoc j s.toNat
theorem clZ_le (s : Int) (j : Nat) : (clZ s j).length ≤ j := by
  unfold clZ
  split
  · exact classesN_le _ _
  · simp
set_option maxRecDepth 100000 in
set_option maxHeartbeats 2000000 in
theorem refClasses_any (s : Int) (w : World) : Calls Tryz.prog 26 #[.int .i64 s] w fun e w' => ∃ o c, e = .returned (.slice o (classesZ s).length c) ∧ NumsAt w' o ((classesZ s).map fun c => ((c : Nat) : Int)) ∧ (classesZ s).length ≤ c ∧ Below w.heap.size w w' := by
  obtain ⟨P, hP⟩ : ∃ P, (fun (e : Ending) w' => ∃ o c, e = .returned (.slice o (classesZ s).length c) ∧ NumsAt w' o ((classesZ s).map fun c => ((c : Nat) : Int)) ∧ (classesZ s).length ≤ c ∧ Below w.heap.size w w') = P := ⟨_, rfl⟩
  have HP := Lib.hid hP
  rw [hP]
  clear hP
  go_enter Tryz.func26, Tryz.ntmps26
  go_wp2_with fail
  go_loopg [3, 4] 32 (fun k v i wr => ∃ (j m : Nat), i = .int .i64 (j : Nat) ∧ j ≤ 32 ∧ k = 32 - j ∧ m ≤ j ∧ Hid ((clZ s j).length = m) ∧ Hid (wr.ownsRow w.heap.size 3 1 v m ((clZ s j).map intC)) ∧ Hid (Below w.heap.size w wr))
  case atStart =>
    have h0 : clZ s 0 = [] := by unfold clZ; split <;> rfl
    exact ⟨0, 0, rfl, by omega, rfl, Nat.le_refl _, Lib.hid (by rw [h0]; rfl), Lib.hid (by rw [h0]; exact World.ownsRow_nil _ _ _ _), Lib.hid (Below.refl _ _)⟩
  case round =>
    obtain ⟨j, m, rfl, hj, rfl, hm, HM, HO, HB⟩ := hrel
    obtain ⟨o, cap, rfl⟩ := own_form HO.out
    rcases Nat.lt_or_ge j 32 with hlt | hge
    · have HH := Lib.hid (refHas_any s ((j : Nat) : Int) wr)
      cases hb : hasZ s ((j : Nat) : Int) with
      | false =>
        have hs : clZ s (j + 1) = clZ s j := by rw [clZ_snoc s hlt, hb]; simp
        rw [hb] at HH
        have HM2 : Hid ((clZ s (j + 1)).length = m) := Lib.hid (by rw [hs]; exact HM.out)
        have HO2 : Hid (wr.ownsRow w.heap.size 3 1 (.slice o m cap) m ((clZ s (j + 1)).map intC)) := Lib.hid (by rw [hs]; exact HO.out)
        clear hb hs
        go_wp2_with fail
        refine HH.out.mono ?_
        rintro e w2 ⟨rfl, rfl⟩
        go_wp2
        go_roundg (32 - (j + 1))
        case measure => omega
        case rel => exact ⟨j + 1, m, by simp, by omega, rfl, by omega, HM2, HO2, HB⟩
      | true =>
        have hs : clZ s (j + 1) = clZ s j ++ [j] := by rw [clZ_snoc s hlt, hb]; rfl
        rw [hb] at HH
        obtain ⟨g', cap', w6, hrun, hown', hgrow⟩ := code_ownK j HO.out (by omega) HB.out.size
        have HM2 : Hid ((clZ s (j + 1)).length = m + 1) := Lib.hid (by rw [hs, List.length_append, HM.out]; rfl)
        have HO2 : Hid (w6.ownsRow w.heap.size 3 1 (.slice (some ⟨g', 0, none⟩) (m + 1) cap') (m + 1) ((clZ s (j + 1)).map intC)) := Lib.hid (by rw [hs, List.map_append]; exact hown')
        have hbW : Below w.heap.size w (wr.alloc (.cells #[.int .i64 (j : Nat)] 3)) := HB.out.alloc HB.out.size _
        have HB2 : Hid (Below w.heap.size w w6) := Lib.hid (hbW.grown hgrow (by have := HB.out.size; simp; omega) (fun k hk => own_rowK HO.out hk))
        clear hb hs hown' hgrow hbW
        go_wp2_with fail
        refine HH.out.mono ?_
        rintro e w2 ⟨rfl, rfl⟩
        go_wp2
        go_roundg (32 - (j + 1))
        case measure => omega
        case rel => exact ⟨j + 1, m + 1, by simp, by omega, rfl, by omega, HM2, by simpa using HO2, HB2⟩
    · obtain rfl : j = 32 := by omega
      have h1 := HM.out
      rw [clZ_all] at h1
      have HQ : Hid (P (.returned (.slice o m cap)) wr) := by
        rw [← HP.out]
        refine Lib.hid ⟨o, cap, by rw [h1], ?_, ?_, HB.out⟩
        · have h2 := HO.out
          rw [clZ_all, ← h1] at h2
          exact nums_own h2
        · rw [h1]; exact own_cap HO.out
      clear h1
      go_wp2
      exact HQ.out
set_option maxRecDepth 100000 in
set_option maxHeartbeats 2000000 in
/-- Two slices that say the same numbers. -/
theorem ints_sameK (o p : Option Addr) (l : List Int) (ca cb : Nat) (hl : l.length ≤ 1000) (w : World) (hA : NumsAt w o l) (hB : NumsAt w p l) :
    Calls Tryz.prog 24 #[.slice o l.length ca, .slice p l.length cb] w fun e w' => e = .returned (.bool true) ∧ Below w.heap.size w w' := by
  obtain ⟨P, hP⟩ : ∃ P, (fun (e : Ending) w' => e = .returned (.bool true) ∧ Below w.heap.size w w') = P := ⟨_, rfl⟩
  have HP := Lib.hid hP
  rw [hP]
  obtain ⟨n, hnn⟩ : ∃ n, l.length = n := ⟨_, rfl⟩
  rw [hnn] at hl ⊢
  have HN := Lib.hid hnn
  have HA := Lib.hid hA
  have HB := Lib.hid hB
  clear hP hA hB hnn
  go_enter Tryz.func24, Tryz.ntmps24
  go_wp2_with fail
  go_loopg [5] n (fun k i wr => ∃ (j : Nat), i = .int .i64 (j : Nat) ∧ j ≤ n ∧ k = n - j ∧ Hid (Below w.heap.size w wr))
  case atStart => exact ⟨0, rfl, Nat.zero_le _, rfl, Lib.hid (Below.refl _ _)⟩
  case round =>
    obtain ⟨j, rfl, hj, rfl, HBl⟩ := hrel
    rcases Nat.lt_or_ge j n with hlt | hge
    · have hj1 : j < 1000000 := by omega
      obtain ⟨c, hc⟩ : ∃ c, l[j]? = some c := ⟨_, List.getElem?_eq_getElem (by rw [HN.out]; exact hlt)⟩
      obtain ⟨g, off, rfl, hcc⟩ := (HA.out.below HBl.out) (by rw [HN.out]; omega)
      obtain ⟨g2, off2, rfl, hcc2⟩ := (HB.out.below HBl.out) (by rw [HN.out]; omega)
      have k0 := hcc j c hc
      have k1 := hcc2 j c hc
      have hg := World.block_lt_of_cell? wr _ k0
      have hg2 := World.block_lt_of_cell? wr _ k1
      have HB2 : Hid (Below w.heap.size w wr.drew) := Lib.hid HBl.out.drew
      clear hcc hcc2 hc
      go_wp2_with fail
      go_still_tail 8, (by kernel_rfl)
      change wpList _ _ _ _ _ wr.drew
      go_wp2
      go_roundg (n - (j + 1))
      case measure => omega
      case rel => exact ⟨j + 1, by simp, by omega, rfl, HB2⟩
    · obtain rfl : j = n := by omega
      have HQ : Hid (P (.returned (.bool true)) wr) := by
        rw [← HP.out]
        exact Lib.hid ⟨rfl, HBl.out⟩
      go_wp2
      exact HQ.out
end Go.Proofs.YtnpbbmoknlbfaaaGreatDoor
