/- The document's own one and Find, of ranges. -/
import Derived.Test.YtkhniogmogcjlaaDoorNFind
import Derived.Test.YtkhniogmogcjlaaDoorNMap
import Derived.Test.YtkhniogmogcjlaaDoorNSame
namespace Go.Proofs.YtkhniogmogcjlaaDoor
open Go.RowKit Go.Shelf Go.Maps
attribute [local go_sem] Oper.semAt_some

theorem one_any (x : Rng) (w : World) : Calls Tryd.prog 29 #[rngV x] w fun e w' => e = .returned (.bool (decide (okR x))) ∧ w.alloc (rngO x) = w' := by
  obtain ⟨a, b, v⟩ := x
  obtain ⟨D, hD⟩ : ∃ D, decide (okR (a, b, v)) = D := ⟨_, rfl⟩
  rw [hD]
  have HD := Lib.hid hD
  clear hD
  have no : ¬ okR (a, b, v) → D = false := fun h => by rw [← HD.out, decide_eq_false h]
  have yes : okR (a, b, v) → D = true := fun h => by rw [← HD.out, decide_eq_true h]
  unfold okR at no yes
  simp only at no yes
  have NO := Lib.hid no
  have YES := Lib.hid yes
  clear no yes
  go_enter Tryd.func29, Tryd.ntmps29
  by_cases h0 : 0 ≤ a
  · by_cases h1 : a ≤ b
    · by_cases h2 : b ≤ 1114111
      · by_cases h3 : 0 ≤ v
        · by_cases h4 : v ≤ 31
          · have h := YES.out ⟨h0, h1, h2, h3, h4⟩
            rw [h]
            go_wp2
            go_ret
            exact ⟨rfl, rfl⟩
          · have h := NO.out (by omega)
            rw [h]
            go_wp2
            go_ret
            exact ⟨rfl, rfl⟩
        · have h := NO.out (by omega)
          rw [h]
          go_wp2
          go_ret
          exact ⟨rfl, rfl⟩
      · have h := NO.out (by omega)
        rw [h]
        go_wp2
        go_ret
        exact ⟨rfl, rfl⟩
    · have h := NO.out (by omega)
      rw [h]
      go_wp2
      go_ret
      exact ⟨rfl, rfl⟩
  · have h := NO.out (by omega)
    rw [h]
    go_wp2
    go_ret
    exact ⟨rfl, rfl⟩
set_option maxRecDepth 100000 in
set_option maxHeartbeats 2000000 in
theorem refFind_any (o : Option Addr) (l : List Rng) (cap : Nat) (r : Int) (hn : l.length ≤ 1000000) (w : World) (hA : AtR w o l) :
    Calls Tryd.prog 13 #[.slice o l.length cap, .int .i64 r] w fun e w' => e = .returned (ansF (findL l r)) ∧ w = w' := by
  obtain ⟨n, hnn⟩ : ∃ n, l.length = n := ⟨_, rfl⟩
  rw [hnn] at hn ⊢
  have HN := Lib.hid hnn
  have HA := Lib.hid hA
  obtain ⟨P, hP⟩ : ∃ P, (fun (e : Ending) w' => e = .returned (ansF (findL l r)) ∧ w = w') = P := ⟨_, rfl⟩
  have HP := Lib.hid hP
  rw [hP]
  clear hP hA hnn
  go_enter Tryd.func13, Tryd.ntmps13
  go_wp2_with fail
  go_loopg [6] n (fun k v wr => ∃ (j : Nat), v = .int .i64 (j : Nat) ∧ j ≤ n ∧ k = n - j ∧ findL (l.take j) r = none ∧ w = wr)
  case atStart => exact ⟨0, rfl, Nat.zero_le _, rfl, rfl, rfl⟩
  case round =>
    obtain ⟨j, rfl, hj, rfl, hf, rfl⟩ := hrel
    rcases Nat.lt_or_ge j n with hlt | hge
    · have hj1 : j < 1000000 := by omega
      obtain ⟨x, hx⟩ : ∃ x, l[j]? = some x := ⟨_, List.getElem?_eq_getElem (by rw [HN.out]; exact hlt)⟩
      obtain ⟨g, off, rfl, hc⟩ := HA.out (by rw [HN.out]; omega)
      obtain ⟨k0, k1, k2⟩ := hc j x hx
      have yes : (x.1 ≤ r ∧ r ≤ x.2.1) → P (.returned (.tuple #[.int .i64 x.2.2, .bool true])) w := fun h => by
        rw [← HP.out, findL_pre hx hf h]
        exact ⟨rfl, rfl⟩
      have no : ¬ (x.1 ≤ r ∧ r ≤ x.2.1) → findL (l.take (j + 1)) r = none := fun h => findL_snoc hx hf h
      obtain ⟨a, b, v⟩ := x
      simp only at k0 k1 k2 yes no
      have YES := Lib.hid yes
      have NO := Lib.hid no
      clear yes no hc hx hf
      by_cases h1 : a ≤ r
      · by_cases h2 : r ≤ b
        · have HY := Lib.hid (YES.out ⟨h1, h2⟩)
          clear YES NO
          go_wp2_with fail
          exact HY.out
        · have HN2 := Lib.hid (NO.out (by omega))
          clear YES NO
          go_wp2_with fail
          go_roundg (n - (j + 1))
          case measure => omega
          case rel => exact ⟨j + 1, by simp, by omega, rfl, HN2.out, rfl⟩
      · have HN2 := Lib.hid (NO.out (by omega))
        clear YES NO
        go_wp2_with fail
        go_roundg (n - (j + 1))
        case measure => omega
        case rel => exact ⟨j + 1, by simp, by omega, rfl, HN2.out, rfl⟩
    · obtain rfl : j = n := by omega
      have HPP : Hid (P (.returned (.tuple #[.int .i64 0, .bool false])) w) := by
        rw [← HP.out]
        refine Lib.hid ⟨?_, rfl⟩
        rw [List.take_of_length_le (by rw [HN.out]; exact Nat.le_refl _)] at hf
        rw [hf]
        rfl
      clear hf
      go_wp2_with fail
      exact HPP.out
end Go.Proofs.YtkhniogmogcjlaaDoor
