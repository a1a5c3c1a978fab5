/- Shaken by bunq.py. -/
import Derived.Test.YtnmhdcbpbaanoaaGreatDoorBuq9
namespace Go.Proofs.YtnmhdcbpbaanoaaGreatDoor
open Go.RowKit Go.Shelf Go.Maps
attribute [local go_sem] Oper.semAt_some

theorem toList_sameP {x y : ByteArray} (h : x ≠ y) : (x.toList == y.toList) = false := by
  rw [beq_eq_false_iff_ne, Lib.toList_data, Lib.toList_data]
  exact fun e => h (bytes_ext e)
theorem valueL_pre {ns : List ByteArray} {j : Nat} {x s : ByteArray} (hx : ns[j]? = some x) (hn : valueL (ns.take j) s = none) (he : x = s) : valueL ns s = some j := by
  have h1 := valueL_append (ns.take (j + 1)) (ns.drop (j + 1)) s
  rw [List.take_append_drop, valueL_snoc hx, hn, if_pos he] at h1
  rw [h1]
  rfl
theorem refValue_any (o : Option Addr) (ns : List ByteArray) (cap : Nat) (s : ByteArray) (hn : ns.length ≤ 1000) (w : World) (hA : TxtAt w o ns) :
    Calls Tryz.prog 71 #[.slice o ns.length cap, .string s] w fun e w' => e = .returned (ansV (valueL ns s)) ∧ Below w.heap.size w w' := by
  obtain ⟨P, hP⟩ : ∃ P, (fun (e : Ending) w' => e = .returned (ansV (valueL ns s)) ∧ Below w.heap.size w w') = P := ⟨_, rfl⟩
  have HP := Lib.hid hP
  rw [hP]
  obtain ⟨n, hnn⟩ : ∃ n, ns.length = n := ⟨_, rfl⟩
  have HN := Lib.hid hnn
  rw [hnn] at hn ⊢
  have HA := Lib.hid hA
  have HB0 := Lib.hid (Below.refl w.heap.size w)
  clear hP hnn hA
  go_enter Tryz.func71, Tryz.ntmps71
  go_wp2_with fail
  go_loopg [6] n (fun k v wr => ∃ (j : Nat), v = .int .i64 (j : Nat) ∧ j ≤ n ∧ k = n - j ∧ Hid (valueL (ns.take j) s = none) ∧ Hid (Below w.heap.size w wr))
  case atStart => exact ⟨0, rfl, Nat.zero_le _, rfl, Lib.hid rfl, HB0⟩
  case round =>
    obtain ⟨j, rfl, hj, rfl, HI, HB⟩ := hrel
    rcases Nat.lt_or_ge j n with hlt | hge
    · have hj1 : j < 1000000 := by omega
      obtain ⟨x, hx⟩ : ∃ x, ns[j]? = some x := ⟨_, List.getElem?_eq_getElem (by rw [HN.out]; exact hlt)⟩
      obtain ⟨g, off, rfl, hc⟩ := (HA.out.below HB.out) (by rw [HN.out]; omega)
      have k0 := hc j x hx
      have hg := World.block_lt_of_cell? wr _ k0
      by_cases he : x = s
      · have HQ : Hid (P (.returned (.tuple #[.int .i64 (j : Nat), .bool true])) wr) := by
          rw [← HP.out]
          exact Lib.hid ⟨by rw [valueL_pre hx HI.out he]; rfl, HB.out⟩
        have hd : (x.toList == s.toList) = true := by rw [he]; simp
        clear hc hx he
        go_wp2
        exact HQ.out
      · have HI2 : Hid (valueL (ns.take (j + 1)) s = none) := Lib.hid (by rw [valueL_snoc hx, HI.out, if_neg he]; rfl)
        have hd : (x.toList == s.toList) = false := toList_sameP he
        clear hc hx he
        go_wp2
        go_roundg (n - (j + 1))
        case measure => omega
        case rel => exact ⟨j + 1, by simp, by omega, rfl, HI2, HB⟩
    · obtain rfl : j = n := by omega
      have hI := HI.out
      rw [List.take_of_length_le (by rw [HN.out]; exact Nat.le_refl _)] at hI
      have HQ : Hid (P (.returned (.tuple #[.int .i64 0, .bool false])) wr) := by
        rw [← HP.out]
        exact Lib.hid ⟨by rw [hI]; rfl, HB.out⟩
      clear hI HI
      go_wp2
      exact HQ.out
set_option maxHeartbeats 1000000 in
theorem letter_c (r : Int) (w : World) : Calls Tryz.prog 70 #[.int .u8 r] w fun e w' => e = .returned (.bool (runeB r)) ∧ w = w' := by
  have HD : Hid (∀ b, runeB r = b → runeB r = b) := Lib.hid fun _ h => h
  have yes : (97 ≤ r ∧ r ≤ 122) ∨ (65 ≤ r ∧ r ≤ 90) ∨ (48 ≤ r ∧ r ≤ 57) ∨ r = 95 → runeB r = true := fun h => by unfold runeB; simp; omega
  have no : ¬ ((97 ≤ r ∧ r ≤ 122) ∨ (65 ≤ r ∧ r ≤ 90) ∨ (48 ≤ r ∧ r ≤ 57) ∨ r = 95) → runeB r = false := fun h => by unfold runeB; simp; omega
  have YES := Lib.hid yes
  have NO := Lib.hid no
  clear yes no HD
  go_enter Tryz.func70, Tryz.ntmps70
  by_cases a1 : 97 ≤ r
  · by_cases a2 : r ≤ 122
    · rw [YES.out (by omega)]
      go_wp2
      go_ret
      exact ⟨rfl, rfl⟩
    · rw [NO.out (by omega)]
      have b1 : 65 ≤ r := by omega
      have b2 : ¬ r ≤ 90 := by omega
      have b3 : 48 ≤ r := by omega
      have b4 : ¬ r ≤ 57 := by omega
      have b5 : (r == 95) = false := by simp; omega
      go_wp2
      go_ret
      exact ⟨rfl, rfl⟩
  · by_cases a3 : 65 ≤ r
    · by_cases a4 : r ≤ 90
      · rw [YES.out (by omega)]
        go_wp2
        go_ret
        exact ⟨rfl, rfl⟩
      · have b3 : 48 ≤ r := by omega
        have b4 : ¬ r ≤ 57 := by omega
        by_cases a5 : r = 95
        · rw [YES.out (by omega)]
          go_wp2
          go_ret
          exact ⟨rfl, rfl⟩
        · rw [NO.out (by omega)]
          have b5 : (r == 95) = false := by simpa using a5
          go_wp2
          go_ret
          exact ⟨rfl, rfl⟩
    · have b5 : (r == 95) = false := by simp; omega
      by_cases a6 : 48 ≤ r
      · by_cases a7 : r ≤ 57
        · rw [YES.out (by omega)]
          go_wp2
          go_ret
          exact ⟨rfl, rfl⟩
        · rw [NO.out (by omega)]
          go_wp2
          go_ret
          exact ⟨rfl, rfl⟩
      · rw [NO.out (by omega)]
        go_wp2
        go_ret
        exact ⟨rfl, rfl⟩
theorem letter_any (b : UInt8) (w : World) : Calls Tryz.prog 70 #[.int .u8 (b.toNat : Nat)] w fun e w' => e = .returned (.bool (letB b)) ∧ w = w' := by
  have h := letter_c ((b.toNat : Nat) : Int) w
  rwa [runeB_byte] at h
end Go.Proofs.YtnmhdcbpbaanoaaGreatDoor
