/- The document's own Sum. -/
import Derived.Test.YtcnbcaljpgdcpaaDoorBunA4
namespace Go.Proofs.YtcnbcaljpgdcpaaDoor
open Go.RowKit Go.Shelf Go.Maps
attribute [local go_sem] Oper.semAt_some

theorem sum_stepR (l : List UInt8) (x : UInt8) : sumA (l ++ [x]) = (sumA l + x.toNat) % 65536 := by
  unfold sumA
  rw [List.map_append, List.sum_append]
  simp
set_option maxRecDepth 100000 in
set_option maxHeartbeats 4000000 in
theorem refSum_any (s : ByteArray) (hs : s.size ≤ 1000000) (w : World) : Calls Tryd.prog 18 #[.string s] w fun e w' => e = .returned (.int .i64 ((sumA s.data.toList : Nat) : Int)) ∧ w = w' := by
  obtain ⟨P, hP⟩ : ∃ P, (fun (e : Ending) w' => e = .returned (.int .i64 ((sumA s.data.toList : Nat) : Int)) ∧ w = w') = P := ⟨_, rfl⟩
  have HP : Hid (P (.returned (.int .i64 ((sumA s.data.toList : Nat) : Int))) w) := by rw [← hP]; exact Lib.hid ⟨rfl, rfl⟩
  rw [hP]
  clear hP
  obtain ⟨n, hn⟩ : ∃ n, s.size = n := ⟨_, rfl⟩
  have HN := Lib.hid hn
  go_enter Tryd.func18, Tryd.ntmps18
  go_wp2_with fail
  go_loopg [3, 4] n (fun k v3 v7 wr => ∃ (j : Nat) (q : Nat), v7 = .int .i64 (j : Nat) ∧ v3 = .int .i64 (q : Nat) ∧ q < 65536 ∧ j ≤ n ∧ k = n - j ∧ Hid (sumA (s.data.toList.take j) = q) ∧ w = wr)
  case atStart => exact ⟨0, 0, rfl, rfl, by omega, Nat.zero_le _, rfl, Lib.hid rfl, rfl⟩
  case round =>
    obtain ⟨j, q, rfl, rfl, hq, hj, rfl, HI, rfl⟩ := hrel
    have hwj : IntKind.i64.wrap (((j : Nat) : Int) + 1) = (j : Nat) + 1 := wrap_id (by omega) (by omega)
    rcases Nat.lt_or_ge j n with hlt | hge
    · have hj1 : j < 1000000 := by omega
      have hjs : j < s.size := by omega
      have hb : s.data.toList[j]? = some s[j] := by rw [Array.getElem?_toList]; exact Array.getElem?_eq_getElem hjs
      have hlt' := u8_lt s[j]
      have hw1 : IntKind.i64.wrap (((q : Nat) : Int) + ((s[j].toNat : Nat) : Int)) = ((q + s[j].toNat : Nat) : Int) := by rw [show ((q : Nat) : Int) + ((s[j].toNat : Nat) : Int) = ((q + s[j].toNat : Nat) : Int) from by omega]; exact wrap_id (by omega) (by omega)
      have hw0 : IntKind.i64.wrap ((s[j].toNat : Nat) : Int) = ((s[j].toNat : Nat) : Int) := wrap_id (by omega) (by omega)
      have hm : (((q + s[j].toNat : Nat) : Int)).tmod 65536 = (((q + s[j].toNat) % 65536 : Nat) : Int) := by rw [Int.tmod_eq_emod_of_nonneg (by omega)]; omega
      have HI2 : Hid (sumA (s.data.toList.take (j + 1)) = (q + s[j].toNat) % 65536) := Lib.hid (by rw [List.take_add_one, hb, ← HI.out]; exact sum_stepR _ _)
      clear hb
      go_wp2
      go_roundg (n - (j + 1))
      case measure => omega
      case rel => exact ⟨j + 1, (q + s[j].toNat) % 65536, by simp, rfl, by omega, by omega, rfl, HI2, rfl⟩
    · obtain rfl : j = n := by omega
      have hq2 := HI.out
      rw [List.take_of_length_le (by rw [← size_list, HN.out]; exact Nat.le_refl _)] at hq2
      rw [hq2] at HP
      clear hq2 HI
      go_wp2
      exact HP.out
end Go.Proofs.YtcnbcaljpgdcpaaDoor
