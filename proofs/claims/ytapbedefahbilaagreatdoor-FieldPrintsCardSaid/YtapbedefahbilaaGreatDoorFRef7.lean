/- The document's own answers: hex. -/
import Derived.Test.YtapbedefahbilaaGreatDoorFRef4
import Derived.Test.YtapbedefahbilaaGreatDoorFRound
namespace Go.Proofs.YtapbedefahbilaaGreatDoor
open Go.RowKit Go.Shelf Go.Maps

theorem bytes_eq {s t : ByteArray} (h : s.data.toList = t.data.toList) : s = t := by
  have h2 : s.data = t.data := Array.toList_inj.1 h
  cases s; cases t; simp_all
abbrev capD : ByteArray := ⟨#[48, 49, 50, 51, 52, 53, 54, 55, 56, 57, 65, 66, 67, 68, 69, 70]⟩
theorem cap_at (q : Nat) (h : q < 16) : (capD.extract q (q + 1)).data.toList = [Lib.upperB (digB q)] := by
  have : ∀ q : Fin 16, (capD.extract q.val (q.val + 1)).data.toList = [Lib.upperB (digB q.val)] := by decide
  exact this ⟨q, h⟩
/-- What is still to be laid ahead of t, of a number. -/
def hexG (m : Nat) (t : List UInt8) : List UInt8 := padL ((if m = 0 then [] else upL m) ++ t)
theorem hexG_start (n : Nat) : hexG n [] = padL (upL n) := by
  unfold hexG
  by_cases h : n = 0
  · subst h
    rw [if_pos rfl]
    have : upL 0 = [48] := by unfold upL Lib.toUpperA; rw [digitsL_small (by omega)]; rfl
    rw [this]
    rfl
  · rw [if_neg h, List.append_nil]
theorem hexG_end {t : List UInt8} (h : 4 ≤ t.length) : hexG 0 t = t := by
  unfold hexG padL
  rw [if_pos rfl, List.nil_append, show 4 - t.length = 0 from by omega]
  rfl
theorem up_big {m : Nat} (h : 16 ≤ m) : upL m = upL (m / 16) ++ [Lib.upperB (digB (m % 16))] := by
  unfold upL Lib.toUpperA
  rw [digitsL_big h, List.map_append]
  rfl
theorem up_small {m : Nat} (h : m < 16) : upL m = [Lib.upperB (digB m)] := by
  unfold upL Lib.toUpperA
  rw [digitsL_small h]
  rfl
theorem hexG_step {m : Nat} {t : List UInt8} (h : 0 < m ∨ t.length < 4) : hexG (m / 16) (Lib.upperB (digB (m % 16)) :: t) = hexG m t := by
  unfold hexG
  rcases Nat.lt_or_ge m 16 with h1 | h1
  · rw [show m / 16 = 0 from by omega, if_pos rfl, List.nil_append, show m % 16 = m from by omega]
    by_cases h0 : m = 0
    · subst h0
      rw [if_pos rfl, List.nil_append]
      have hlt : t.length < 4 := by omega
      unfold padL
      rw [show Lib.upperB (digB 0) = 48 from by decide, List.length_cons, show 4 - t.length = (4 - (t.length + 1)) + 1 from by omega, List.replicate_succ', List.append_assoc]
      rfl
    · rw [if_neg h0, up_small h1]
      rfl
  · rw [if_neg (by omega), if_neg (by omega), up_big h1, List.append_assoc]
    rfl
set_option maxRecDepth 100000 in
set_option maxHeartbeats 2000000 in
theorem rhexN_any (n : Nat) (hn : n < 9223372036854775808) (w : World) : Calls Tryz.prog 39 #[.int .i64 (n : Nat)] w fun e w' => e = .returned (strV (padL (upL n))) ∧ w = w' := by
  have h0 : ¬ ((n : Nat) : Int) < 0 := by omega
  obtain ⟨T, hT⟩ : ∃ T, padL (upL n) = T := ⟨_, rfl⟩
  have HT : Hid (hexG n [] = T) := Lib.hid (by rw [hexG_start, hT])
  rw [hT]
  clear hT
  go_enter Tryz.func39, Tryz.ntmps39
  go_wp2_with fail
  go_loopg [0, 4] (n * 5 + 4) (fun k v s wr => ∃ (m : Nat) (x : ByteArray), v = .int .i64 (m : Nat) ∧ s = .string x ∧ m * 5 + (4 - x.size) = k ∧ m < 9223372036854775808 ∧ x.size ≤ 16 ∧ Hid (m * 16 ^ x.size ≤ n) ∧ Hid (hexG m x.data.toList = T) ∧ w = wr)
  case atStart => exact ⟨n, ⟨#[]⟩, rfl, rfl, rfl, hn, by decide, Lib.hid (by show n * 16 ^ 0 ≤ n; rw [Nat.pow_zero, Nat.mul_one]; exact Nat.le_refl _), HT, rfl⟩
  case round =>
    obtain ⟨m, x, rfl, rfl, rfl, hm, hx, hle, hG, rfl⟩ := hrel
    have hlx : x.data.toList.length = x.size := Array.length_toList
    obtain ⟨q, hq⟩ : ∃ q, m % 16 = q := ⟨_, rfl⟩
    obtain ⟨d, hd⟩ : ∃ d, m / 16 = d := ⟨_, rfl⟩
    have hq16 : q < 16 := by omega
    have e1 : ((m : Nat) : Int) % 16 = ((q : Nat) : Int) := by omega
    have e2 : ((m : Nat) : Int) / 16 = ((d : Nat) : Int) := by omega
    have hext : (capD.extract q (q + 1)).size = 1 := by rw [ByteArray.size_extract]; have h16 : capD.size = 16 := rfl; omega
    have hways : (0 < m) ∨ (m = 0 ∧ x.size < 4) ∨ (m = 0 ∧ 4 ≤ x.size) := by omega
    have hcat : ((capD.extract q (q + 1)) ++ x).data.toList = Lib.upperB (digB q) :: x.data.toList := by
      rw [ByteArray.data_append, Array.toList_append, cap_at q hq16]
      rfl
    have hstep : (0 < m ∨ x.size < 4) → hexG d ((capD.extract q (q + 1)) ++ x).data.toList = T := fun h => by
      rw [hcat, ← hd, ← hq, hexG_step (by rw [hlx]; exact h)]
      exact hG.out
    have HS2 : Hid (((capD.extract q (q + 1)) ++ x).size = x.size + 1) := Lib.hid (by rw [ByteArray.size_append, hext]; omega)
    have HL2 : Hid (d * 16 ^ (x.size + 1) ≤ n) := by
      refine Lib.hid (Nat.le_trans ?_ hle.out)
      rw [Nat.pow_succ, Nat.mul_comm (16 ^ x.size) 16, ← Nat.mul_assoc]
      exact Nat.mul_le_mul_right _ (by omega)
    rcases hways with h | ⟨h', h⟩ | ⟨rfl, h⟩
    · have hsz : x.size ≤ 15 := by
        rcases Nat.lt_or_ge x.size 16 with h1 | h1
        · omega
        · have h2 : 16 ^ 16 ≤ 16 ^ x.size := Nat.pow_le_pow_right (by omega) h1
          have h3 : (16 : Nat) ^ 16 = 18446744073709551616 := by decide
          have h4 := hle.out
          have h5 : 1 * 16 ^ x.size ≤ m * 16 ^ x.size := Nat.mul_le_mul_right _ h
          omega
      have HG2 := Lib.hid (hstep (.inl h))
      have hmi : (0 : Int) < ((m : Nat) : Int) := by omega
      have hd2 : d * 5 + 5 ≤ m * 5 := by omega
      clear hlx hext hq hd hG hle hcat hstep
      go_wp2
      go_roundg (d * 5 + (4 - (x.size + 1)))
      case measure => omega
      case rel => exact ⟨d, _, rfl, rfl, by rw [HS2.out], by omega, by rw [HS2.out]; omega, Lib.hid (by rw [HS2.out]; exact HL2.out), HG2, rfl⟩
    · have HG2 := Lib.hid (hstep (.inr h))
      have hd0 : d = 0 := by omega
      have hq0 : q = 0 := by omega
      subst hd0 hq0 h'
      clear hlx hext hq hd hG hle hcat hstep
      go_wp2
      go_roundg (0 * 5 + (4 - (x.size + 1)))
      case measure => omega
      case rel => exact ⟨0, _, rfl, rfl, by rw [HS2.out], by omega, by rw [HS2.out]; omega, Lib.hid (by rw [HS2.out]; exact HL2.out), HG2, rfl⟩
    · have hTx : T = x.data.toList := by rw [← hG.out, hexG_end (by rw [hlx]; exact h)]
      have HV : Hid (strV T = .string x) := by rw [hTx]; exact Lib.hid rfl
      clear hlx hext hq hd hG hle hcat hstep hTx HS2 HL2
      go_wp2
      go_ret
      exact ⟨by rw [HV.out]; rfl, rfl⟩
set_option maxHeartbeats 1000000 in
theorem rhex_any (n : Int) (hn : In64 n) (w : World) : Calls Tryz.prog 39 #[.int .i64 n] w fun e w' => e = .returned (strV (putL n)) ∧ w = w' := by
  unfold In64 at hn
  by_cases h : n < 0
  · have hb : magN n < 9223372036854775808 := by unfold magN; split <;> omega
    have hm := fun W => rhexN_any (magN n) hb W
    have hp : putL n = 45 :: padL (upL (magN n)) := by unfold putL; rw [if_pos h]; rfl
    obtain ⟨M, hM⟩ : ∃ M, magN n = M := ⟨_, rfl⟩
    rw [hM] at hm hp hb
    have hmx : max (IntKind.i64.wrap (-n)) 0 = ((M : Nat) : Int) := by
      rw [← hM, IntKind.wrap_i64]
      unfold magN
      split
      · rename_i e; subst e; decide
      · omega
    obtain ⟨T, hT⟩ : ∃ T, padL (upL M) = T := ⟨_, rfl⟩
    rw [hT] at hm hp
    have hTl : T.length ≤ 1000 := by
      rw [← hT]
      have := up_len hb
      unfold padL
      rw [List.length_append, List.length_replicate]
      omega
    obtain ⟨x, hx⟩ : ∃ x, bytes1 T = x := ⟨_, rfl⟩
    have hxz : x.size ≤ 1000 := by rw [← hx]; show T.toArray.size ≤ _; rw [List.size_toArray]; exact hTl
    have hsv : strV T = .string x := by rw [← hx]
    have hres : strV (putL n) = .string (⟨#[45]⟩ ++ x) := by
      rw [hp, ← hx]
      congr 1
    rw [hsv] at hm
    rw [hres]
    have HMC := Lib.hid hm
    clear hm hp hT hTl hx hsv hres hM
    go_enter Tryz.func39, Tryz.ntmps39
    go_wp2_with fail
    have hmx' : max (wrap64 (-n)) 0 = ((M : Nat) : Int) := by rw [IntKind.wrap_i64] at hmx; unfold wrap64; exact hmx
    rw [hmx']
    refine (HMC.out w).mono ?_
    rintro e w' ⟨rfl, rfl⟩
    clear hmx hmx'
    go_wp2
    go_ret
    exact ⟨rfl, rfl⟩
  · obtain ⟨m, rfl⟩ := Int.eq_ofNat_of_zero_le (by omega : 0 ≤ n)
    have := rhexN_any m (by omega) w
    have e : putL ((m : Nat) : Int) = padL (upL m) := by
      unfold putL magN
      rw [if_neg (by omega), if_neg (by omega)]
      simp
    rw [e]
    exact this
end Go.Proofs.YtapbedefahbilaaGreatDoor
