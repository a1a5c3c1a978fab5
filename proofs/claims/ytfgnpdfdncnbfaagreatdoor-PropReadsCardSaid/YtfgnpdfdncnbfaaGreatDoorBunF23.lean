/- The document's own answers: hex. The document's own answers: Print. The document's own answers: Codes, Parse. Few: the first records, of the first fields, of their first bytes. -/
import Derived.Test.YtfgnpdfdncnbfaaGreatDoorBunF20
import Derived.Test.YtfgnpdfdncnbfaaGreatDoorBunF17
import Derived.StillTailTactics
namespace Go.Proofs.YtfgnpdfdncnbfaaGreatDoor
open Go.RowKit Go.Shelf Go.Maps

theorem bytes_eq {s t : ByteArray} (h : s.data.toList = t.data.toList) : s = t := by
  have h2 : s.data = t.data := Array.toList_inj.1 h
  cases s; cases t; simp_all
abbrev capD : ByteArray := ⟨#[48, 49, 50, 51, 52, 53, 54, 55, 56, 57, 65, 66, 67, 68, 69, 70]⟩
theorem cap_at (q : Nat) (h : q < 16) : (capD.extract q (q + 1)).data.toList = [Lib.upperB (digB q)] := by
  have : ∀ q : Fin 16, (capD.extract q.val (q.val + 1)).data.toList = [Lib.upperB (digB q.val)] := by decide
  exact this ⟨q, h⟩
/-- What is still to be laid ahead of t, of a number. -/
def hexG (m : Nat) (t : List UInt8) : List UInt8 := padL ((if m = 0 then [] else upL m) ++ t)
theorem hexG_start (n : Nat) : hexG n [] = padL (upL n) := by
  unfold hexG
  by_cases h : n = 0
  · subst h
    rw [if_pos rfl]
    have : upL 0 = [48] := by unfold upL Lib.toUpperA; rw [digitsL_small (by omega)]; rfl
    rw [this]
    rfl
  · rw [if_neg h, List.append_nil]
theorem hexG_end {t : List UInt8} (h : 4 ≤ t.length) : hexG 0 t = t := by
  unfold hexG padL
  rw [if_pos rfl, List.nil_append, show 4 - t.length = 0 from by omega]
  rfl
theorem up_big {m : Nat} (h : 16 ≤ m) : upL m = upL (m / 16) ++ [Lib.upperB (digB (m % 16))] := by
  unfold upL Lib.toUpperA
  rw [digitsL_big h, List.map_append]
  rfl
theorem up_small {m : Nat} (h : m < 16) : upL m = [Lib.upperB (digB m)] := by
  unfold upL Lib.toUpperA
  rw [digitsL_small h]
  rfl
theorem hexG_step {m : Nat} {t : List UInt8} (h : 0 < m ∨ t.length < 4) : hexG (m / 16) (Lib.upperB (digB (m % 16)) :: t) = hexG m t := by
  unfold hexG
  rcases Nat.lt_or_ge m 16 with h1 | h1
  · rw [show m / 16 = 0 from by omega, if_pos rfl, List.nil_append, show m % 16 = m from by omega]
    by_cases h0 : m = 0
    · subst h0
      rw [if_pos rfl, List.nil_append]
      have hlt : t.length < 4 := by omega
      unfold padL
      rw [show Lib.upperB (digB 0) = 48 from by decide, List.length_cons, show 4 - t.length = (4 - (t.length + 1)) + 1 from by omega, List.replicate_succ', List.append_assoc]
      rfl
    · rw [if_neg h0, up_small h1]
      rfl
  · rw [if_neg (by omega), if_neg (by omega), up_big h1, List.append_assoc]
    rfl
set_option maxRecDepth 100000 in
set_option maxHeartbeats 2000000 in
theorem rhexN_any (n : Nat) (hn : n < 9223372036854775808) (w : World) : Calls Tryz.prog 59 #[.int .i64 (n : Nat)] w fun e w' => e = .returned (strV (padL (upL n))) ∧ w = w' := by
  have h0 : ¬ ((n : Nat) : Int) < 0 := by omega
  obtain ⟨T, hT⟩ : ∃ T, padL (upL n) = T := ⟨_, rfl⟩
  have HT : Hid (hexG n [] = T) := Lib.hid (by rw [hexG_start, hT])
  rw [hT]
  clear hT
  go_enter Tryz.func59, Tryz.ntmps59
  go_wp2_with fail
  go_loopg [0, 4] (n * 5 + 4) (fun k v s wr => ∃ (m : Nat) (x : ByteArray), v = .int .i64 (m : Nat) ∧ s = .string x ∧ m * 5 + (4 - x.size) = k ∧ m < 9223372036854775808 ∧ x.size ≤ 16 ∧ Hid (m * 16 ^ x.size ≤ n) ∧ Hid (hexG m x.data.toList = T) ∧ w = wr)
  case atStart => exact ⟨n, ⟨#[]⟩, rfl, rfl, rfl, hn, by decide, Lib.hid (by show n * 16 ^ 0 ≤ n; rw [Nat.pow_zero, Nat.mul_one]; exact Nat.le_refl _), HT, rfl⟩
  case round =>
    obtain ⟨m, x, rfl, rfl, rfl, hm, hx, hle, hG, rfl⟩ := hrel
    have hlx : x.data.toList.length = x.size := Array.length_toList
    obtain ⟨q, hq⟩ : ∃ q, m % 16 = q := ⟨_, rfl⟩
    obtain ⟨d, hd⟩ : ∃ d, m / 16 = d := ⟨_, rfl⟩
    have hq16 : q < 16 := by omega
    have e1 : ((m : Nat) : Int) % 16 = ((q : Nat) : Int) := by omega
    have e2 : ((m : Nat) : Int) / 16 = ((d : Nat) : Int) := by omega
    have hext : (capD.extract q (q + 1)).size = 1 := by rw [ByteArray.size_extract]; have h16 : capD.size = 16 := rfl; omega
    have hways : (0 < m) ∨ (m = 0 ∧ x.size < 4) ∨ (m = 0 ∧ 4 ≤ x.size) := by omega
    have hcat : ((capD.extract q (q + 1)) ++ x).data.toList = Lib.upperB (digB q) :: x.data.toList := by
      rw [ByteArray.data_append, Array.toList_append, cap_at q hq16]
      rfl
    have hstep : (0 < m ∨ x.size < 4) → hexG d ((capD.extract q (q + 1)) ++ x).data.toList = T := fun h => by
      rw [hcat, ← hd, ← hq, hexG_step (by rw [hlx]; exact h)]
      exact hG.out
    have HS2 : Hid (((capD.extract q (q + 1)) ++ x).size = x.size + 1) := Lib.hid (by rw [ByteArray.size_append, hext]; omega)
    have HL2 : Hid (d * 16 ^ (x.size + 1) ≤ n) := by
      refine Lib.hid (Nat.le_trans ?_ hle.out)
      rw [Nat.pow_succ, Nat.mul_comm (16 ^ x.size) 16, ← Nat.mul_assoc]
      exact Nat.mul_le_mul_right _ (by omega)
    rcases hways with h | ⟨h', h⟩ | ⟨rfl, h⟩
    · have hsz : x.size ≤ 15 := by
        rcases Nat.lt_or_ge x.size 16 with h1 | h1
        · omega
        · have h2 : 16 ^ 16 ≤ 16 ^ x.size := Nat.pow_le_pow_right (by omega) h1
          have h3 : (16 : Nat) ^ 16 = 18446744073709551616 := by decide
          have h4 := hle.out
          have h5 : 1 * 16 ^ x.size ≤ m * 16 ^ x.size := Nat.mul_le_mul_right _ h
          omega
      have HG2 := Lib.hid (hstep (.inl h))
      have hmi : (0 : Int) < ((m : Nat) : Int) := by omega
      have hd2 : d * 5 + 5 ≤ m * 5 := by omega
      clear hlx hext hq hd hG hle hcat hstep
      go_wp2
      go_roundg (d * 5 + (4 - (x.size + 1)))
      case measure => omega
      case rel => exact ⟨d, _, rfl, rfl, by rw [HS2.out], by omega, by rw [HS2.out]; omega, Lib.hid (by rw [HS2.out]; exact HL2.out), HG2, rfl⟩
    · have HG2 := Lib.hid (hstep (.inr h))
      have hd0 : d = 0 := by omega
      have hq0 : q = 0 := by omega
      subst hd0 hq0 h'
      clear hlx hext hq hd hG hle hcat hstep
      go_wp2
      go_roundg (0 * 5 + (4 - (x.size + 1)))
      case measure => omega
      case rel => exact ⟨0, _, rfl, rfl, by rw [HS2.out], by omega, by rw [HS2.out]; omega, Lib.hid (by rw [HS2.out]; exact HL2.out), HG2, rfl⟩
    · have hTx : T = x.data.toList := by rw [← hG.out, hexG_end (by rw [hlx]; exact h)]
      have HV : Hid (strV T = .string x) := by rw [hTx]; exact Lib.hid rfl
      clear hlx hext hq hd hG hle hcat hstep hTx HS2 HL2
      go_wp2
      go_ret
      exact ⟨by rw [HV.out]; rfl, rfl⟩
set_option maxHeartbeats 1000000 in
theorem rhex_any (n : Int) (hn : In64 n) (w : World) : Calls Tryz.prog 59 #[.int .i64 n] w fun e w' => e = .returned (strV (putL n)) ∧ w = w' := by
  unfold In64 at hn
  by_cases h : n < 0
  · have hb : magN n < 9223372036854775808 := by unfold magN; split <;> omega
    have hm := fun W => rhexN_any (magN n) hb W
    have hp : putL n = 45 :: padL (upL (magN n)) := by unfold putL; rw [if_pos h]; rfl
    obtain ⟨M, hM⟩ : ∃ M, magN n = M := ⟨_, rfl⟩
    rw [hM] at hm hp hb
    have hmx : max (IntKind.i64.wrap (-n)) 0 = ((M : Nat) : Int) := by
      rw [← hM, IntKind.wrap_i64]
      unfold magN
      split
      · rename_i e; subst e; decide
      · omega
    obtain ⟨T, hT⟩ : ∃ T, padL (upL M) = T := ⟨_, rfl⟩
    rw [hT] at hm hp
    have hTl : T.length ≤ 1000 := by
      rw [← hT]
      have := up_len hb
      unfold padL
      rw [List.length_append, List.length_replicate]
      omega
    obtain ⟨x, hx⟩ : ∃ x, bytes1 T = x := ⟨_, rfl⟩
    have hxz : x.size ≤ 1000 := by rw [← hx]; show T.toArray.size ≤ _; rw [List.size_toArray]; exact hTl
    have hsv : strV T = .string x := by rw [← hx]
    have hres : strV (putL n) = .string (⟨#[45]⟩ ++ x) := by
      rw [hp, ← hx]
      congr 1
    rw [hsv] at hm
    rw [hres]
    have HMC := Lib.hid hm
    clear hm hp hT hTl hx hsv hres hM
    go_enter Tryz.func59, Tryz.ntmps59
    go_wp2_with fail
    have hmx' : max (wrap64 (-n)) 0 = ((M : Nat) : Int) := by rw [IntKind.wrap_i64] at hmx; unfold wrap64; exact hmx
    rw [hmx']
    refine (HMC.out w).mono ?_
    rintro e w' ⟨rfl, rfl⟩
    clear hmx hmx'
    go_wp2
    go_ret
    exact ⟨rfl, rfl⟩
  · obtain ⟨m, rfl⟩ := Int.eq_ofNat_of_zero_le (by omega : 0 ≤ n)
    have := rhexN_any m (by omega) w
    have e : putL ((m : Nat) : Int) = padL (upL m) := by
      unfold putL magN
      rw [if_neg (by omega), if_neg (by omega)]
      simp
    rw [e]
    exact this
end Go.Proofs.YtfgnpdfdncnbfaaGreatDoor

namespace Go.Proofs.YtfgnpdfdncnbfaaGreatDoor
open Go.RowKit Go.Shelf Go.Maps

theorem flatB_take {fs : List ByteArray} {k : Nat} {f : ByteArray} (h : fs[k]? = some f) : flatB (fs.take (k + 1)) = flatB (fs.take k) ++ 59 :: f.data.toList := by
  unfold flatB
  rw [List.take_add_one, h, List.flatMap_append]
  simp
theorem flatB_le (fs : List ByteArray) (k : Nat) : (flatB (fs.take k)).length ≤ (flatB fs).length := by
  have h : flatB fs = flatB (fs.take k) ++ flatB (fs.drop k) := by unfold flatB; rw [← List.flatMap_append, List.take_append_drop]
  rw [h, List.length_append]
  omega
theorem size_len (x : ByteArray) : x.size = x.data.toList.length := (Array.length_toList (xs := x.data)).symm
theorem put_len (n : Int) (hn : In64 n) : (putL n).length ≤ 17 := by
  unfold In64 at hn
  have hb : magN n < 9223372036854775808 := by unfold magN; split <;> omega
  have := up_len hb
  unfold putL padL
  rw [List.length_append, List.length_append, List.length_replicate]
  split
  · simp; omega
  · simp; omega
set_option maxRecDepth 100000 in
set_option maxHeartbeats 4000000 in
theorem rprint_any (rs : List RecX) (hrs : ∀ x ∈ rs, In64 x.2.1 ∧ In64 x.2.2.1) (hfs : ∀ x ∈ rs, x.2.2.2.length ≤ 1000000) (hT : (printX rs).length ≤ 1000000) (o : Option Addr) (base cap : Nat) (cs : List Value) (w : World)
    (ho : w.ownsRow base 47 4 (.slice o rs.length cap) rs.length cs) (hR : RecsX w rs cs) (hn : rs.length ≤ 1000000) :
    Calls Tryz.prog 41 #[.slice o rs.length cap] w fun e w' => e = .returned (strV (printX rs)) ∧ ∃ q, w' = w.drewN q := by
  obtain ⟨n, hnn⟩ : ∃ n, rs.length = n := ⟨_, rfl⟩
  rw [hnn] at ho hn ⊢
  have HN := Lib.hid hnn
  have HO := Lib.hid ho
  have HR := Lib.hid hR
  have HRS := Lib.hid hrs
  have HFS := Lib.hid hfs
  have HT := Lib.hid hT
  obtain ⟨V, hV⟩ : ∃ V, strV (printX rs) = V := ⟨_, rfl⟩
  have HV := Lib.hid hV
  rw [hV]
  clear hnn ho hR hrs hfs hT hV
  go_enter Tryz.func41, Tryz.ntmps41
  go_wp2_with fail
  go_loopg [3, 4] (n) (fun k v i wr => ∃ (j q : Nat) (x : ByteArray), i = .int .i64 (j : Nat) ∧ v = .string x ∧ j ≤ n ∧ n - j = k ∧ Hid (x.data.toList = printX (rs.take j)) ∧ wr = w.drewN q)
  case atStart => exact ⟨0, 0, ⟨#[]⟩, rfl, rfl, Nat.zero_le _, rfl, Lib.hid rfl, rfl⟩
  case round =>
    obtain ⟨j, q, x, rfl, rfl, hj, rfl, hx, rfl⟩ := hrel
    have hwj : IntKind.i64.wrap (((j : Nat) : Int) + 1) = (j : Nat) + 1 := wrap_id (by omega) (by omega)
    rcases Nat.lt_or_ge j n with hlt | hge
    · obtain ⟨g, c', hg, hc⟩ := own_get HO.out (by omega)
      obtain ⟨rfl, rfl⟩ : o = some ⟨g, 0, none⟩ ∧ cap = c' := by simpa using hg
      obtain ⟨X, hX⟩ : ∃ X, rs[j]? = some X := ⟨_, List.getElem?_eq_getElem (by rw [HN.out]; exact hlt)⟩
      obtain ⟨fo, fc, e0, e1, e2, e3, hF⟩ := recsX_get HR.out hX
      have hin := HRS.out X (List.mem_of_getElem? hX)
      have hfz := HFS.out X (List.mem_of_getElem? hX)
      have hpt := print_take hX
      have hle := print_le rs (j + 1)
      have hle0 := print_le rs j
      have hT := HT.out
      have k1 := hc _ _ e1
      have k2 := hc _ _ e2
      have k3 := hc _ _ e3
      obtain ⟨l, a, b, fs⟩ := X
      simp only at k1 k2 k3 hin hfz hF hpt
      have pa := put_len a hin.1
      have pb := put_len b hin.2
      have hxa := rhex_any a hin.1
      have hxb := rhex_any b hin.2
      have hxz : x.size ≤ 1000000 := by rw [size_len, hx.out]; omega
      have hlen : (printX (rs.take (j + 1))).length = (printX (rs.take j)).length + (lineB a b fs).length := by rw [hpt, List.length_append]
      obtain ⟨ya, hya⟩ : ∃ y, bytes1 (putL a) = y := ⟨_, rfl⟩
      obtain ⟨yb, hyb⟩ : ∃ y, bytes1 (putL b) = y := ⟨_, rfl⟩
      have sya : strV (putL a) = .string ya := by rw [← hya]
      have syb : strV (putL b) = .string yb := by rw [← hyb]
      have dya : ya.data.toList = putL a := by rw [← hya]
      have dyb : yb.data.toList = putL b := by rw [← hyb]
      have zya : ya.size ≤ 17 := by rw [size_len, dya]; exact pa
      have zyb : yb.size ≤ 17 := by rw [size_len, dyb]; exact pb
      rw [sya] at hxa
      rw [syb] at hxb
      obtain ⟨nf, hnf⟩ : ∃ n, fs.length = n := ⟨_, rfl⟩
      rw [hnf] at k3 hfz
      have HXA := Lib.hid hxa
      have HXB := Lib.hid hxb
      have HDA := Lib.hid dya
      have HDB := Lib.hid dyb
      have HPT := Lib.hid hpt
      have HLE := Lib.hid hlen
      have HNF := Lib.hid hnf
      have HLT := Lib.hid (Nat.le_trans hle hT)
      have HF := Lib.hid hF
      clear hc hg hX e0 e1 e2 e3 hF hin hpt hle hle0 hT pa pb hxa hxb hlen hya hyb sya syb dya dyb hnf
      have hz1 : (x ++ ya).size ≤ 1000100 := by rw [ByteArray.size_append]; omega
      have hz2 : ((x ++ ya) ++ (⟨#[46, 46]⟩ : ByteArray)).size ≤ 1000200 := by
        rw [ByteArray.size_append]
        have : (⟨#[46, 46]⟩ : ByteArray).size = 2 := rfl
        omega
      have hflat : (flatB fs).length ≤ 1000000 ∧ (printX (rs.take j)).length + (headB a b).length + (flatB fs).length ≤ 1000000 := by
        have h1 := HLE.out
        have h2 := HLT.out
        have : (lineB a b fs).length = (headB a b).length + (flatB fs).length + 1 := by unfold lineB; simp; omega
        omega
      have HFL := Lib.hid hflat
      clear hflat
      obtain ⟨H, hH⟩ : ∃ H, H = if b = a then x ++ ya else ((x ++ ya) ++ (⟨#[46, 46]⟩ : ByteArray)) ++ yb := ⟨_, rfl⟩
      have HHD : Hid (H.data.toList = printX (rs.take j) ++ headB a b) := by
        refine Lib.hid ?_
        rw [hH]
        unfold headB
        split
        · rw [ByteArray.data_append, Array.toList_append, hx.out, HDA.out, List.append_nil]
        · rw [ByteArray.data_append, Array.toList_append, ByteArray.data_append, Array.toList_append, ByteArray.data_append, Array.toList_append, hx.out, HDA.out, HDB.out]
          simp
      have HH := Lib.hid hH
      have hpt2 : printX (rs.take (j + 1)) = printX (rs.take j) ++ (headB a b ++ flatB fs ++ [10]) := HPT.out
      obtain ⟨hd, hhd⟩ : ∃ hd, headB a b = hd := ⟨_, rfl⟩
      rw [hhd] at HHD HFL hpt2
      have HPT2 := Lib.hid hpt2
      clear hH hhd hpt2
      by_cases hab : b = a
      focus
        have hH2 : H = x ++ ya := by rw [HH.out, if_pos hab]
        have HH2 := Lib.hid hH2
        subst hab
        clear hH2
        go_wp2_with fail
        refine (HXA.out _).mono ?_
        rintro e w' ⟨rfl, rfl⟩
        go_wp2_with fail
        go_quiet (fail)
        go_wp2_with fail
        rw [← HH2.out]
      rotate_left 1
      focus
        have hH2 : H = ((x ++ ya) ++ (⟨#[46, 46]⟩ : ByteArray)) ++ yb := by rw [HH.out, if_neg hab]
        have HH2 := Lib.hid hH2
        have hb1 : (b != a) = true := by simpa using hab
        clear hH2 hab
        go_wp2_with fail
        refine (HXA.out _).mono ?_
        rintro e w' ⟨rfl, rfl⟩
        go_wp2_with fail
        go_quiet (fail)
        go_wp2_with fail
        refine (HXB.out _).mono ?_
        rintro e w' ⟨rfl, rfl⟩
        go_wp2_with fail
        rw [← HH2.out]
      all_goals
        clear hz1 hz2
        go_loopg [3, 5] (nf) (fun k v i wr => ∃ (i' q' : Nat) (y : ByteArray), i = .int .i64 (i' : Nat) ∧ v = .string y ∧ i' ≤ nf ∧ nf - i' = k ∧ Hid (y.data.toList = printX (rs.take j) ++ hd ++ flatB (fs.take i')) ∧ wr = w.drewN q')
        case atStart => exact ⟨0, q + nq, H, rfl, rfl, Nat.zero_le _, rfl, Lib.hid (by rw [HHD.out]; simp [flatB]), (by first | exact rfl | exact drewN_more w q nq)⟩
        case round =>
          obtain ⟨i', q', y, rfl, rfl, hi', rfl, hy, rfl⟩ := hrel
          have hwi : IntKind.i64.wrap (((i' : Nat) : Int) + 1) = (i' : Nat) + 1 := wrap_id (by omega) (by omega)
          have hyz : y.size ≤ 1000000 := by
            rw [size_len, hy.out, List.length_append, List.length_append]
            have := flatB_le fs i'
            have := HFL.out.2
            omega
          rcases Nat.lt_or_ge i' nf with hlt' | hge'
          · obtain ⟨f, hf⟩ : ∃ f, fs[i']? = some f := ⟨_, List.getElem?_eq_getElem (by rw [HNF.out]; exact hlt')⟩
            obtain ⟨gf, off, rfl, hcf⟩ := HF.out (by rw [HNF.out]; omega)
            have k4 := hcf i' (by rw [HNF.out]; exact hlt')
            rw [show fs.getD i' ByteArray.empty = f from by simp [List.getD, hf]] at k4
            have hft := flatB_take hf
            have hfzz : f.size ≤ 1000000 := by
              have h1 := flatB_le fs (i' + 1)
              rw [hft, List.length_append, List.length_cons] at h1
              have h2 := HFL.out.1
              rw [size_len]
              omega
            have hz3 : (y ++ (⟨#[59]⟩ : ByteArray)).size ≤ 1000100 := by
              rw [ByteArray.size_append]
              have : (⟨#[59]⟩ : ByteArray).size = 1 := rfl
              omega
            have HY2 : Hid (((y ++ (⟨#[59]⟩ : ByteArray)) ++ f).data.toList = printX (rs.take j) ++ hd ++ flatB (fs.take (i' + 1))) := by
              refine Lib.hid ?_
              rw [hft, ByteArray.data_append, Array.toList_append, ByteArray.data_append, Array.toList_append, hy.out]
              simp
            clear hf hcf hft hy
            go_wp2
            go_roundg (nf - (i' + 1))
            case measure => omega
            case rel => exact ⟨i' + 1, q', _, by simp, rfl, by omega, rfl, HY2, rfl⟩
          · obtain rfl : i' = nf := by omega
            have HY2 : Hid ((y ++ (⟨#[10]⟩ : ByteArray)).data.toList = printX (rs.take (j + 1))) := by
              refine Lib.hid ?_
              have hall : fs.take i' = fs := List.take_of_length_le (by rw [HNF.out]; exact Nat.le_refl _)
              rw [HPT2.out, ByteArray.data_append, Array.toList_append, hy.out, hall]
              simp
            clear hy
            go_wp2
            go_roundg (n - (j + 1))
            case measure => omega
            case rel => exact ⟨j + 1, q', _, by simp, rfl, by omega, rfl, HY2, rfl⟩
    · obtain rfl : j = n := by omega
      have hV2 : V = .string x := by
        rw [← HV.out]
        have := hx.out
        rw [List.take_of_length_le (by rw [HN.out]; exact Nat.le_refl _)] at this
        rw [← this]
      have HV2 := Lib.hid hV2
      clear hV2 hx
      go_wp2
      go_ret
      exact ⟨by rw [HV2.out]; rfl, q, rfl⟩
end Go.Proofs.YtfgnpdfdncnbfaaGreatDoor

namespace Go.Proofs.YtfgnpdfdncnbfaaGreatDoor
open Go.RowKit Go.Shelf Go.Maps
attribute [local go_sem ↓] app_hide

def RecsS (w : World) (base : Nat) : List RecD → List Value → Prop
  | [], cs => cs = []
  | (n, a, b, fs) :: r, cs => ∃ o cap cs', cs = .int .i64 (n : Nat) :: .int .i64 (a : Nat) :: .int .i64 (b : Nat) :: .slice o (fs.map bytes1).length cap :: cs' ∧ FieldsS w base o (fs.map bytes1) ∧ RecsS w base r cs'
theorem RecsS.moves {w w' : World} {base : Nat} {S : Nat → Prop} (hm : Moves S w w') (hS : ∀ k, (∃ c fr, w.heap[k]? = some (.cells c 9 fr)) → base ≤ k → ¬ S k) : ∀ {acc : List RecD} {cs : List Value}, RecsS w base acc cs → RecsS w' base acc cs
  | [], cs, h => h
  | (n, a, b, fs) :: r, cs, h => by
    rw [RecsS] at h
    obtain ⟨o, cap, cs', rfl, hF, h⟩ := h
    exact ⟨o, cap, cs', rfl, hF.moves hm hS (Nat.le_refl _), RecsS.moves hm hS h⟩
theorem RecsS.below {w w' : World} {base : Nat} (hb : Below w.heap.size w w') {acc : List RecD} {cs : List Value} (h : RecsS w base acc cs) : RecsS w' base acc cs :=
  h.moves (Moves.of_below (S := fun _ => False) hb) fun _ _ _ => id
theorem RecsS.snoc {w : World} {base n a b : Nat} {fs : List (List UInt8)} {o : Option Addr} {cap : Nat} (hF : FieldsS w base o (fs.map bytes1)) : ∀ {acc : List RecD} {cs : List Value}, RecsS w base acc cs → RecsS w base (acc ++ [(n, a, b, fs)]) (cs ++ [.int .i64 (n : Nat), .int .i64 (a : Nat), .int .i64 (b : Nat), .slice o (fs.map bytes1).length cap])
  | [], cs, h => by rw [RecsS] at h; subst h; exact ⟨o, cap, [], rfl, hF, rfl⟩
  | (n', a', b', fs') :: r, cs, h => by
    rw [RecsS] at h
    obtain ⟨o', cap', cs', rfl, hF', h⟩ := h
    exact ⟨o', cap', _, rfl, hF', RecsS.snoc hF h⟩
theorem RecsS.toX {w : World} {base : Nat} : ∀ {acc : List RecD} {cs : List Value}, RecsS w base acc cs → RecsX w (acc.map toX) cs
  | [], cs, h => h
  | (n, a, b, fs) :: r, cs, h => by
    rw [RecsS] at h
    obtain ⟨o, cap, cs', rfl, hF, h⟩ := h
    exact ⟨o, cap, cs', rfl, hF.toX, RecsS.toX h⟩
/-- A row of records grows: the fields stand. -/
theorem RecsS.grown {W w' : World} {base n b0 : Nat} {va : Value} {cs1 : List Value} (ha : W.ownsRow b0 47 4 va n cs1) (hg : W.grownBy w' va.ownBlock) {acc : List RecD} {cs : List Value} (h : RecsS W base acc cs) : RecsS w' base acc cs := by
  refine h.moves (Moves.of_grown hg) fun k hk _ e => ?_
  obtain ⟨c', fr', hk⟩ := hk
  obtain ⟨_, _, c, fr, hrow⟩ := own_block_lt ha e.symm
  rw [hrow] at hk
  injection hk with hk
  injection hk with _ ht _
  exact absurd ht (by decide)
theorem FieldsS.grown {W w' : World} {base n b0 : Nat} {va : Value} {cs1 : List Value} (ha : W.ownsRow b0 47 4 va n cs1) (hg : W.grownBy w' va.ownBlock) {o : Option Addr} {fs : List ByteArray} (h : FieldsS W base o fs) : FieldsS w' base o fs := by
  refine h.moves (Moves.of_grown hg) (fun k hk _ e => ?_) (Nat.le_refl _)
  obtain ⟨c', fr', hk⟩ := hk
  obtain ⟨_, _, c, fr, hrow⟩ := own_block_lt ha e.symm
  rw [hrow] at hk
  injection hk with hk
  injection hk with _ ht _
  exact absurd ht (by decide)
theorem own_types {W w' : World} {b0 b1 n m : Nat} {va v : Value} {cs1 xs : List Value} (ha : W.ownsRow b0 47 4 va n cs1) (hg : W.grownBy w' va.ownBlock) (h : W.ownsRow b1 9 1 v m xs) : w'.ownsRow b1 9 1 v m xs := by
  refine h.kept hg ?_
  cases hv : v.ownBlock with
  | none => exact .inl rfl
  | some g =>
    refine .inr fun e => ?_
    obtain ⟨_, _, c, fr, hrow⟩ := own_block_lt ha e.symm
    obtain ⟨_, _, c', fr', hk⟩ := own_block_lt h hv
    rw [hrow] at hk
    injection hk with hk
    injection hk with _ ht _
    exact absurd ht (by decide)
def RParsePost (R : List RecD × ErrR) (w : World) (e : Ending) (w' : World) : Prop :=
  ∃ o cap cs, e = .returned (.tuple #[.slice o R.1.length cap, .int .i64 (toldL R.2 : Nat), .int .i64 (toldE R.2 : Nat)]) ∧ w'.ownsRow w.heap.size 47 4 (.slice o R.1.length cap) R.1.length cs ∧ RecsS w' w.heap.size R.1 cs ∧ Below w.heap.size w w'
theorem num_get (l : List UInt8) (j : Nat) {p : List UInt8} (h : (splitL 10 l)[j]? = some p) : (numL l)[j]? = some (p, j + 1) := by
  unfold numL
  rw [List.getElem?_zipIdx, h]
  simp [Nat.add_comm]
theorem num_take (l : List UInt8) (j : Nat) {p : List UInt8} (h : (splitL 10 l)[j]? = some p) : (numL l).take (j + 1) = (numL l).take j ++ [(p, j + 1)] := by
  rw [List.take_add_one, num_get l j h]
  rfl
theorem num_pre (l : List UInt8) (j : Nat) : (numL l).take j <+: numL l := List.take_prefix j _
set_option maxRecDepth 100000 in
set_option maxHeartbeats 4000000 in
theorem rparse_any (s : ByteArray) (hs : s.size ≤ 20000) (w : World) : Calls Tryz.prog 28 #[.string s] w (RParsePost (parseL s.data.toList) w) := by
  have hl : s.data.toList.length = s.size := Array.length_toList
  obtain ⟨R, hR⟩ : ∃ R, parseL s.data.toList = R := ⟨_, rfl⟩
  have HR : Hid (recsP (numL s.data.toList) [] = R) := Lib.hid (by rw [← hR]; unfold parseL; rw [if_neg (by omega)])
  have hspl := rsplit_any 10 s (by omega) w
  have hpz : ∀ p ∈ splitL 10 s.data.toList, p.length ≤ 20000 := fun p hp => by have := splitL_mem 10 _ p hp; omega
  have hnl : (splitL 10 s.data.toList).length ≤ 20001 := by have := splitL_length 10 s.data.toList; omega
  obtain ⟨n, hn⟩ : ∃ n, (splitL 10 s.data.toList).length = n := ⟨_, rfl⟩
  rw [hn] at hspl hnl
  have HN := Lib.hid hn
  have HSP := Lib.hid hspl
  have HPZ := Lib.hid hpz
  rw [hR]
  clear hl hR hspl hpz hn
  go_enter Tryz.func28, Tryz.ntmps28
  go_wp2_with fail
  refine HSP.out.mono ?_
  rintro e w1 ⟨o1, cap1, rfl, ho1, b1⟩
  have HO1 := Lib.hid ho1
  clear ho1 HSP
  go_wp2_with fail
  go_loopg [5, 7] (n) (fun k v i wr => ∃ (j : Nat) (acc : List RecD) (cs : List Value), i = .int .i64 (j : Nat) ∧ j ≤ n ∧ n - j = k ∧ acc.length ≤ 300 ∧ Hid (recsP ((numL s.data.toList).take j) [] = (acc, .none)) ∧ Hid (wr.ownsRow w.heap.size 47 4 v acc.length cs) ∧ Hid (RecsS wr w.heap.size acc cs) ∧
    Hid (wr.ownsRow w.heap.size 9 1 (.slice o1 n cap1) n ((splitL 10 s.data.toList).map strV)) ∧ Below w.heap.size w wr)
  case atStart => exact ⟨0, [], [], rfl, Nat.zero_le _, rfl, Nat.zero_le _, Lib.hid rfl, Lib.hid (World.ownsRow_nil _ _ _ _), Lib.hid rfl, HO1, b1⟩
  case round =>
    clear b1 HO1
    obtain ⟨j, acc, cs, rfl, hj, rfl, h300, hrec, ho, hr, hp1, hb⟩ := hrel
    have hwj : IntKind.i64.wrap (((j : Nat) : Int) + 1) = (j : Nat) + 1 := wrap_id (by omega) (by omega)
    rcases Nat.lt_or_ge j n with hlt | hge
    · obtain ⟨p, hp⟩ : ∃ p, (splitL 10 s.data.toList)[j]? = some p := ⟨_, List.getElem?_eq_getElem (by rw [HN.out]; exact hlt)⟩
      have hpl := HPZ.out p (List.mem_of_getElem? hp)
      obtain ⟨g1, c1, hg1, hc1⟩ := own_get hp1.out (by omega)
      obtain ⟨rfl, rfl⟩ : o1 = some ⟨g1, 0, none⟩ ∧ cap1 = c1 := by simpa using hg1
      have k1 := hc1 j (strV p) (by rw [List.getElem?_map, hp]; rfl)
      have hline := rline_any (bytes1 p) (by show p.toArray.size ≤ _; rw [List.size_toArray]; omega) wr
      rw [show (bytes1 p).data.toList = p from rfl] at hline
      have HLN := Lib.hid hline
      have HTK := Lib.hid (num_take s.data.toList j hp)
      obtain ⟨ov, capv, rfl⟩ := own_form ho.out
      clear hc1 hg1 hline hp
      cases hx : lineL p with
      | nothing =>
        rw [hx] at HLN
        have HST : Hid (recsP ((numL s.data.toList).take (j + 1)) [] = (acc, .none)) := Lib.hid (by rw [HTK.out]; exact recsP_skip hrec.out hx)
        clear hx hrec
        go_wp2_with fail
        refine HLN.out.mono ?_
        rintro e' w2 ⟨fo, fcap, rfl, hF, b2⟩
        simp only [lineX, List.length_nil]
        obtain ⟨w3, hw3, n2, b3, b23, _⟩ := rec_laid (a := 0) (b := 0) (fv := .slice fo 0 fcap) b2
        have HN2 := Lib.hid n2
        have HW3 := Lib.hid hw3
        have ho3 := Lib.hid (own_below ho.out b3)
        have hr3 := Lib.hid (hr.out.below b3)
        have hp3 := Lib.hid (own_below hp1.out b3)
        have hb3 := hb.trans (b3.mono hb.size)
        clear n2 hw3 hF ho hr hp1 b2 b3 b23
        go_wp2_with (first | (refine store_rec rfl (.tmp 8) (.tmp 28) rfl w2.heap.size (recC 0 0 0 (.slice fo 0 fcap)) rfl rfl _ HN2.out ⟨rfl, rfl⟩ (by simp [Value.oneCell']) HW3.out ?_) | fail)
        go_roundg (n - (j + 1))
        case measure => omega
        case rel => exact ⟨j + 1, acc, cs, by simp, by omega, rfl, h300, HST, ho3, hr3, hp3, hb3⟩
      | bad e =>
        rw [hx] at HLN
        have hbe := lineL_bad hx
        have hR2 : R = ([], .line (j + 1) e) := by
          rw [← HR.out]
          refine recsP_pre (num_pre s.data.toList (j + 1)) ?_
          rw [HTK.out]
          exact recsP_bad hrec.out hx
        have HR2 := Lib.hid hR2
        have hb1 : (((e : Nat) : Int) != 0) = true := by simp; omega
        clear hx hrec hR2 hbe
        go_wp2_with fail
        refine HLN.out.mono ?_
        rintro e' w2 ⟨fo, fcap, rfl, hF, b2⟩
        simp only [lineX, List.length_nil]
        obtain ⟨w3, hw3, n2, b3, b23, _⟩ := rec_laid (a := 0) (b := 0) (fv := .slice fo 0 fcap) b2
        have HN2 := Lib.hid n2
        have HW3 := Lib.hid hw3
        have hb3 := hb.trans (b3.mono hb.size)
        have HP : Hid (RParsePost R w (.returned (.tuple #[.slice none 0 0, .int .i64 (((j : Nat) : Int) + 1), .int .i64 (e : Nat)])) w3) := by
          rw [HR2.out]
          exact Lib.hid ⟨none, 0, [], rfl, World.ownsRow_nil _ _ _ _, rfl, hb3⟩
        clear n2 hw3 hF ho hr hp1 b2 b3 b23 hb3
        go_wp2_with (first | (refine store_rec rfl (.tmp 8) (.tmp 28) rfl w2.heap.size (recC 0 0 0 (.slice fo 0 fcap)) rfl rfl _ HN2.out ⟨rfl, rfl⟩ (by simp [Value.oneCell']) HW3.out ?_) | fail)
        exact bodyPost_ret (v := .tuple #[.slice none 0 0, .int .i64 (((j : Nat) : Int) + 1), .int .i64 (e : Nat)]) (by simp [results, Tryz.results28, go_sem]) rfl HP.out
      | good a b fs =>
        rw [hx] at HLN
        have hg := good_of hx
        have hfl : (fs.map bytes1).length = fs.length := List.length_map _
        have HFL := Lib.hid hfl
        clear hfl
        by_cases hk : acc.length = 300
        · have hR2 : R = ([], .line (j + 1) 24) := by
            rw [← HR.out]
            refine recsP_pre (num_pre s.data.toList (j + 1)) ?_
            rw [HTK.out]
            exact recsP_full hrec.out hx hk
          have HR2 := Lib.hid hR2
          obtain ⟨K, hK⟩ : ∃ K, acc.length = K := ⟨_, rfl⟩
          rw [hK] at hk
          rw [hK]
          clear hx hrec hR2 hK hg
          subst hk
          go_wp2_with fail
          refine HLN.out.mono ?_
          rintro e' w2 ⟨fo, fcap, rfl, hF, b2⟩
          simp only [lineX]
          rw [HFL.out]
          obtain ⟨w3, hw3, n2, b3, b23, _⟩ := rec_laid (a := (a : Nat)) (b := (b : Nat)) (fv := .slice fo fs.length fcap) b2
          have HN2 := Lib.hid n2
          have HW3 := Lib.hid hw3
          have hb3 := hb.trans (b3.mono hb.size)
          have HP : Hid (RParsePost R w (.returned (.tuple #[.slice none 0 0, .int .i64 (((j : Nat) : Int) + 1), .int .i64 24])) w3) := by
            rw [HR2.out]
            exact Lib.hid ⟨none, 0, [], rfl, World.ownsRow_nil _ _ _ _, rfl, hb3⟩
          clear n2 hw3 hF ho hr hp1 b2 b3 b23 hb3
          go_wp2_with (first | (refine store_rec rfl (.tmp 8) (.tmp 28) rfl w2.heap.size (recC 0 (a : Nat) (b : Nat) (.slice fo fs.length fcap)) rfl rfl _ HN2.out ⟨rfl, rfl⟩ (by simp [Value.oneCell']) HW3.out ?_) | fail)
          exact bodyPost_ret (v := .tuple #[.slice none 0 0, .int .i64 (((j : Nat) : Int) + 1), .int .i64 24]) (by simp [results, Tryz.results28, go_sem]) rfl HP.out
        · have HST : Hid (recsP ((numL s.data.toList).take (j + 1)) [] = (acc ++ [(j + 1, a, b, fs)], .none)) := Lib.hid (by rw [HTK.out]; exact recsP_good hrec.out hx hk)
          have hk2 : (((acc.length : Nat) : Int) == 300) = false := by simp; omega
          clear hx hrec hg
          go_wp2_with fail
          refine HLN.out.mono ?_
          rintro e' w2 ⟨fo, fcap, rfl, hF, b2⟩
          simp only [lineX]
          simp only [lineX] at hF
          rw [HFL.out]
          obtain ⟨w3, hw3, n2, b3, b23, q3⟩ := rec_laid (a := (a : Nat)) (b := (b : Nat)) (fv := .slice fo fs.length fcap) b2
          have HN2 := Lib.hid n2
          have HW3 := Lib.hid hw3
          have hz2 := b2.size
          have hz3 := b3.size
          have hzr := hb.size
          have hb3 := hb.trans (b3.mono hb.size)
          obtain ⟨w4, hw4⟩ : ∃ w4, w3.setCell ⟨w2.heap.size, 0, none⟩ (.int .i64 (((j : Nat) : Int) + 1)) = w4 := ⟨_, rfl⟩
          have s4 : w4.heap.size = w3.heap.size := by rw [← hw4]; simp
          have b34 : Below w2.heap.size w3 w4 := by rw [← hw4]; exact (Below.refl w2.heap.size w3).setCell (p := ⟨w2.heap.size, 0, none⟩) (Nat.le_refl _) _
          have q4 : w4.heap[w2.heap.size]? = some (recO (((j : Nat) : Int) + 1) (a : Nat) (b : Nat) (.slice fo fs.length fcap)) := by rw [← hw4]; exact set_heap _ q3
          have b24 : Below wr.heap.size wr w4 := b3.trans (b34.mono hz2)
          have ho4 := own_below ho.out b24
          obtain ⟨g6, cap6, w6, hrun, ho6, hg6, _⟩ := rec_own (n := ((j : Nat) : Int) + 1) (a := (a : Nat)) (b := (b : Nat)) (fv := .slice fo fs.length fcap) rfl ho4 (by omega) (by omega)
          have a4 : Below w4.heap.size w4 (w4.alloc (recO (((j : Nat) : Int) + 1) (a : Nat) (b : Nat) (.slice fo fs.length fcap))) := (Below.refl _ _).alloc (Nat.le_refl _) _
          have ho4a := own_below ho4 a4
          have c24 := b24.trans (a4.mono b24.size)
          have hF3 : FieldsS w3 w.heap.size fo (fs.map bytes1) := (hF.below b23).moves (Moves.refl (fun _ => False) w3) (fun _ _ _ => id) hzr
          have hF4 : FieldsS (w4.alloc (recO (((j : Nat) : Int) + 1) (a : Nat) (b : Nat) (.slice fo fs.length fcap))) w.heap.size fo (fs.map bytes1) := by
            refine FieldsS.below ?_ a4
            refine hF3.moves (S := fun k => k = w2.heap.size) (by rw [← hw4]; exact Moves.setCell rfl) (fun k hk _ e => ?_) (Nat.le_refl _)
            obtain ⟨c', fr', hk⟩ := hk
            subst e
            rw [q3] at hk
            injection hk with hk
            injection hk with _ ht _
            exact absurd ht (by decide)
          have hF6 := FieldsS.grown ho4a hg6 hF4
          have hr6 := RecsS.grown ho4a hg6 (hr.out.below c24)
          have hp6 := own_types ho4a hg6 (own_below hp1.out c24)
          have hb6 : Below w.heap.size w w6 := (hb.trans (c24.mono hb.size)).grown hg6 (by have := c24.size; omega) (fun k e => own_ge ho4a e)
          have HNEW := Lib.hid (RecsS.snoc (n := j + 1) (a := a) (b := b) (fs := fs) (o := fo) (cap := fcap) hF6 hr6)
          have HO6 := Lib.hid ho6
          have HP6 := Lib.hid hp6
          have HB6 := Lib.hid hb6
          obtain ⟨k0, k1', k2, k3, k4⟩ := rec_cells q3
          have hlt3 := (Array.getElem?_eq_some_iff.1 q3).1
          rw [s4] at hrun
          rw [← hw4] at hrun
          clear n2 hw3 hF ho hr hp1 b2 b3 b23 hb3 hw4 s4 b34 q4 b24 ho4 ho6 hg6 a4 ho4a c24 hF3 hF4 hF6 hr6 hp6 hb6 q3
          go_wp2_with (first | (refine store_rec rfl (.tmp 8) (.tmp 28) rfl w2.heap.size (recC 0 (a : Nat) (b : Nat) (.slice fo fs.length fcap)) rfl rfl _ HN2.out ⟨rfl, rfl⟩ (by simp [Value.oneCell']) HW3.out ?_) | fail)
          go_roundg (n - (j + 1))
          case measure => omega
          case rel =>
            refine ⟨j + 1, acc ++ [(j + 1, a, b, fs)], _, by simp, by omega, rfl, by rw [List.length_append]; simp; omega, HST, Lib.hid ?_, HNEW, HP6, HB6.out⟩
            rw [List.length_append, HFL.out]
            exact HO6.out
    · obtain rfl : j = n := by omega
      have hrec' := hrec.out
      rw [List.take_of_length_le (by unfold numL; rw [List.length_zipIdx, HN.out]; exact Nat.le_refl _), HR.out] at hrec'
      obtain ⟨ov, capv, rfl⟩ := own_form ho.out
      have HP : Hid (RParsePost R w (.returned (.tuple #[.slice ov acc.length capv, .int .i64 0, .int .i64 0])) wr) := by
        rw [hrec']
        exact Lib.hid ⟨ov, capv, cs, rfl, ho.out, hr.out, hb⟩
      obtain ⟨P, hP⟩ : ∃ P, RParsePost R w = P := ⟨_, rfl⟩
      clear hrec' hrec ho hr
      go_wp2
      exact bodyPost_ret (v := .tuple #[.slice ov acc.length capv, .int .i64 0, .int .i64 0]) (by simp [results, Tryz.results28, go_sem]) rfl HP.out
end Go.Proofs.YtfgnpdfdncnbfaaGreatDoor

namespace Go.Proofs.YtfgnpdfdncnbfaaGreatDoor
open Go.RowKit Go.Shelf Go.Maps
attribute [local go_sem ↓] app_hide

/-- Records that came in, wherever they lie. -/
def ArgX (w : World) (o : Option Addr) (rs : List RecX) : Prop := 0 < rs.length → ∃ g off, o = some ⟨g, off, none⟩ ∧ ∀ j x, rs[j]? = some x → ∃ fo fc, w.cell? ⟨g, off + j * 4, none⟩ = some (.int .i64 x.1) ∧ w.cell? ⟨g, off + j * 4 + 1, none⟩ = some (.int .i64 x.2.1) ∧ w.cell? ⟨g, off + j * 4 + 2, none⟩ = some (.int .i64 x.2.2.1) ∧
  w.cell? ⟨g, off + j * 4 + 3, none⟩ = some (.slice fo x.2.2.2.length fc) ∧ FieldsX w fo x.2.2.2
theorem ArgX.below {w w' : World} {o : Option Addr} {rs : List RecX} (h : ArgX w o rs) (hb : Below w.heap.size w w') : ArgX w' o rs := fun hn => by
  obtain ⟨g, off, ho, hc⟩ := h hn
  refine ⟨g, off, ho, fun j x hx => ?_⟩
  obtain ⟨fo, fc, h0, h1, h2, h3, hF⟩ := hc j x hx
  exact ⟨fo, fc, cell_keep hb h0, cell_keep hb h1, cell_keep hb h2, cell_keep hb h3, hF.below hb⟩
def cut60 (f : ByteArray) : ByteArray := f.extract 0 (min (f.size : Int) 60).toNat
def fewF (fs : List ByteArray) : List ByteArray := (fs.take 22).map cut60
def fewR (x : RecX) : RecX := (x.1, x.2.1, x.2.2.1, fewF x.2.2.2)
def fewX (rs : List RecX) : List RecX := (rs.take 40).map fewR
/-- Where a record's fields stand, in a row of texts of its own. -/
def FieldsZ (w : World) (base : Nat) (o : Option Addr) (fs : List ByteArray) : Prop := 0 < fs.length → ∃ g cs fr, o = some ⟨g, 0, none⟩ ∧ base ≤ g ∧ w.heap[g]? = some (.cells cs 9 fr) ∧ ∀ j, j < fs.length → cs[j]? = some (.string (fs.getD j ByteArray.empty))
theorem FieldsZ.moves {w w' : World} {base base' : Nat} {S : Nat → Prop} {o : Option Addr} {fs : List ByteArray} (h : FieldsZ w base o fs) (hm : Moves S w w') (hS : ∀ k, (∃ c fr, w.heap[k]? = some (.cells c 9 fr)) → base ≤ k → ¬ S k) (hb : base' ≤ base) : FieldsZ w' base' o fs := fun hn => by
  obtain ⟨g, cs, fr, ho, hge, hg, hc⟩ := h hn
  exact ⟨g, cs, fr, ho, by omega, (hm.block g (Array.getElem?_eq_some_iff.1 hg).1 (hS g ⟨cs, fr, hg⟩ hge)).trans hg, hc⟩
theorem FieldsZ.toG {w : World} {base : Nat} {o : Option Addr} {fs : List ByteArray} (h : FieldsZ w base o fs) : FieldsG w o fs := fun hn => by
  obtain ⟨g, cs, fr, ho, _, hg, hc⟩ := h hn
  refine ⟨g, ho, fun j hj => ?_⟩
  simp only [World.cell?, hg]
  exact hc j hj
def RecsZ (w : World) (base : Nat) : List RecX → List Value → Prop
  | [], cs => cs = []
  | (l, a, b, fs) :: r, cs => ∃ o cap cs', cs = .int .i64 l :: .int .i64 a :: .int .i64 b :: .slice o fs.length cap :: cs' ∧ FieldsZ w base o fs ∧ RecsZ w base r cs'
theorem RecsZ.moves {w w' : World} {base : Nat} {S : Nat → Prop} (hm : Moves S w w') (hS : ∀ k, (∃ c fr, w.heap[k]? = some (.cells c 9 fr)) → base ≤ k → ¬ S k) : ∀ {acc : List RecX} {cs : List Value}, RecsZ w base acc cs → RecsZ w' base acc cs
  | [], cs, h => h
  | (n, a, b, fs) :: r, cs, h => by
    rw [RecsZ] at h
    obtain ⟨o, cap, cs', rfl, hF, h⟩ := h
    exact ⟨o, cap, cs', rfl, hF.moves hm hS (Nat.le_refl _), RecsZ.moves hm hS h⟩
theorem RecsZ.snoc {w : World} {base : Nat} {l a b : Int} {fs : List ByteArray} {o : Option Addr} {cap : Nat} (hF : FieldsZ w base o fs) : ∀ {acc : List RecX} {cs : List Value}, RecsZ w base acc cs → RecsZ w base (acc ++ [(l, a, b, fs)]) (cs ++ [.int .i64 l, .int .i64 a, .int .i64 b, .slice o fs.length cap])
  | [], cs, h => by rw [RecsZ] at h; subst h; exact ⟨o, cap, [], rfl, hF, rfl⟩
  | (n', a', b', fs') :: r, cs, h => by
    rw [RecsZ] at h
    obtain ⟨o', cap', cs', rfl, hF', h⟩ := h
    exact ⟨o', cap', _, rfl, hF', RecsZ.snoc hF h⟩
theorem RecsZ.toG {w : World} {base : Nat} : ∀ {acc : List RecX} {cs : List Value}, RecsZ w base acc cs → RecsG w acc cs
  | [], cs, h => h
  | (n, a, b, fs) :: r, cs, h => by
    rw [RecsZ] at h
    obtain ⟨o, cap, cs', rfl, hF, h⟩ := h
    exact ⟨o, cap, cs', rfl, hF.toG, RecsZ.toG h⟩
theorem fieldsZ_own {w : World} {base base' : Nat} {o : Option Addr} {cap : Nat} {fs : List ByteArray} (h : w.ownsRow base 9 1 (.slice o fs.length cap) fs.length (fs.map .string)) (hb : base' ≤ base) : FieldsZ w base' o fs := fun hn => by
  rcases h.2 with ⟨h', h0⟩ | ⟨g, cap', cur, h', hge, hg, _, _, _, ht⟩
  · omega
  · cases h'
    refine ⟨g, cur, (0, 0), rfl, by omega, hg, fun j hj => ?_⟩
    have h1 : (cur.toList.take (fs.length * 1))[j]? = (fs.map Value.string)[j]? := by rw [ht]
    rw [List.getElem?_take_of_lt (by omega), Array.getElem?_toList] at h1
    rw [h1, List.getElem?_map, List.getElem?_eq_getElem hj]
    simp [List.getD, List.getElem?_eq_getElem hj]
theorem rec_apart {W : World} {b0 n : Nat} {va : Value} {cs1 : List Value} (ha : W.ownsRow b0 47 4 va n cs1) (k : Nat) (hk : ∃ c fr, W.heap[k]? = some (.cells c 9 fr)) : ¬ some k = va.ownBlock := by
  intro e
  obtain ⟨c', fr', hk⟩ := hk
  obtain ⟨_, _, c, fr, hrow⟩ := own_block_lt ha e.symm
  rw [hrow] at hk
  injection hk with hk
  injection hk with _ ht _
  exact absurd ht (by decide)
def FewPost (rs : List RecX) (w : World) (e : Ending) (w' : World) : Prop :=
  ∃ o cap cs, e = .returned (.slice o (fewX rs).length cap) ∧ w'.ownsRow w.heap.size 47 4 (.slice o (fewX rs).length cap) (fewX rs).length cs ∧ RecsZ w' w.heap.size (fewX rs) cs ∧ Below w.heap.size w w'
end Go.Proofs.YtfgnpdfdncnbfaaGreatDoor
