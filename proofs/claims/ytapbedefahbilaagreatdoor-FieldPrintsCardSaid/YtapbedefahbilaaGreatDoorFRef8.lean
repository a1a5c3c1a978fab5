/- The document's own answers: Print. -/
import Derived.Test.YtapbedefahbilaaGreatDoorFRef7
import Derived.Test.YtapbedefahbilaaGreatDoorFPrint
namespace Go.Proofs.YtapbedefahbilaaGreatDoor
open Go.RowKit Go.Shelf Go.Maps

theorem flatB_take {fs : List ByteArray} {k : Nat} {f : ByteArray} (h : fs[k]? = some f) : flatB (fs.take (k + 1)) = flatB (fs.take k) ++ 59 :: f.data.toList := by
  unfold flatB
  rw [List.take_add_one, h, List.flatMap_append]
  simp
theorem flatB_le (fs : List ByteArray) (k : Nat) : (flatB (fs.take k)).length ≤ (flatB fs).length := by
  have h : flatB fs = flatB (fs.take k) ++ flatB (fs.drop k) := by unfold flatB; rw [← List.flatMap_append, List.take_append_drop]
  rw [h, List.length_append]
  omega
theorem size_len (x : ByteArray) : x.size = x.data.toList.length := (Array.length_toList (xs := x.data)).symm
theorem put_len (n : Int) (hn : In64 n) : (putL n).length ≤ 17 := by
  unfold In64 at hn
  have hb : magN n < 9223372036854775808 := by unfold magN; split <;> omega
  have := up_len hb
  unfold putL padL
  rw [List.length_append, List.length_append, List.length_replicate]
  split
  · simp; omega
  · simp; omega
set_option maxRecDepth 100000 in
set_option maxHeartbeats 4000000 in
theorem rprint_any (rs : List RecX) (hrs : ∀ x ∈ rs, In64 x.2.1 ∧ In64 x.2.2.1) (hfs : ∀ x ∈ rs, x.2.2.2.length ≤ 1000000) (hT : (printX rs).length ≤ 1000000) (o : Option Addr) (base cap : Nat) (cs : List Value) (w : World)
    (ho : w.ownsRow base 31 4 (.slice o rs.length cap) rs.length cs) (hR : RecsX w rs cs) (hn : rs.length ≤ 1000000) :
    Calls Tryz.prog 24 #[.slice o rs.length cap] w fun e w' => e = .returned (strV (printX rs)) ∧ ∃ q, w' = w.drewN q := by
  obtain ⟨n, hnn⟩ : ∃ n, rs.length = n := ⟨_, rfl⟩
  rw [hnn] at ho hn ⊢
  have HN := Lib.hid hnn
  have HO := Lib.hid ho
  have HR := Lib.hid hR
  have HRS := Lib.hid hrs
  have HFS := Lib.hid hfs
  have HT := Lib.hid hT
  obtain ⟨V, hV⟩ : ∃ V, strV (printX rs) = V := ⟨_, rfl⟩
  have HV := Lib.hid hV
  rw [hV]
  clear hnn ho hR hrs hfs hT hV
  go_enter Tryz.func24, Tryz.ntmps24
  go_wp2_with fail
  go_loopg [3, 4] (n) (fun k v i wr => ∃ (j q : Nat) (x : ByteArray), i = .int .i64 (j : Nat) ∧ v = .string x ∧ j ≤ n ∧ n - j = k ∧ Hid (x.data.toList = printX (rs.take j)) ∧ wr = w.drewN q)
  case atStart => exact ⟨0, 0, ⟨#[]⟩, rfl, rfl, Nat.zero_le _, rfl, Lib.hid rfl, rfl⟩
  case round =>
    obtain ⟨j, q, x, rfl, rfl, hj, rfl, hx, rfl⟩ := hrel
    have hwj : IntKind.i64.wrap (((j : Nat) : Int) + 1) = (j : Nat) + 1 := wrap_id (by omega) (by omega)
    rcases Nat.lt_or_ge j n with hlt | hge
    · obtain ⟨g, c', hg, hc⟩ := own_get HO.out (by omega)
      obtain ⟨rfl, rfl⟩ : o = some ⟨g, 0, none⟩ ∧ cap = c' := by simpa using hg
      obtain ⟨X, hX⟩ : ∃ X, rs[j]? = some X := ⟨_, List.getElem?_eq_getElem (by rw [HN.out]; exact hlt)⟩
      obtain ⟨fo, fc, e0, e1, e2, e3, hF⟩ := recsX_get HR.out hX
      have hin := HRS.out X (List.mem_of_getElem? hX)
      have hfz := HFS.out X (List.mem_of_getElem? hX)
      have hpt := print_take hX
      have hle := print_le rs (j + 1)
      have hle0 := print_le rs j
      have hT := HT.out
      have k1 := hc _ _ e1
      have k2 := hc _ _ e2
      have k3 := hc _ _ e3
      obtain ⟨l, a, b, fs⟩ := X
      simp only at k1 k2 k3 hin hfz hF hpt
      have pa := put_len a hin.1
      have pb := put_len b hin.2
      have hxa := rhex_any a hin.1
      have hxb := rhex_any b hin.2
      have hxz : x.size ≤ 1000000 := by rw [size_len, hx.out]; omega
      have hlen : (printX (rs.take (j + 1))).length = (printX (rs.take j)).length + (lineB a b fs).length := by rw [hpt, List.length_append]
      obtain ⟨ya, hya⟩ : ∃ y, bytes1 (putL a) = y := ⟨_, rfl⟩
      obtain ⟨yb, hyb⟩ : ∃ y, bytes1 (putL b) = y := ⟨_, rfl⟩
      have sya : strV (putL a) = .string ya := by rw [← hya]
      have syb : strV (putL b) = .string yb := by rw [← hyb]
      have dya : ya.data.toList = putL a := by rw [← hya]
      have dyb : yb.data.toList = putL b := by rw [← hyb]
      have zya : ya.size ≤ 17 := by rw [size_len, dya]; exact pa
      have zyb : yb.size ≤ 17 := by rw [size_len, dyb]; exact pb
      rw [sya] at hxa
      rw [syb] at hxb
      obtain ⟨nf, hnf⟩ : ∃ n, fs.length = n := ⟨_, rfl⟩
      rw [hnf] at k3 hfz
      have HXA := Lib.hid hxa
      have HXB := Lib.hid hxb
      have HDA := Lib.hid dya
      have HDB := Lib.hid dyb
      have HPT := Lib.hid hpt
      have HLE := Lib.hid hlen
      have HNF := Lib.hid hnf
      have HLT := Lib.hid (Nat.le_trans hle hT)
      have HF := Lib.hid hF
      clear hc hg hX e0 e1 e2 e3 hF hin hpt hle hle0 hT pa pb hxa hxb hlen hya hyb sya syb dya dyb hnf
      have hz1 : (x ++ ya).size ≤ 1000100 := by rw [ByteArray.size_append]; omega
      have hz2 : ((x ++ ya) ++ (⟨#[46, 46]⟩ : ByteArray)).size ≤ 1000200 := by
        rw [ByteArray.size_append]
        have : (⟨#[46, 46]⟩ : ByteArray).size = 2 := rfl
        omega
      have hflat : (flatB fs).length ≤ 1000000 ∧ (printX (rs.take j)).length + (headB a b).length + (flatB fs).length ≤ 1000000 := by
        have h1 := HLE.out
        have h2 := HLT.out
        have : (lineB a b fs).length = (headB a b).length + (flatB fs).length + 1 := by unfold lineB; simp; omega
        omega
      have HFL := Lib.hid hflat
      clear hflat
      obtain ⟨H, hH⟩ : ∃ H, H = if b = a then x ++ ya else ((x ++ ya) ++ (⟨#[46, 46]⟩ : ByteArray)) ++ yb := ⟨_, rfl⟩
      have HHD : Hid (H.data.toList = printX (rs.take j) ++ headB a b) := by
        refine Lib.hid ?_
        rw [hH]
        unfold headB
        split
        · rw [ByteArray.data_append, Array.toList_append, hx.out, HDA.out, List.append_nil]
        · rw [ByteArray.data_append, Array.toList_append, ByteArray.data_append, Array.toList_append, ByteArray.data_append, Array.toList_append, hx.out, HDA.out, HDB.out]
          simp
      have HH := Lib.hid hH
      have hpt2 : printX (rs.take (j + 1)) = printX (rs.take j) ++ (headB a b ++ flatB fs ++ [10]) := HPT.out
      obtain ⟨hd, hhd⟩ : ∃ hd, headB a b = hd := ⟨_, rfl⟩
      rw [hhd] at HHD HFL hpt2
      have HPT2 := Lib.hid hpt2
      clear hH hhd hpt2
      by_cases hab : b = a
      focus
        have hH2 : H = x ++ ya := by rw [HH.out, if_pos hab]
        have HH2 := Lib.hid hH2
        subst hab
        clear hH2
        go_wp2_with fail
        refine (HXA.out _).mono ?_
        rintro e w' ⟨rfl, rfl⟩
        go_wp2_with fail
        go_quiet (fail)
        go_wp2_with fail
        rw [← HH2.out]
      rotate_left 1
      focus
        have hH2 : H = ((x ++ ya) ++ (⟨#[46, 46]⟩ : ByteArray)) ++ yb := by rw [HH.out, if_neg hab]
        have HH2 := Lib.hid hH2
        have hb1 : (b != a) = true := by simpa using hab
        clear hH2 hab
        go_wp2_with fail
        refine (HXA.out _).mono ?_
        rintro e w' ⟨rfl, rfl⟩
        go_wp2_with fail
        go_quiet (fail)
        go_wp2_with fail
        refine (HXB.out _).mono ?_
        rintro e w' ⟨rfl, rfl⟩
        go_wp2_with fail
        rw [← HH2.out]
      all_goals
        clear hz1 hz2
        go_loopg [3, 5] (nf) (fun k v i wr => ∃ (i' q' : Nat) (y : ByteArray), i = .int .i64 (i' : Nat) ∧ v = .string y ∧ i' ≤ nf ∧ nf - i' = k ∧ Hid (y.data.toList = printX (rs.take j) ++ hd ++ flatB (fs.take i')) ∧ wr = w.drewN q')
        case atStart => exact ⟨0, q + nq, H, rfl, rfl, Nat.zero_le _, rfl, Lib.hid (by rw [HHD.out]; simp [flatB]), (by first | exact rfl | exact drewN_more w q nq)⟩
        case round =>
          obtain ⟨i', q', y, rfl, rfl, hi', rfl, hy, rfl⟩ := hrel
          have hwi : IntKind.i64.wrap (((i' : Nat) : Int) + 1) = (i' : Nat) + 1 := wrap_id (by omega) (by omega)
          have hyz : y.size ≤ 1000000 := by
            rw [size_len, hy.out, List.length_append, List.length_append]
            have := flatB_le fs i'
            have := HFL.out.2
            omega
          rcases Nat.lt_or_ge i' nf with hlt' | hge'
          · obtain ⟨f, hf⟩ : ∃ f, fs[i']? = some f := ⟨_, List.getElem?_eq_getElem (by rw [HNF.out]; exact hlt')⟩
            obtain ⟨gf, off, rfl, hcf⟩ := HF.out (by rw [HNF.out]; omega)
            have k4 := hcf i' (by rw [HNF.out]; exact hlt')
            rw [show fs.getD i' ByteArray.empty = f from by simp [List.getD, hf]] at k4
            have hft := flatB_take hf
            have hfzz : f.size ≤ 1000000 := by
              have h1 := flatB_le fs (i' + 1)
              rw [hft, List.length_append, List.length_cons] at h1
              have h2 := HFL.out.1
              rw [size_len]
              omega
            have hz3 : (y ++ (⟨#[59]⟩ : ByteArray)).size ≤ 1000100 := by
              rw [ByteArray.size_append]
              have : (⟨#[59]⟩ : ByteArray).size = 1 := rfl
              omega
            have HY2 : Hid (((y ++ (⟨#[59]⟩ : ByteArray)) ++ f).data.toList = printX (rs.take j) ++ hd ++ flatB (fs.take (i' + 1))) := by
              refine Lib.hid ?_
              rw [hft, ByteArray.data_append, Array.toList_append, ByteArray.data_append, Array.toList_append, hy.out]
              simp
            clear hf hcf hft hy
            go_wp2
            go_roundg (nf - (i' + 1))
            case measure => omega
            case rel => exact ⟨i' + 1, q', _, by simp, rfl, by omega, rfl, HY2, rfl⟩
          · obtain rfl : i' = nf := by omega
            have HY2 : Hid ((y ++ (⟨#[10]⟩ : ByteArray)).data.toList = printX (rs.take (j + 1))) := by
              refine Lib.hid ?_
              have hall : fs.take i' = fs := List.take_of_length_le (by rw [HNF.out]; exact Nat.le_refl _)
              rw [HPT2.out, ByteArray.data_append, Array.toList_append, hy.out, hall]
              simp
            clear hy
            go_wp2
            go_roundg (n - (j + 1))
            case measure => omega
            case rel => exact ⟨j + 1, q', _, by simp, rfl, by omega, rfl, HY2, rfl⟩
    · obtain rfl : j = n := by omega
      have hV2 : V = .string x := by
        rw [← HV.out]
        have := hx.out
        rw [List.take_of_length_le (by rw [HN.out]; exact Nat.le_refl _)] at this
        rw [← this]
      have HV2 := Lib.hid hV2
      clear hV2 hx
      go_wp2
      go_ret
      exact ⟨by rw [HV2.out]; rfl, q, rfl⟩
end Go.Proofs.YtapbedefahbilaaGreatDoor
