/- FieldLines: codes, lines, files are the document's. -/
import Derived.Test.YtapbedefahbilaaGreatDoorFRef6
namespace Go.Proofs.YtapbedefahbilaaGreatDoor
open Go.RowKit Go.Shelf Go.Maps

theorem rline_form (R : LineR) (X : RecX × Bool × Nat) (hX : lineX R = X) {w : World} {e : Ending} {w' : World} (h : RLinePost R w e w') : ∃ o cap, e = .returned (.tuple #[recV 0 X.1.2.1 X.1.2.2.1 (.slice o X.1.2.2.2.length cap), .bool X.2.1, .int .i64 (X.2.2 : Nat)]) ∧ FieldsX w' o X.1.2.2.2 ∧ Below w.heap.size w w' := by
  obtain ⟨o, cap, h1, h2, h3⟩ := h
  rw [hX] at h1 h2
  exact ⟨o, cap, h1, h2.toX, h3⟩
set_option maxRecDepth 100000 in
set_option maxHeartbeats 4000000 in
theorem lineslaw_any (s : ByteArray) (w : World) {m : Int} (hG : FGlob w m) :
    Calls Tryz.prog 3 #[.string s] w fun e w' => e = .returned (.bool true) ∧ Below w.heap.size w w' := by
  have hS := cut6_size s
  obtain ⟨S, hSS⟩ : ∃ S, cut6 s = S := ⟨_, rfl⟩
  rw [hSS] at hS
  have HS := Lib.hid hSS
  obtain ⟨n, ok, hv, _, _, _⟩ := codeV_form S.data.toList
  have HV := Lib.hid hv
  obtain ⟨ok2, hok2⟩ : ∃ b, (codesL S.data.toList).isSome = b := ⟨_, rfl⟩
  obtain ⟨xs, hxs⟩ : ∃ xs, (codesL S.data.toList).getD [] = xs := ⟨_, rfl⟩
  have hxl : xs.length ≤ 1000 := by
    rw [← hxs]
    cases hc : codesL S.data.toList with
    | none => exact Nat.zero_le _
    | some ys =>
      have := codesL_len hc
      have hl : S.data.toList.length = S.size := Array.length_toList
      show ys.length ≤ 1000
      omega
  have HC1 := Lib.hid (fun W => codes_form S (by omega) hok2 hxs W)
  have HC2 : Hid (∀ W, Calls Tryz.prog 15 #[.string S] W fun e w' => ∃ v, e = .returned (.tuple #[v, .bool ok2]) ∧ w'.ownsRow W.heap.size 3 1 v xs.length (xs.map intC) ∧ Below W.heap.size W w') := by
    refine Lib.hid fun W => (rcodes_any S (by omega) W).mono ?_
    intro e w' h
    unfold CodesPost at h
    rw [hok2, hxs] at h
    exact h
  obtain ⟨hlen, h0⟩ := lineX_in S.data.toList
  obtain ⟨X, hX⟩ : ∃ X, lineX (lineL S.data.toList) = X := ⟨_, rfl⟩
  have hA : ∀ W, FGlob W m → Calls Tryz.prog 16 #[.string S] W fun e w' => ∃ o cap, e = .returned (.tuple #[recV 0 X.1.2.1 X.1.2.2.1 (.slice o X.1.2.2.2.length cap), .bool X.2.1, .int .i64 (X.2.2 : Nat)]) ∧ FieldsG w' o X.1.2.2.2 ∧ Below W.heap.size W w' := by
    intro W h
    rw [← hX]
    exact (line_any S W h (by omega)).mono fun e w' h => line_form h
  have hB : ∀ W, Calls Tryz.prog 17 #[.string S] W fun e w' => ∃ o cap, e = .returned (.tuple #[recV 0 X.1.2.1 X.1.2.2.1 (.slice o X.1.2.2.2.length cap), .bool X.2.1, .int .i64 (X.2.2 : Nat)]) ∧ FieldsX w' o X.1.2.2.2 ∧ Below W.heap.size W w' := fun W => (rline_any S (by omega) W).mono fun e w' h => rline_form _ X hX h
  rw [hX] at hlen h0
  obtain ⟨⟨l, a, b, fs⟩, c, E⟩ := X
  simp only at hA hB hlen h0
  subst h0
  have HA := Lib.hid hA
  have HB := Lib.hid hB
  have hlS : S.data.toList.length = S.size := Array.length_toList
  have hgood := good_in (l := S.data.toList) (by omega)
  have hfew := (parse_few (l := S.data.toList) (by omega)).1
  have hR1 := fun W (h : FGlob W m) => parse_form S (by omega) (L := (parseL S.data.toList).1) (E := (parseL S.data.toList).2) rfl rfl rfl W h
  have hR2 := fun W => rparse_any S (by omega) W
  unfold RParsePost at hR2
  obtain ⟨L, hL⟩ : ∃ L, (parseL S.data.toList).1 = L := ⟨_, rfl⟩
  obtain ⟨tl, htl⟩ : ∃ L, toldL (parseL S.data.toList).2 = L := ⟨_, rfl⟩
  obtain ⟨te, hte⟩ : ∃ L, toldE (parseL S.data.toList).2 = L := ⟨_, rfl⟩
  rw [hL] at hgood hfew
  rw [hL, htl, hte] at hR1 hR2
  have HFS := Lib.hid (fields_few hgood)
  obtain ⟨N, hN⟩ : ∃ N, L.length = N := ⟨_, rfl⟩
  have HN := Lib.hid hN
  rw [hN] at hR1 hR2 hfew
  have HR1 := Lib.hid hR1
  have HR2 := Lib.hid hR2
  have hrc := fun W => rcode_any S W
  have HRC := Lib.hid hrc
  clear hSS hv hok2 hxs hX hA hB hlS hgood hR1 hR2 hL htl hte hN hrc
  go_enter Tryz.func3, Tryz.ntmps3
  go_wp2_with fail
  refine (shown_any w hG).mono ?_
  rintro e w1 ⟨rfl, b1⟩
  have hG1 := hG.below b1
  go_wp2_with fail
  refine (cut6_any s w1).mono ?_
  rintro e w' ⟨rfl, rfl⟩
  rw [HS.out]
  go_wp2_with fail
  refine (code_f_any S w1).mono ?_
  rintro e w2 ⟨rfl, c2⟩
  rw [HV.out]
  have b2 := b1.trans (c2.mono b1.size)
  have hG2 := hG1.below c2
  go_wp2_with fail
  refine (HRC.out w2).mono ?_
  rintro e w' ⟨rfl, rfl⟩
  rw [HV.out]
  go_wp2_with fail
  refine (HC1.out w2).mono ?_
  rintro e w3 ⟨v1, rfl, o1, c3⟩
  have b3 := b2.trans (c3.mono b2.size)
  have hG3 := hG2.below c3
  have i1 := ints_own o1
  clear o1
  go_wp2_with fail
  refine (HC2.out w3).mono ?_
  rintro e w4 ⟨v2, rfl, o2, c4⟩
  have b4 := b3.trans (c4.mono b3.size)
  have hG4 := hG3.below c4
  have I2 := Lib.hid (ints_own o2)
  have I1 := Lib.hid (i1.below c4)
  clear o2 i1 c2 c3 c4 b1 b2 b3 hG1 hG2 hG3
  go_wp2_with fail
  refine (HA.out w4 hG4).mono ?_
  rintro e w5 ⟨fo, fcap, rfl, hF5, c5⟩
  obtain ⟨k, hk⟩ : ∃ k, fs.length = k := ⟨_, rfl⟩
  have HK := Lib.hid hk
  rw [hk]
  obtain ⟨w6, hw6, n6, b46, b56, q6⟩ := rec_laid (a := a) (b := b) (fv := .slice fo k fcap) c5
  have HN6 := Lib.hid n6
  have HW6 := Lib.hid hw6
  have HF6 := Lib.hid (hF5.toX.below b56)
  have HQ6 := Lib.hid q6
  have J1 := Lib.hid (I1.out.below b46)
  have J2 := Lib.hid (I2.out.below b46)
  have b6 := b4.trans (b46.mono b4.size)
  have hG6 := hG4.below b46
  clear n6 hw6 q6 hF5 c5 b46 b56 I1 I2 b4 hG4 hk
  go_wp2_with (first | (refine store_rec rfl (.tmp 12) (.tmp 50) rfl w5.heap.size (recC 0 a b (.slice fo k fcap)) rfl rfl _ HN6.out ⟨rfl, rfl⟩ (by simp [Value.oneCell']) HW6.out ?_) | fail)
  refine (HB.out w6).mono ?_
  rintro e w7 ⟨ro, rcap, rfl, hF7, c7⟩
  rw [HK.out]
  obtain ⟨w8, hw8, n8, b68, b78, q8⟩ := rec_laid (a := a) (b := b) (fv := .slice ro k rcap) c7
  have HN8 := Lib.hid n8
  have HW8 := Lib.hid hw8
  have HF8 := Lib.hid (hF7.below b78)
  have HE8 := Lib.hid (HF6.out.below b68)
  have HQ8 := Lib.hid q8
  have HP8 := Lib.hid (row_below HQ6.out b68)
  have K1 := Lib.hid (J1.out.below b68)
  have K2 := Lib.hid (J2.out.below b68)
  have b8 := b6.trans (b68.mono b6.size)
  have hG8 := hG6.below b68
  clear n8 hw8 q8 hF7 c7 b68 b78 J1 J2 b6 hG6 HF6 HQ6
  go_wp2_with (first | (refine store_rec rfl (.tmp 15) (.tmp 56) rfl w7.heap.size (recC 0 a b (.slice ro k rcap)) rfl rfl _ HN8.out ⟨rfl, rfl⟩ (by simp [Value.oneCell']) HW8.out ?_) | fail)
  refine (HR1.out w8 hG8).mono ?_
  rintro e w9 ⟨po, pcap, pcs, rfl, po9, pr9, c9⟩
  go_wp2_with fail
  refine (HR2.out w9).mono ?_
  rintro e w10 ⟨qo, qcap, qcs, rfl, qo10, qr10, c10⟩
  have c810 := c9.trans (c10.mono c9.size)
  have P10 := Lib.hid (own_below po9 c10)
  have PR10 := Lib.hid ((recsG_own pr9).toX.below c10)
  have Q10 := Lib.hid qo10
  have QR10 := Lib.hid qr10.toX
  have X1 := Lib.hid (K1.out.below c810)
  have X2 := Lib.hid (K2.out.below c810)
  have HF10 := Lib.hid (HF8.out.below c810)
  have HE10 := Lib.hid (HE8.out.below c810)
  have HQ10 := Lib.hid (row_below HQ8.out c810)
  have HP10 := Lib.hid (row_below HP8.out c810)
  have b10 := b8.trans (c810.mono b8.size)
  clear po9 pr9 qo10 qr10 c9 c10 c810 K1 K2 HF8 HE8 HQ8 HP8 b8 hG8
  go_wp2_with fail
  refine (ints_any (toI xs) (by unfold toI; rw [List.length_map]; omega) v1 v2 w10 X1.out X2.out).mono ?_
  rintro e w11 ⟨rfl, c11⟩
  have b11 := b10.trans (c11.mono b10.size)
  have HF11 := Lib.hid (HF10.out.below c11)
  have HE11 := Lib.hid (HE10.out.below c11)
  have q11 := row_below HQ10.out c11
  have p11 := row_below HP10.out c11
  have PP := Lib.hid (own_below P10.out c11)
  have PPR := Lib.hid (PR10.out.below c11)
  have QQ := Lib.hid (own_below Q10.out c11)
  have QQR := Lib.hid (QR10.out.below c11)
  obtain ⟨k0, k1, k2, k3, k4⟩ := rec_cells p11
  obtain ⟨j0, j1, j2, j3, j4⟩ := rec_cells q11
  have lt1 := (Array.getElem?_eq_some_iff.1 p11).1
  have lt2 := (Array.getElem?_eq_some_iff.1 q11).1
  clear p11 q11 c11 HF10 HE10 HQ10 HP10 P10 PR10 Q10 QR10 X1 X2
  go_wp2_with fail
  obtain ⟨Y, hY⟩ : ∃ Y, w11.alloc (.cells (recC 0 a b (.slice fo k fcap)) 31) = Y := ⟨_, rfl⟩
  have aY : Below w11.heap.size w11 Y := by rw [← hY]; exact (Below.refl _ _).alloc (Nat.le_refl _) _
  have sY : Y.heap.size = w11.heap.size + 1 := by rw [← hY]; simp
  have oY : Y.ownsRow w11.heap.size 31 4 (.slice (some ⟨w11.heap.size, 0, none⟩) 1 1) 1 (recC 0 a b (.slice fo k fcap)).toList := by rw [← hY]; exact rec_form2 w11 _ rfl
  have oZ := rec_form2 Y (recC 0 a b (.slice ro k rcap)) rfl
  have aZ : Below Y.heap.size Y (Y.alloc (.cells (recC 0 a b (.slice ro k rcap)) 31)) := (Below.refl _ _).alloc (Nat.le_refl _) _
  have aYZ := aY.trans (aZ.mono aY.size)
  have f1 := HE11.out.below aYZ
  have f2 := HF11.out.below aYZ
  have g1 : RecsX (Y.alloc (.cells (recC 0 a b (.slice ro k rcap)) 31)) [(0, a, b, fs)] (recC 0 a b (.slice fo k fcap)).toList := ⟨fo, fcap, [], by rw [HK.out], f1, rfl⟩
  have g2 : RecsX (Y.alloc (.cells (recC 0 a b (.slice ro k rcap)) 31)) [(0, a, b, fs)] (recC 0 a b (.slice ro k rcap)).toList := ⟨ro, rcap, [], by rw [HK.out], f2, rfl⟩
  have hsame := rsame_any [(0, a, b, fs)] [(0, a, b, fs)] (by intro x hx; rw [List.mem_singleton.1 hx]; exact hlen) (by intro x hx; rw [List.mem_singleton.1 hx]; exact hlen) _ _ _ _ 1 1 _ _ _ (own_below oY aZ) oZ g1 g2 (by simp)
  rw [decide_eq_true rfl] at hsame
  have HSM : Hid (Calls Tryz.prog 21 #[.slice (some ⟨w11.heap.size, 0, none⟩) 1 1, .slice (some ⟨w11.heap.size + 1, 0, none⟩) 1 1] (Y.alloc (.cells (recC 0 a b (.slice ro k rcap)) 31)) fun e w' => e = .returned (.bool true) ∧ Below w11.heap.size w11 w') := by
    rw [← sY]
    refine Lib.hid (hsame.mono fun e w' h => ⟨h.1, ?_⟩)
    obtain ⟨q, hq⟩ := h.2
    rw [hq]
    exact aYZ.trans ((below_drewN _ q).mono aYZ.size)
  rw [← hY] at HSM
  refine HSM.out.mono ?_
  rintro e w12 ⟨rfl, c12⟩
  have b12 := b11.trans (c12.mono b11.size)
  have hs2 := rsame_any (L.map toX) (L.map toX) HFS.out HFS.out po qo w8.heap.size w9.heap.size pcap qcap pcs qcs w12 (by rw [List.length_map, HN.out]; exact own_below PP.out c12) (by rw [List.length_map, HN.out]; exact own_below QQ.out c12) (PPR.out.below c12) (QQR.out.below c12) (by rw [List.length_map, HN.out]; omega)
  rw [decide_eq_true rfl, List.length_map, HN.out] at hs2
  have HS2 := Lib.hid hs2
  clear hY aY sY oY oZ aZ aYZ f1 f2 g1 g2 hsame hs2 k0 k1 k2 k3 k4 j0 j1 j2 j3 j4 c12 lt1 lt2
  go_wp2_with fail
  refine HS2.out.mono ?_
  rintro e w13 ⟨rfl, q, hq⟩
  have b13 : Below w.heap.size w w13 := by rw [hq]; exact b12.trans ((below_drewN _ q).mono b12.size)
  clear hq
  go_wp2
  go_ret
  exact ⟨rfl, b13⟩
end Go.Proofs.YtapbedefahbilaaGreatDoor
