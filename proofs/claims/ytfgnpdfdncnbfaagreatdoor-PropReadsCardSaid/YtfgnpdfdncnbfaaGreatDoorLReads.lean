/- The document's own Of; PropReads: what files say, and of a scalar, which are names. -/
import Derived.Test.YtfgnpdfdncnbfaaGreatDoorLRefReadB
import Derived.Test.YtfgnpdfdncnbfaaGreatDoorBunP25
namespace Go.Proofs.YtfgnpdfdncnbfaaGreatDoor
open Go.RowKit Go.Shelf Go.Maps
attribute [local go_sem] Oper.semAt_some

/-- What Of answers, as one. -/
def ofD (ns : List ByteArray) (Q : List Rng × Nat × Nat) (r : Int) : ByteArray × Nat :=
  if Q.2.2 = 0 then (ns.getD ((findL Q.1 r).getD 0).toNat ByteArray.empty, 0) else (⟨#[]⟩, Q.2.2)
theorem ofA_form {ns : List ByteArray} {Q : List Rng × Nat × Nat} {r : Int} {w w' : World} {e : Ending} (h : OfA ns Q r w e w') : e = .returned (.tuple #[.string (ofD ns Q r).1, .int .i64 ((ofD ns Q r).2 : Nat)]) ∧ Below w.heap.size w w' := by
  refine ⟨?_, h.1⟩
  unfold ofD
  rcases h.2 with ⟨h3, rfl⟩ | ⟨h3, v, x, hv, hx, rfl⟩
  · rw [if_neg h3]
  · rw [if_pos h3, hv, Int.toNat_natCast, show ns.getD v ByteArray.empty = x by simp [List.getD, hx]]
    rfl
theorem readQ_len {R : List Rng × Nat × Nat} {w w' : World} {e : Ending} (h : ReadQ R w e w') : ∃ (o : Option Addr) (t : List Rng) (cap n c : Nat), n = R.2.1 ∧ c = R.2.2 ∧ e = .returned (.tuple #[.slice o t.length cap, .int .i64 (if c = 0 then (0 : Nat) else n : Nat), .int .i64 (c : Nat)]) ∧ AtR w' o t ∧ t.length ≤ 600 ∧ (c ≠ 0 → t = []) ∧
    (c = 0 → ∃ m, mapL m ∧ m.Perm R.1 ∧ isLay [m] t) := by
  rcases h.2 with ⟨h3, rfl⟩ | ⟨h3, o, t, m, cap, h4, h5, h6, h7, rfl, h8⟩
  · exact ⟨none, [], 0, R.2.1, R.2.2, rfl, rfl, by rw [if_neg h3]; rfl, fun h => absurd h (Nat.not_lt_zero _), by simp, fun _ => rfl, fun h => absurd h h3⟩
  · exact ⟨o, t, cap, R.2.1, R.2.2, rfl, rfl, by rw [if_pos h3, h3]; rfl, h8, h7, fun h => absurd h3 h, fun _ => ⟨m, h4, h5, h6⟩⟩
set_option maxRecDepth 100000 in
set_option maxHeartbeats 2000000 in
theorem refOf_any (o : Option Addr) (ns : List ByteArray) (cap : Nat) (r : Int) (s : ByteArray) (hn : ns.length ≤ 1000) (hcn : ns.length ≤ cap) (hz : ∀ s ∈ ns, s.size ≤ 1000000) (hs : s.size ≤ 20000) (w : World) (hA : TxtAt w o ns) :
    Calls Tryz.prog 16 #[.string s, .slice o ns.length cap, .int .i64 r] w (OfA ns (fileR ns 0 false s.data.toList) r w) := by
  have h1 := Lib.hid (refRead_any o ns cap 0 false s hn hcn hz hs w hA)
  have hv := Lib.hid (fileR_vals (ns := ns) (k := 0) (loose := false) (l := s.data.toList))
  obtain ⟨R, hR⟩ : ∃ R, fileR ns 0 false s.data.toList = R := ⟨_, rfl⟩
  rw [hR] at h1 hv ⊢
  obtain ⟨P, hP⟩ : ∃ P, OfA ns R r w = P := ⟨_, rfl⟩
  have HP := Lib.hid hP
  rw [hP]
  obtain ⟨n, hnn⟩ : ∃ n, ns.length = n := ⟨_, rfl⟩
  have HN := Lib.hid hnn
  have HA := Lib.hid hA
  rw [hnn] at h1 hn ⊢
  clear hP hnn hA hz hR hcn
  go_enter Tryz.func16, Tryz.ntmps16
  go_wp2_with fail
  refine h1.out.mono ?_
  rintro e w1 ⟨b1, hc⟩
  rcases hc with ⟨h3, rfl⟩ | ⟨h3, o2, t, m, cap2, h4, h5, h6, h7, rfl, h8⟩
  · obtain ⟨R1, R2, R3⟩ := R
    simp only at h3
    have HQ : Hid (P (.returned (.tuple #[.string ⟨#[]⟩, .int .i64 (R3 : Nat)])) w1) := by
      rw [← HP.out]
      exact Lib.hid ⟨b1, .inl ⟨h3, rfl⟩⟩
    have hb : (((R3 : Nat) : Int) != 0) = true := by simp; omega
    clear b1 hv
    go_wp2_with fail
    exact HQ.out
  · obtain ⟨hns, hvals⟩ := hv.out h3
    have hfi := Lib.hid (refFind_any o2 t cap2 r (by omega) w1 h8)
    rw [lay_find h4 h5 h6] at hfi
    have hnv : ∃ vn : Nat, (findL R.1 r).getD 0 = (vn : Nat) ∧ vn < n := by
      cases hf : findL R.1 r with
      | none => exact ⟨0, rfl, by have := hns.2.2.1; have := HN.out; omega⟩
      | some v =>
        obtain ⟨x, hx, _, _, rfl⟩ := findL_some hf
        have h9 := hvals x hx
        exact ⟨x.2.2.toNat, by show x.2.2 = _; omega, by have := HN.out; omega⟩
    obtain ⟨vn, hvn, hlt⟩ := hnv
    obtain ⟨q, hq⟩ : ∃ q, ansF (findL R.1 r) = .tuple #[.int .i64 (vn : Nat), .bool q] := by
      cases hf : findL R.1 r with
      | none => rw [hf] at hvn; have : vn = 0 := by simp at hvn; omega
                subst this; exact ⟨_, rfl⟩
      | some v => rw [hf] at hvn; simp at hvn; subst hvn; exact ⟨_, rfl⟩
    rw [hq] at hfi
    obtain ⟨x, hx⟩ : ∃ x, ns[vn]? = some x := ⟨_, List.getElem?_eq_getElem (by rw [HN.out]; exact hlt)⟩
    obtain ⟨g, off, rfl, hc⟩ := (HA.out.below b1) (by rw [HN.out]; omega)
    have k0 := hc vn x hx
    have hg := World.block_lt_of_cell? _ _ k0
    have HQ : Hid (P (.returned (.tuple #[.string x, .int .i64 0])) w1) := by
      rw [← HP.out]
      exact Lib.hid ⟨b1, .inr ⟨h3, vn, x, hvn, hx, rfl⟩⟩
    obtain ⟨tn, htn⟩ : ∃ x, t.length = x := ⟨_, rfl⟩
    rw [htn] at hfi
    rw [htn]
    have hvc : ((vn : Nat) : Int) < ((n : Nat) : Int) := by omega
    clear hc hx b1 hv hvals hns h3 h4 h5 h6 h7 h8 hq htn hvn
    go_wp2_with fail
    refine hfi.out.mono ?_
    rintro e w2 ⟨rfl, rfl⟩
    clear hfi
    go_wp2_with fail
    exact HQ.out
set_option maxRecDepth 100000 in
set_option maxHeartbeats 4000000 in
theorem reads_law (s : ByteArray) (o : Option Addr) (ns : List ByteArray) (cap : Nat) (k r : Int) (loose : Bool) (nm : ByteArray) (hn : ns.length ≤ 9223372036854775807) (w : World) {mx : Int} (hG : FGlob w mx) (hN : NGlob w) (hA : TxtAt w o ns) :
    Calls Tryz.prog 3 #[.string s, .slice o ns.length cap, .int .i64 k, .int .i64 r, .bool loose, .string nm] w fun e w' => e = .returned (.bool true) ∧ Below w.heap.size w w' := by
  have C1 := Lib.hid (fun W (h : TxtAt W o ns) => fewT_cap ns hn o cap W h)
  unfold FewTC at C1
  obtain ⟨S, hS⟩ : ∃ S, cutB s = S := ⟨_, rfl⟩
  have zS : S.size ≤ 600 := by rw [← hS]; exact cutB_size s
  obtain ⟨M, hM⟩ : ∃ S, cut42 nm = S := ⟨_, rfl⟩
  have zM : M.size ≤ 42 := by rw [← hM]; exact cut42_le nm
  obtain ⟨T, hT⟩ : ∃ T, fewT ns = T := ⟨_, rfl⟩
  have zT : T.length ≤ 34 := by rw [← hT]; exact fewT_len ns
  have yT : ∀ s ∈ T, s.size ≤ 1000000 := by rw [← hT]; exact fun s h => Nat.le_trans (fewT_le ns s h) (by omega)
  rw [hT] at C1
  have HS := Lib.hid hS
  have HM : Hid (nm.extract 0 (min (nm.size : Int) 42).toNat = M) := Lib.hid hM
  have C2 := Lib.hid (fun W o c (h : TxtAt W o T) (hG : FGlob W mx) (hN : NGlob W) => Read_any o T c k loose S (by omega) yT (by omega) W h hG hN)
  have C3 := Lib.hid (fun W o c (hc : T.length ≤ c) (h : TxtAt W o T) => refRead_any o T c k loose S (by omega) hc yT (by omega) W h)
  have C4 := Lib.hid (fun W o c (h : TxtAt W o T) (hG : FGlob W mx) (hN : NGlob W) => (Of_any o T c r S (by omega) yT (by omega) W h hG hN).mono fun e w' h => ofA_form h)
  have C5 := Lib.hid (fun W o c (hc : T.length ≤ c) (h : TxtAt W o T) => (refOf_any o T c r S (by omega) hc yT (by omega) W h).mono fun e w' h => ofA_form h)
  have C6 := Lib.hid (fun W o c (h : TxtAt W o T) => Value_any o T c M (by omega) (by omega) yT W h)
  have C7 := Lib.hid (fun W o c (h : TxtAt W o T) => refValue_q o T c M (by omega) W h)
  have C8 := Lib.hid (fun W o c (h : TxtAt W o T) => Names_any o T c (by omega) yT W h)
  have C9 := Lib.hid (fun W o c (hc : T.length ≤ c) (h : TxtAt W o T) => refNames_any o T c (by omega) hc yT W h)
  obtain ⟨R, hR⟩ : ∃ R, fileR T k loose S.data.toList = R := ⟨_, rfl⟩
  rw [hR] at C2 C3
  obtain ⟨D, hD⟩ : ∃ R, ofD T (fileR T 0 false S.data.toList) r = R := ⟨_, rfl⟩
  rw [hD] at C4 C5
  obtain ⟨D1, D2⟩ := D
  obtain ⟨vp, vq, hpq, _⟩ := ansV_form (valueL T M)
  rw [hpq] at C6 C7
  obtain ⟨nb, hnb⟩ : ∃ b, decide (namesL T) = b := ⟨_, rfl⟩
  rw [hnb] at C8 C9
  obtain ⟨n, hnn⟩ : ∃ n, ns.length = n := ⟨_, rfl⟩
  obtain ⟨m, hmm⟩ : ∃ n, T.length = n := ⟨_, rfl⟩
  rw [hnn] at C1 ⊢
  rw [hmm] at C1 C2 C3 C4 C5 C6 C7 C8 C9 zT
  have HA := Lib.hid hA
  have HN := Lib.hid hN
  have HG := Lib.hid hG
  clear hS hM hT hR hD hpq hnb hnn hmm hA hN hG yT zS zM
  go_enter Tryz.func3, Tryz.ntmps3
  go_wp2_with fail
  refine (shownP_any w HG.out HN.out).mono ?_
  rintro e w1 ⟨rfl, b1⟩
  have B1 := Lib.hid b1
  clear b1
  go_wp2_with fail
  refine (cutB_any s w1).mono ?_
  rintro e w1' ⟨rfl, rfl⟩
  rw [HS.out]
  have K1 := Lib.hid (C1.out w1' (HA.out.below B1.out))
  clear C1
  go_wp2_with fail
  refine K1.out.mono ?_
  rintro e w2 ⟨o2, cap2, rfl, hcp, h2, b2⟩
  have B2 := Lib.hid (B1.out.trans (b2.mono B1.out.size))
  have H2 := Lib.hid h2
  have HCP := Lib.hid hcp
  have K2 := Lib.hid (C2.out w2 o2 cap2 h2 (HG.out.below B2.out) (HN.out.below B2.out))
  clear b2 h2 K1 C2 hcp
  go_wp2_with fail
  rw [HM.out]
  refine K2.out.mono ?_
  rintro e w3 hra
  have b3 := hra.1
  obtain ⟨o3, t, i3, c3, hi3, hc3, rfl, at3, lt3, n3, m3⟩ := readA_len hra
  have B3 := Lib.hid (B2.out.trans (b3.mono B2.out.size))
  have H3 := Lib.hid (H2.out.below b3)
  have AT3 := Lib.hid at3
  have N3 := Lib.hid n3
  have M3 := Lib.hid m3
  have K3 := Lib.hid (C3.out w3 o2 cap2 HCP.out H3.out)
  have HI3 := Lib.hid hi3
  have HC3 := Lib.hid hc3
  obtain ⟨tl, htl⟩ : ∃ n, t.length = n := ⟨_, rfl⟩
  obtain ⟨j3, hj3⟩ : ∃ j, (if c3 = 0 then (0 : Nat) else i3) = j := ⟨_, rfl⟩
  have HTL := Lib.hid htl
  have HJ3 := Lib.hid hj3
  have lt3' : tl ≤ 600 := by omega
  rw [htl, hj3]
  clear hra b3 at3 n3 m3 K2 C3 hi3 hc3 htl hj3 lt3 H2
  go_wp2_with fail
  refine K3.out.mono ?_
  rintro e w4 hra
  have b4 := hra.1
  obtain ⟨o4, u, cap4, i4, c4, hi4, hc4, rfl, at4, lt4, n4, m4⟩ := readQ_len hra
  have B4 := Lib.hid (B3.out.trans (b4.mono B3.out.size))
  have H4 := Lib.hid (H3.out.below b4)
  obtain rfl : c4 = c3 := by rw [hc4, HC3.out]
  obtain rfl : i4 = i3 := by rw [hi4, HI3.out]
  have htu : t = u := by
    by_cases h0 : c4 = 0
    · obtain ⟨m1, p1, p2, p3⟩ := M3.out h0
      obtain ⟨m2, q1, q2, q3⟩ := m4 h0
      exact lay_same p1 p2 p3 q1 q2 q3
    · rw [N3.out h0, n4 h0]
  subst htu
  have AT4 := Lib.hid at4
  have AT3' := Lib.hid (AT3.out.below b4)
  have K4 := Lib.hid (C4.out w4 o2 cap2 H4.out (HG.out.below B4.out) (HN.out.below B4.out))
  rw [HTL.out, HJ3.out]
  clear hra b4 at4 n4 m4 K3 C4 hi4 hc4 lt4 AT3 H3 M3 N3
  go_wp2_with fail
  refine K4.out.mono ?_
  rintro e w5 ⟨rfl, b5⟩
  have B5 := Lib.hid (B4.out.trans (b5.mono B4.out.size))
  have B45 := Lib.hid b5
  have H5 := Lib.hid (H4.out.below b5)
  have K5 := Lib.hid (C5.out w5 o2 cap2 HCP.out H5.out)
  clear b5 K4 C5 H4
  go_wp2_with fail
  refine K5.out.mono ?_
  rintro e w6 ⟨rfl, b6⟩
  have B6 := Lib.hid (B5.out.trans (b6.mono B5.out.size))
  have B46 := Lib.hid (B45.out.trans (b6.mono B45.out.size))
  have H6 := Lib.hid (H5.out.below b6)
  have K6 := Lib.hid (C6.out w6 o2 cap2 H6.out)
  clear b6 K5 C6 H5
  go_wp2_with fail
  refine K6.out.mono ?_
  rintro e w7 ⟨rfl, b7⟩
  have B7 := Lib.hid (B6.out.trans (b7.mono B6.out.size))
  have B47 := Lib.hid (B46.out.trans (b7.mono B46.out.size))
  have H7 := Lib.hid (H6.out.below b7)
  have K7 := Lib.hid (C7.out w7 o2 cap2 H7.out)
  clear b7 K6 C7 H6
  go_wp2_with fail
  refine K7.out.mono ?_
  rintro e w7' ⟨rfl, rfl⟩
  have hsm := (refSame_any o3 o4 t t tl cap4 (by rw [HTL.out]; omega) w7' (AT3'.out.below B47.out) (AT4.out.below B47.out)).mono fun e w' h => (⟨h.1.trans (by simp), h.2⟩ : e = .returned (.bool true) ∧ Below w7'.heap.size w7' w')
  rw [HTL.out] at hsm
  have HSM := Lib.hid hsm
  clear hsm K7
  go_wp2_with fail
  refine HSM.out.mono ?_
  rintro e w8 ⟨rfl, b8⟩
  have B8 := Lib.hid (B7.out.trans (b8.mono B7.out.size))
  have H8 := Lib.hid (H7.out.below b8)
  have K8 := Lib.hid (C8.out w8 o2 cap2 H8.out)
  clear b8 HSM C8 H7
  go_wp2_with fail
  refine K8.out.mono ?_
  rintro e w9 ⟨rfl, b9⟩
  have B9 := Lib.hid (B8.out.trans (b9.mono B8.out.size))
  have H9 := Lib.hid (H8.out.below b9)
  have K9 := Lib.hid (C9.out w9 o2 cap2 HCP.out H9.out)
  clear b9 K8 C9 H8
  go_wp2_with fail
  refine K9.out.mono ?_
  rintro e w10 ⟨rfl, q10, rfl⟩
  have B10 := Lib.hid (B9.out.trans ((below_drewN w9 q10).mono B9.out.size))
  clear K9
  go_wp2
  go_ret
  exact ⟨rfl, B10.out⟩
end Go.Proofs.YtfgnpdfdncnbfaaGreatDoor
