/- PropLoose: what is read though no name may be unknown is read likewise if some may. -/
import Derived.Test.YtfgnpdfdncnbfaaGreatDoorBunP25
import Derived.Test.YtfgnpdfdncnbfaaGreatDoorBunN18
namespace Go.Proofs.YtfgnpdfdncnbfaaGreatDoor
open Go.RowKit Go.Shelf Go.Maps
attribute [local go_sem] Oper.semAt_some

set_option maxRecDepth 100000 in
set_option maxHeartbeats 2000000 in
theorem loose_law (s : ByteArray) (o : Option Addr) (ns : List ByteArray) (cap : Nat) (k : Int) (hn : ns.length ≤ 9223372036854775807) (w : World) {mx : Int} (hG : FGlob w mx) (hN : NGlob w) (hA : TxtAt w o ns) :
    Calls Tryz.prog 8 #[.string s, .slice o ns.length cap, .int .i64 k] w fun e w' => e = .returned (.bool true) ∧ Below w.heap.size w w' := by
  have C1 := Lib.hid (fun W (h : TxtAt W o ns) => fewT_any ns hn o cap W h)
  unfold FewTP at C1
  obtain ⟨S, hS⟩ : ∃ S, cutB s = S := ⟨_, rfl⟩
  have zS : S.size ≤ 600 := by rw [← hS]; exact cutB_size s
  have lS : S.data.toList.length = S.size := Array.length_toList
  obtain ⟨T, hT⟩ : ∃ T, fewT ns = T := ⟨_, rfl⟩
  have zT : T.length ≤ 34 := by rw [← hT]; exact fewT_len ns
  have yT : ∀ s ∈ T, s.size ≤ 1000000 := by rw [← hT]; exact fun s h => Nat.le_trans (fewT_le ns s h) (by omega)
  rw [hT] at C1
  have HS := Lib.hid hS
  have C2 := Lib.hid (fun W o c (h : TxtAt W o T) (hG : FGlob W mx) (hN : NGlob W) => Read_any o T c k false S (by omega) yT (by omega) W h hG hN)
  have C3 := Lib.hid (fun W o c (h : TxtAt W o T) (hG : FGlob W mx) (hN : NGlob W) => Read_any o T c k true S (by omega) yT (by omega) W h hG hN)
  have HL := Lib.hid (fun h => file_loose (ns := T) (k := k) (l := S.data.toList) h)
  have HM := Lib.hid (fun h => file_name (ns := T) (k := k) (l := S.data.toList) (by omega) h)
  obtain ⟨R, hR⟩ : ∃ R, fileR T k false S.data.toList = R := ⟨_, rfl⟩
  obtain ⟨Q, hQ⟩ : ∃ R, fileR T k true S.data.toList = R := ⟨_, rfl⟩
  rw [hR] at C2 HL HM
  rw [hQ] at C3 HL
  obtain ⟨n, hnn⟩ : ∃ n, ns.length = n := ⟨_, rfl⟩
  obtain ⟨m, hmm⟩ : ∃ n, T.length = n := ⟨_, rfl⟩
  rw [hnn] at C1 ⊢
  rw [hmm] at C1 C2 C3 zT
  have HA := Lib.hid hA
  have HN := Lib.hid hN
  have HG := Lib.hid hG
  clear hS hT hR hQ hnn hmm hA hN hG yT zS lS
  go_enter Tryz.func8, Tryz.ntmps8
  go_wp2_with fail
  refine (shownP_any w HG.out HN.out).mono ?_
  rintro e w1 ⟨rfl, b1⟩
  have B1 := Lib.hid b1
  clear b1
  go_wp2_with fail
  refine (cutB_any s w1).mono ?_
  rintro e w1' ⟨rfl, rfl⟩
  rw [HS.out]
  have K1 := Lib.hid (C1.out w1' (HA.out.below B1.out))
  clear C1
  go_wp2_with fail
  refine K1.out.mono ?_
  rintro e w2 ⟨o2, cap2, rfl, h2, b2⟩
  have B2 := Lib.hid (B1.out.trans (b2.mono B1.out.size))
  have H2 := Lib.hid h2
  have K2 := Lib.hid (C2.out w2 o2 cap2 h2 (HG.out.below B2.out) (HN.out.below B2.out))
  clear b2 h2 K1 C2
  go_wp2_with fail
  refine K2.out.mono ?_
  rintro e w3 hra
  have b3 := hra.1
  obtain ⟨o3, t, i3, c3, hi3, hc3, rfl, at3, lt3, n3, m3⟩ := readA_len hra
  have B3 := Lib.hid (B2.out.trans (b3.mono B2.out.size))
  have H3 := Lib.hid (H2.out.below b3)
  have AT3 := Lib.hid at3
  have N3 := Lib.hid n3
  have M3 := Lib.hid m3
  have K3 := Lib.hid (C3.out w3 o2 cap2 H3.out (HG.out.below B3.out) (HN.out.below B3.out))
  have HI3 := Lib.hid hi3
  have HC3 := Lib.hid hc3
  obtain ⟨tl, htl⟩ : ∃ n, t.length = n := ⟨_, rfl⟩
  obtain ⟨j3, hj3⟩ : ∃ j, (if c3 = 0 then (0 : Nat) else i3) = j := ⟨_, rfl⟩
  have HTL := Lib.hid htl
  have HJ3 := Lib.hid hj3
  rw [htl, hj3]
  clear hra b3 at3 n3 m3 K2 C3 hi3 hc3 htl hj3
  go_wp2_with fail
  refine K3.out.mono ?_
  rintro e w4 hra
  have b4 := hra.1
  obtain ⟨o4, u, i4, c4, hi4, hc4, rfl, at4, lt4, n4, m4⟩ := readA_len hra
  have B4 := Lib.hid (B3.out.trans (b4.mono B3.out.size))
  have AT4 := Lib.hid at4
  have AT3' := Lib.hid (AT3.out.below b4)
  by_cases h40 : c3 = 40
  · have h1 := HM.out (by rw [← HC3.out, h40])
    have ht : t = [] := N3.out (by omega)
    have htl0 : tl = 0 := by rw [← HTL.out, ht]; rfl
    have hj : 1 ≤ j3 := by rw [← HJ3.out, if_neg (by omega), HI3.out]; exact h1
    subst h40
    subst htl0
    have hpos : (((j3 : Nat) : Int) > 0) := by omega
    obtain ⟨j4, hj4⟩ : ∃ j, (if c4 = 0 then (0 : Nat) else i4) = j := ⟨_, rfl⟩
    rw [hj4]
    clear hra b4 at4 n4 m4 K3 hi4 hc4 HM HL
    go_wp2
    go_ret
    exact ⟨rfl, B4.out⟩
  · have hQR := HL.out (by rw [← HC3.out]; exact h40)
    rw [hQR] at hi4 hc4 m4
    obtain rfl : c4 = c3 := by rw [hc4, HC3.out]
    obtain rfl : i4 = i3 := by rw [hi4, HI3.out]
    have htu : t = u := by
      by_cases h0 : c4 = 0
      · obtain ⟨m1, p1, p2, p3⟩ := M3.out h0
        obtain ⟨m2, q1, q2, q3⟩ := m4 h0
        exact lay_same p1 p2 p3 q1 q2 q3
      · rw [N3.out h0, n4 h0]
    subst htu
    have hsm := (Same_any o3 o4 t t t.length t.length (by omega) w4 AT3'.out AT4.out).mono fun e w' h => (⟨h.1.trans (by simp), h.2⟩ : e = .returned (.bool true) ∧ Below w4.heap.size w4 w')
    rw [HTL.out] at hsm ⊢
    rw [HJ3.out]
    have HSM := Lib.hid hsm
    have hne : (((c4 : Nat) : Int) == 40) = false := by simp; omega
    clear hra b4 at4 n4 m4 K3 hi4 hc4 HM HL hsm lt3 lt4 h40
    go_wp2_with fail
    refine HSM.out.mono ?_
    rintro e w5 ⟨rfl, b5⟩
    have B5 := Lib.hid (B4.out.trans (b5.mono B4.out.size))
    clear b5 HSM
    go_wp2
    go_ret
    exact ⟨rfl, B5.out⟩
end Go.Proofs.YtfgnpdfdncnbfaaGreatDoor
