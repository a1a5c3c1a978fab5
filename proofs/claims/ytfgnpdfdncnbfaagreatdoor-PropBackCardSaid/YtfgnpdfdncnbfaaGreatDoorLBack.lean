/- PropBack: a map that is written is read as it is, tight. -/
import Derived.Test.YtfgnpdfdncnbfaaGreatDoorBunP25
import Derived.Test.YtfgnpdfdncnbfaaGreatDoorBunN18
import Derived.Test.YtfgnpdfdncnbfaaGreatDoorBunN24
namespace Go.Proofs.YtfgnpdfdncnbfaaGreatDoor
open Go.RowKit Go.Shelf Go.Maps
attribute [local go_sem] Oper.semAt_some

theorem turnsP_one (l : List Rng) : (turnsL [l]).length = 2 * l.length := by
  have h : ∀ l : List Rng, (turnsOf l).length = 2 * l.length := fun l => by
    unfold turnsOf
    induction l with
    | nil => rfl
    | cons x l ih => rw [List.flatMap_cons, List.length_append, ih]; simp; omega
  unfold turnsL
  simp [h]
set_option maxRecDepth 100000 in
set_option maxHeartbeats 2000000 in
theorem back_law (ol : Option Addr) (l : List Rng) (capl : Nat) (o : Option Addr) (ns : List ByteArray) (cap : Nat) (hn : ns.length ≤ 9223372036854775807) (hc : l.length ≤ capl) (w : World) {mx : Int} (hG : FGlob w mx) (hN : NGlob w) (hL : AtR w ol l) (hA : TxtAt w o ns) :
    Calls Tryz.prog 5 #[.slice ol l.length capl, .slice o ns.length cap] w fun e w' => e = .returned (.bool true) ∧ Below w.heap.size w w' := by
  have C0 := Lib.hid (few_anyN ol l capl hc)
  have C1 := Lib.hid (fun W (h : TxtAt W o ns) => fewT_any ns hn o cap W h)
  unfold FewTP at C1
  have HL := Lib.hid (hL.take 40)
  have zL : (l.take 40).length ≤ 40 ∧ (l.take 40).length ≤ capl := by rw [List.length_take]; omega
  obtain ⟨L, hLL⟩ : ∃ L, l.take 40 = L := ⟨_, rfl⟩
  rw [hLL] at C0 HL zL
  obtain ⟨T, hT⟩ : ∃ T, fewT ns = T := ⟨_, rfl⟩
  have zT : T.length ≤ 34 := by rw [← hT]; exact fewT_len ns
  have yT : ∀ s ∈ T, s.size ≤ 1000000 := by rw [← hT]; exact fun s h => Nat.le_trans (fewT_le ns s h) (by omega)
  rw [hT] at C1
  have C2 := Lib.hid (fun W o c (h : TxtAt W o T) (hG : FGlob W mx) (hL : AtR W ol L) => Write_any o T c ol L capl (by omega) yT (by omega) zL.2 W h hG hL)
  have C3 := Lib.hid (fun (S : ByteArray) (zS : S.size ≤ 1000000) W o c (h : TxtAt W o T) (hG : FGlob W mx) (hN : NGlob W) => Read_any o T c 0 false S (by omega) yT zS W h hG hN)
  have C4 := Lib.hid (fun W (hL : AtR W ol L) (hG : FGlob W mx) => Tight_any ol L capl (by omega) (by rw [turnsP_one]; omega) zL.2 W hL hG.et)
  have HW : Hid ((writeR T L).2 = 0 → rightL L ∧ (writeR T L).1.length ≤ 1000000 ∧ fileR T 0 false (writeR T L).1 = (L, 0, 0)) := Lib.hid fun h => by
    unfold writeR at h ⊢
    split at h
    · rename_i h1
      split at h
      · rename_i h2
        rw [if_pos h1, if_pos h2]
        refine ⟨h2.1, ?_, wRec_file h1 h2.1 h2.2 (by omega)⟩
        show (printX (L.map (wRec T))).length ≤ _
        rw [wRec_print h2.1.1.1]
        have := wRec_len h1 h2.1.1.1 h2.2
        omega
      · cases h
    · cases h
  have HB := Lib.hid (fun h => writeR_bad (ns := T) (l := L) h)
  obtain ⟨R, hR⟩ : ∃ R, writeR T L = R := ⟨_, rfl⟩
  rw [hR] at C2 HW HB
  obtain ⟨n, hnn⟩ : ∃ n, ns.length = n := ⟨_, rfl⟩
  obtain ⟨m, hmm⟩ : ∃ n, T.length = n := ⟨_, rfl⟩
  obtain ⟨p, hpp⟩ : ∃ n, l.length = n := ⟨_, rfl⟩
  obtain ⟨q, hqq⟩ : ∃ n, L.length = n := ⟨_, rfl⟩
  rw [hnn] at C1
  rw [hmm] at C1 C2 C3 zT
  rw [hpp] at C0
  rw [hqq] at C0 C2 C4 zL
  rw [hnn, hpp]
  have HA := Lib.hid hA
  have HN := Lib.hid hN
  have HG := Lib.hid hG
  clear hLL hT hR hnn hmm hpp hqq hA hN hG hL yT
  go_enter Tryz.func5, Tryz.ntmps5
  go_wp2_with fail
  refine (shownP_any w HG.out HN.out).mono ?_
  rintro e w1 ⟨rfl, b1⟩
  have B1 := Lib.hid b1
  have K0 := Lib.hid (C0.out w1)
  clear b1 C0
  go_wp2_with fail
  refine K0.out.mono ?_
  rintro e w1' ⟨rfl, rfl⟩
  have K1 := Lib.hid (C1.out w1 (HA.out.below B1.out))
  clear K0 C1
  go_wp2_with fail
  refine K1.out.mono ?_
  rintro e w2 ⟨o2, cap2, rfl, h2, b2⟩
  have B2 := Lib.hid (B1.out.trans (b2.mono B1.out.size))
  have H2 := Lib.hid h2
  have K2 := Lib.hid (C2.out w2 o2 cap2 h2 (HG.out.below B2.out) (HL.out.below B2.out))
  clear b2 h2 K1 C2
  go_wp2_with fail
  refine K2.out.mono ?_
  rintro e w3 ⟨b3, rfl⟩
  have B3 := Lib.hid (B2.out.trans (b3.mono B2.out.size))
  have H3 := Lib.hid (H2.out.below b3)
  clear b3 K2
  by_cases h0 : R.2 = 0
  · obtain ⟨hri, hlen, hfile⟩ := HW.out h0
    obtain ⟨sv, hsv⟩ : ∃ s : ByteArray, bytes1 R.1 = s := ⟨_, rfl⟩
    have zS : sv.size ≤ 1000000 := by rw [← hsv]; show R.1.toArray.size ≤ _; rw [List.size_toArray]; exact hlen
    have hsl : sv.data.toList = R.1 := by rw [← hsv]
    have K3 := Lib.hid (C3.out sv zS w3 o2 cap2 H3.out (HG.out.below B3.out) (HN.out.below B3.out))
    rw [hsl, hfile] at K3
    rw [show strV R.1 = .string sv from by rw [← hsv], h0]
    have HRI := Lib.hid hri
    clear hri hlen hfile hsv zS hsl C3 HW HB
    go_wp2_with fail
    refine K3.out.mono ?_
    rintro e w4 ⟨b4, hc4⟩
    have B4 := Lib.hid (B3.out.trans (b4.mono B3.out.size))
    have K4 := Lib.hid (C4.out w4 (HL.out.below B4.out) (HG.out.below B4.out))
    clear b4 K3 C4
    rcases hc4 with ⟨h, _⟩ | ⟨_, o4, t, m4, p1, p2, p3, p4, rfl, at4⟩
    · exact absurd rfl h
    · obtain rfl := map_unique p1 HRI.out.1 p2
      have HT := Lib.hid p3
      have AT4 := Lib.hid at4
      obtain ⟨tl, htl⟩ : ∃ n, t.length = n := ⟨_, rfl⟩
      have HTL := Lib.hid htl
      rw [htl]
      have p4' : tl ≤ 600 := by omega
      clear p1 p2 p3 p4 at4 htl
      go_wp2_with fail
      refine K4.out.mono ?_
      rintro e w5 ⟨b5, hc5⟩
      have B5 := Lib.hid (B4.out.trans (b5.mono B4.out.size))
      have AT5 := Lib.hid (AT4.out.below b5)
      clear b5 K4
      rcases hc5 with ⟨h, _⟩ | ⟨_, o5, u, q3, q4, rfl, at5⟩
      · exact absurd (fun y hy => by rw [List.mem_singleton.1 hy]; exact HRI.out) h
      · obtain rfl := isLay_unique q3 HT.out
        have hsm := (Same_any o4 o5 u u u.length u.length (by rw [HTL.out]; omega) w5 AT5.out at5).mono fun e w' h => (⟨h.1.trans (by simp), h.2⟩ : e = .returned (.bool true) ∧ Below w5.heap.size w5 w')
        rw [HTL.out] at hsm ⊢
        have HSM := Lib.hid hsm
        clear hsm at5 q3 q4
        go_wp2_with fail
        refine HSM.out.mono ?_
        rintro e w6 ⟨rfl, b6⟩
        have B6 := Lib.hid (B5.out.trans (b6.mono B5.out.size))
        clear b6 HSM
        go_wp2
        go_ret
        exact ⟨rfl, B6.out⟩
  · have hx := HB.out h0
    obtain ⟨R1, R2⟩ := R
    simp only at hx h0
    subst hx
    have hb : (((R2 : Nat) : Int) != 0) = true := by simp; omega
    rw [show strV [] = .string ⟨#[]⟩ from rfl]
    clear HW HB C3 C4
    go_wp2
    go_ret
    exact ⟨rfl, B3.out⟩
end Go.Proofs.YtfgnpdfdncnbfaaGreatDoor
