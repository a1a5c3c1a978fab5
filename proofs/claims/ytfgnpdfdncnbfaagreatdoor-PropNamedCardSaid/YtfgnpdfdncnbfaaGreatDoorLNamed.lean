/- PropNamed: what a file says of a scalar is a name, whose value is what the file's map says, that of 0, if it says nothing. -/
import Derived.Test.YtfgnpdfdncnbfaaGreatDoorBunP25
namespace Go.Proofs.YtfgnpdfdncnbfaaGreatDoor
open Go.RowKit Go.Shelf Go.Maps
attribute [local go_sem] Oper.semAt_some

set_option maxRecDepth 100000 in
set_option maxHeartbeats 2000000 in
theorem named_law (s : ByteArray) (o : Option Addr) (ns : List ByteArray) (cap : Nat) (r : Int) (hn : ns.length ≤ 9223372036854775807) (w : World) {mx : Int} (hG : FGlob w mx) (hN : NGlob w) (hA : TxtAt w o ns) :
    Calls Tryz.prog 9 #[.string s, .slice o ns.length cap, .int .i64 r] w fun e w' => e = .returned (.bool true) ∧ Below w.heap.size w w' := by
  have C1 := Lib.hid (fun W (h : TxtAt W o ns) => fewT_any ns hn o cap W h)
  unfold FewTP at C1
  obtain ⟨S, hS⟩ : ∃ S, cutB s = S := ⟨_, rfl⟩
  have zS : S.size ≤ 600 := by rw [← hS]; exact cutB_size s
  obtain ⟨T, hT⟩ : ∃ T, fewT ns = T := ⟨_, rfl⟩
  have zT : T.length ≤ 34 := by rw [← hT]; exact fewT_len ns
  have yT : ∀ s ∈ T, s.size ≤ 1000000 := by rw [← hT]; exact fun s h => Nat.le_trans (fewT_le ns s h) (by omega)
  rw [hT] at C1
  have HS := Lib.hid hS
  have C2 := Lib.hid (fun W o c (h : TxtAt W o T) (hG : FGlob W mx) (hN : NGlob W) => Of_any o T c r S (by omega) yT (by omega) W h hG hN)
  have C3 := Lib.hid (fun W o c (h : TxtAt W o T) (hG : FGlob W mx) (hN : NGlob W) => Read_any o T c 0 false S (by omega) yT (by omega) W h hG hN)
  have C4 := Lib.hid (fun W o c x (hx : x ∈ T) (h : TxtAt W o T) => Value_any o T c x (yT x hx) (by omega) yT W h)
  have HV := Lib.hid (fileR_vals (ns := T) (k := 0) (loose := false) (l := S.data.toList))
  obtain ⟨R, hR⟩ : ∃ R, fileR T 0 false S.data.toList = R := ⟨_, rfl⟩
  rw [hR] at C2 C3 HV
  obtain ⟨n, hnn⟩ : ∃ n, ns.length = n := ⟨_, rfl⟩
  obtain ⟨m, hmm⟩ : ∃ n, T.length = n := ⟨_, rfl⟩
  rw [hnn] at C1 ⊢
  rw [hmm] at C1 C2 C3 C4 zT
  have HA := Lib.hid hA
  have HN := Lib.hid hN
  have HG := Lib.hid hG
  have HM := Lib.hid hmm
  clear hS hT hR hnn hmm hA hN hG yT zS
  go_enter Tryz.func9, Tryz.ntmps9
  go_wp2_with fail
  refine (shownP_any w HG.out HN.out).mono ?_
  rintro e w1 ⟨rfl, b1⟩
  have B1 := Lib.hid b1
  clear b1
  go_wp2_with fail
  refine (cutB_any s w1).mono ?_
  rintro e w1' ⟨rfl, rfl⟩
  rw [HS.out]
  have K1 := Lib.hid (C1.out w1' (HA.out.below B1.out))
  clear C1
  go_wp2_with fail
  refine K1.out.mono ?_
  rintro e w2 ⟨o2, cap2, rfl, h2, b2⟩
  have B2 := Lib.hid (B1.out.trans (b2.mono B1.out.size))
  have H2 := Lib.hid h2
  have K2 := Lib.hid (C2.out w2 o2 cap2 h2 (HG.out.below B2.out) (HN.out.below B2.out))
  clear b2 h2 K1 C2
  go_wp2_with fail
  refine K2.out.mono ?_
  rintro e w3 ⟨b3, hc⟩
  have B3 := Lib.hid (B2.out.trans (b3.mono B2.out.size))
  have H3 := Lib.hid (H2.out.below b3)
  have K3 := Lib.hid (C3.out w3 o2 cap2 H3.out (HG.out.below B3.out) (HN.out.below B3.out))
  clear b3 K2 C3
  rcases hc with ⟨h3, rfl⟩ | ⟨h3, v, x, hv, hx, rfl⟩
  · obtain ⟨R1, R2, R3⟩ := R
    simp only at h3
    go_wp2_with fail
    refine K3.out.mono ?_
    rintro e w4 ⟨b4, hc⟩
    have B4 := Lib.hid (B3.out.trans (b4.mono B3.out.size))
    rcases hc with ⟨_, rfl⟩ | ⟨h4, _⟩
    · have hb : (((R3 : Nat) : Int) != 0) = true := by simp; omega
      clear b4 K3
      go_wp2
      go_ret
      exact ⟨rfl, B4.out⟩
    · exact absurd h4 h3
  · have hvals := HV.out h3
    have HX := Lib.hid hx
    have HVX : Hid (valueL T x = some v) := Lib.hid (valueL_get hvals.1.2.1 hx)
    have hxm := List.mem_of_getElem? hx
    have K4 := Lib.hid (fun W h => C4.out W o2 cap2 x hxm h)
    rw [HVX.out] at K4
    have HVV := Lib.hid hv
    have h3' := Lib.hid h3
    clear hvals hx hxm C4 HV hv h3
    go_wp2_with fail
    refine K3.out.mono ?_
    rintro e w4 ⟨b4, hc⟩
    have B4 := Lib.hid (B3.out.trans (b4.mono B3.out.size))
    have H4 := Lib.hid (H3.out.below b4)
    rcases hc with ⟨h4, _⟩ | ⟨h4, o3, t, q, k4, k5, k6, k7, rfl, k8⟩
    · exact absurd h3'.out h4
    · have hfi := Lib.hid (Find_any o3 t t.length r (by omega) (Nat.le_refl _) w4 k8)
      rw [lay_find k4 k5 k6] at hfi
      obtain ⟨fq, hq⟩ : ∃ q, ansF (findL R.1 r) = .tuple #[.int .i64 (v : Nat), .bool q] := by
        have hv := HVV.out
        cases hf : findL R.1 r with
        | none => rw [hf] at hv; simp at hv; have : v = 0 := by omega
                  subst this; exact ⟨_, rfl⟩
        | some u => rw [hf] at hv; simp at hv; subst hv; exact ⟨_, rfl⟩
      rw [hq] at hfi
      obtain ⟨tn, htn⟩ : ∃ x, t.length = x := ⟨_, rfl⟩
      rw [htn] at hfi
      rw [htn]
      clear hq htn k4 k5 k6 k7 k8 b4 K3
      go_wp2_with fail
      refine hfi.out.mono ?_
      rintro e w5 ⟨rfl, b5⟩
      have B5 := Lib.hid (B4.out.trans (b5.mono B4.out.size))
      have K5 := Lib.hid (K4.out w5 (H4.out.below b5))
      clear b5 hfi K4
      go_wp2_with fail
      refine K5.out.mono ?_
      rintro e w6 ⟨rfl, b6⟩
      have B6 := Lib.hid (B5.out.trans (b6.mono B5.out.size))
      clear b6 K5
      unfold ansV
      go_wp2
      go_ret
      exact ⟨rfl, B6.out⟩
end Go.Proofs.YtfgnpdfdncnbfaaGreatDoor
