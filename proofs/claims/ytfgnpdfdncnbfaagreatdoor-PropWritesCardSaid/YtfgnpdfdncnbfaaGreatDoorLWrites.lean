/- The document's own Write; PropWrites: maps' files. -/
import Derived.Test.YtfgnpdfdncnbfaaGreatDoorBunP25
import Derived.Test.YtfgnpdfdncnbfaaGreatDoorBunN21
import Derived.Test.YtfgnpdfdncnbfaaGreatDoorBunN24
import Derived.Test.YtfgnpdfdncnbfaaGreatDoorBunF23
namespace Go.Proofs.YtfgnpdfdncnbfaaGreatDoor
open Go.RowKit Go.Shelf Go.Maps
attribute [local go_sem] Oper.semAt_some
attribute [local go_sem ↓] app_hide

theorem haveL_more {n : Nat} {l : List Rng} {j : Nat} {x : Rng} (hx : l[j]? = some x) (h : haveL n (l.take j)) (hv : x.2.2 < (n : Nat)) : haveL n (l.take (j + 1)) := fun s hs => by
  rw [List.take_add_one, hx] at hs
  rcases List.mem_append.1 hs with h1 | h1
  · exact h s h1
  · simp at h1; rw [h1]; exact hv
set_option maxRecDepth 100000 in
set_option maxHeartbeats 4000000 in
theorem refWrite_any (o : Option Addr) (ns : List ByteArray) (cap : Nat) (ol : Option Addr) (l : List Rng) (capl : Nat) (hn : ns.length ≤ 1000) (hcn : ns.length ≤ cap) (hz : ∀ s ∈ ns, s.size ≤ 1000000) (hl : l.length ≤ 10000) (w : World) (hA : TxtAt w o ns) (hL : AtR w ol l) :
    Calls Tryz.prog 24 #[.slice ol l.length capl, .slice o ns.length cap] w (WriteA (writeR ns l) w) := by
  have C1 := Lib.hid (refNames_any o ns cap hn hcn hz w hA)
  have C2 := Lib.hid (fun w1 (b1 : Below w.heap.size w w1) => refRight_any ol l capl (by omega) w1 (hL.below b1))
  obtain ⟨P, hP⟩ : ∃ P, WriteA (writeR ns l) w = P := ⟨_, rfl⟩
  have HP := Lib.hid hP
  rw [hP]
  have HA := Lib.hid hA
  have HL := Lib.hid hL
  obtain ⟨n, hnn⟩ : ∃ n, ns.length = n := ⟨_, rfl⟩
  obtain ⟨m, hmm⟩ : ∃ m, l.length = m := ⟨_, rfl⟩
  have HN := Lib.hid hnn
  have HM := Lib.hid hmm
  rw [hnn] at hn hcn C1 ⊢
  rw [hmm] at hl C2 ⊢
  have BAD : Hid (∀ (q : Nat), writeR ns l = ([], q) → ∀ W, Below w.heap.size w W → P (.returned (.tuple #[.string ⟨#[]⟩, .int .i64 (q : Nat)])) W) := Lib.hid fun q h W hb => by
    rw [← HP.out, h]
    exact ⟨hb, rfl⟩
  obtain ⟨q1, hq1⟩ : ∃ q, decide (namesL ns) = q := ⟨_, rfl⟩
  obtain ⟨q2, hq2⟩ : ∃ q, decide (rightL l) = q := ⟨_, rfl⟩
  rw [hq1] at C1
  rw [hq2] at C2
  have HQ1 := Lib.hid hq1
  have HQ2 := Lib.hid hq2
  clear hP hA hL hnn hmm hz hq1 hq2
  go_enter Tryz.func24, Tryz.ntmps24
  go_wp2_with fail
  refine C1.out.mono ?_
  rintro e w1 ⟨rfl, qd, hw1⟩
  have B1 : Hid (Below w.heap.size w w1) := Lib.hid (by rw [hw1]; exact below_drewN w qd)
  clear hw1 C1
  cases q1 with
  | false =>
    have HQ := Lib.hid (BAD.out 2 (by unfold writeR; rw [if_neg (by have := HQ1.out; simpa using this)]) w1 B1.out)
    clear BAD C2
    go_wp2_with fail
    exact HQ.out
  | true =>
    have K2 := Lib.hid (C2.out w1 B1.out)
    clear C2
    go_wp2_with fail
    refine K2.out.mono ?_
    rintro e w2 ⟨rfl, b2⟩
    have B2 := Lib.hid (B1.out.trans (b2.mono B1.out.size))
    clear b2 K2
    have hnm : namesL ns := of_decide_eq_true HQ1.out
    have HNM := Lib.hid hnm
    cases q2 with
    | false =>
      have HQ := Lib.hid (BAD.out 22 (by unfold writeR; rw [if_pos hnm, if_neg (by have := HQ2.out; intro h; exact absurd h.1 (by simpa using this))]) w2 B2.out)
      clear BAD hnm
      go_wp2_with fail
      exact HQ.out
    | true =>
      have hri : rightL l := of_decide_eq_true HQ2.out
      have HRI := Lib.hid hri
      have hm6 : m ≤ 600 := by have := hri.2; rw [HM.out] at this; exact this
      clear hnm hri
      go_wp2_with fail
      go_loopg [6, 7] m (fun k v i wr => ∃ (j : Nat) (cs : List Value), i = .int .i64 (j : Nat) ∧ j ≤ m ∧ k = m - j ∧ Hid (wr.ownsRow w.heap.size 47 4 v j cs) ∧ Hid (RecsZ wr w.heap.size ((l.take j).map (wRec ns)) cs) ∧ Hid (haveL n (l.take j)) ∧ Hid (Below w.heap.size w wr))
      case atStart => exact ⟨0, [], rfl, Nat.zero_le _, rfl, Lib.hid (World.ownsRow_nil _ _ _ _), Lib.hid (recsZ_nil _ _), Lib.hid (fun s h => by simp at h), B2⟩
      case round =>
        obtain ⟨j, cs, rfl, hj, rfl, HO, HR, HH, HB⟩ := hrel
        have hwj : IntKind.i64.wrap (((j : Nat) : Int) + 1) = (j : Nat) + 1 := wrap_id (by omega) (by omega)
        rcases Nat.lt_or_ge j m with hlt | hge
        · have hj1 : j < 1000000 := by omega
          obtain ⟨x, hx⟩ : ∃ x, l[j]? = some x := ⟨_, List.getElem?_eq_getElem (by rw [HM.out]; exact hlt)⟩
          have hxm := List.mem_of_getElem? hx
          have hok := HRI.out.1.1 x hxm
          obtain ⟨g, off, rfl, hcc⟩ := (HL.out.below HB.out) (by rw [HM.out]; omega)
          obtain ⟨k0, k1, k2⟩ := hcc j x hx
          have hg := World.block_lt_of_cell? wr _ k0
          have HX := Lib.hid hx
          have HXM := Lib.hid hxm
          have HMO : (h : x.2.2 < (n : Nat)) → Hid (haveL n (l.take (j + 1))) := fun h => Lib.hid (haveL_more hx HH.out h)
          obtain ⟨xa, xb, xv⟩ := x
          obtain ⟨h1, h2, h3, h4, h5⟩ := hok
          simp only at k0 k1 k2 h1 h2 h3 h4 h5 HMO
          obtain ⟨v, rfl⟩ := Int.eq_ofNat_of_zero_le h4
          by_cases hhv : v < n
          · have HMM := HMO (by omega)
            obtain ⟨s, hs⟩ : ∃ s, ns[v]? = some s := ⟨_, List.getElem?_eq_getElem (by rw [HN.out]; omega)⟩
            obtain ⟨gn, offn, rfl, hcn⟩ := (HA.out.below HB.out) (by rw [HN.out]; omega)
            have hwx : wRec ns (xa, xb, ((v : Nat) : Int)) = (0, xa, xb, [s]) := by
              unfold wRec
              simp [List.getD, hs]
            have ba : Below wr.heap.size wr wr.drew := (Below.refl _ _).drew
            have c4 := hcn v s hs
            have hgn := World.block_lt_of_cell? _ _ c4
            obtain ⟨ov, capv, rfl⟩ := own_form HO.out
            obtain ⟨o', cap', w6, cs', hrun, own6, rec6, bel6⟩ := wrec_own (ns := ns) (W := wr.drew) hwx (own_below HO.out ba) (HR.out.moves (Moves.of_below (S := fun _ => False) ba) fun _ _ _ => id) (by omega) HB.out.size
            have HB6 : Hid (Below w.heap.size w w6) := Lib.hid (HB.out.trans ((ba.mono HB.out.size).trans bel6))
            have HO6 := Lib.hid own6
            have HR6 : Hid (RecsZ w6 w.heap.size ((l.take (j + 1)).map (wRec ns)) cs') := Lib.hid (by
              rw [List.take_add_one, HX.out, List.map_append]
              exact rec6)
            have hrun2 : (appSem #[43, 43] 43 #[.slice ov j capv, .slice (some ⟨wr.heap.size + 1, 0, none⟩) 1 1]).run Tryz.prog ((((wr.alloc (.cells #[.string s] 9)).alloc (recO 0 xa xb (.slice (some ⟨wr.heap.size, 0, none⟩) 1 1)))).drew) = .ok (.slice o' (j + 1) cap') w6 := hrun
            have hge2 : ¬ ((v : Nat) : Int) ≥ ((n : Nat) : Int) := by omega
            clear hcc hx ba own6 rec6 bel6 hcn hs hwx hxm hrun HMO BAD
            go_wp2_with fail
            go_region
            go_wp2
            go_roundg (m - (j + 1))
            case measure => omega
            case rel => exact ⟨j + 1, cs', by simp, by omega, rfl, HO6, HR6, HMM, HB6⟩
          · have HQ := Lib.hid (BAD.out 22 (by unfold writeR; rw [if_pos HNM.out, if_neg (fun h => by have := h.2 _ HXM.out; rw [HN.out] at this; simp only at this; omega)]) wr HB.out)
            have hge2 : ((v : Nat) : Int) ≥ ((n : Nat) : Int) := by omega
            clear hcc hx hxm HMO BAD
            go_wp2_with fail
            exact HQ.out
        · obtain rfl : j = m := by omega
          have hall : l.take j = l := List.take_of_length_le (by rw [HM.out]; exact Nat.le_refl _)
          have hr := HR.out
          have hh := HH.out
          rw [hall] at hr hh
          obtain ⟨ov, capv, rfl⟩ := own_form HO.out
          have hlen : (l.map (wRec ns)).length = j := by rw [List.length_map, HM.out]
          have hsm : (printX (l.map (wRec ns))).length ≤ 1000000 := by
            rw [wRec_print HRI.out.1.1]
            have := wRec_len HNM.out HRI.out.1.1 (by rw [HN.out]; exact hh)
            rw [HM.out] at this
            omega
          have hin : ∀ x ∈ l.map (wRec ns), In64 x.2.1 ∧ In64 x.2.2.1 := fun y hy => by
            obtain ⟨x, hx, rfl⟩ := List.mem_map.1 hy
            obtain ⟨h1, h2, h3, _⟩ := HRI.out.1.1 x hx
            have e63 : (2 : Int) ^ 63 = 9223372036854775808 := by decide
            unfold In64 wRec
            simp only
            omega
          have hfs : ∀ x ∈ l.map (wRec ns), x.2.2.2.length ≤ 1000000 := fun y hy => by
            obtain ⟨x, hx, rfl⟩ := List.mem_map.1 hy
            unfold wRec
            simp
          have hpr := rprint_any (l.map (wRec ns)) hin hfs hsm ov w.heap.size capv cs wr (by rw [hlen]; exact HO.out) hr.toG.toX (by omega)
          rw [hlen] at hpr
          have HPR := Lib.hid hpr
          have HQ : Hid (∀ q, P (.returned (.tuple #[strV (printX (l.map (wRec ns))), .int .i64 0])) (wr.drewN q)) := by
            rw [← HP.out]
            unfold writeR
            rw [if_pos HNM.out, if_pos ⟨HRI.out, by rw [HN.out]; exact hh⟩]
            exact Lib.hid fun q => ⟨HB.out.trans ((below_drewN wr q).mono HB.out.size), rfl⟩
          obtain ⟨sv, hsv⟩ : ∃ sv, strV (printX (l.map (wRec ns))) = sv := ⟨_, rfl⟩
          rw [hsv] at HPR HQ
          clear hpr hin hfs hsm hr hh hall hlen HO HR hsv
          go_wp2_with fail
          refine HPR.out.mono ?_
          rintro e w5 ⟨rfl, q5, rfl⟩
          have HF := Lib.hid (HQ.out q5)
          clear HPR HQ
          go_wp2_with fail
          exact HF.out
set_option maxRecDepth 100000 in
set_option maxHeartbeats 2000000 in
theorem writes_law (ol : Option Addr) (l : List Rng) (capl : Nat) (o : Option Addr) (ns : List ByteArray) (cap : Nat) (hn : ns.length ≤ 9223372036854775807) (hc : l.length ≤ capl) (w : World) {mx : Int} (hG : FGlob w mx) (hN : NGlob w) (hL : AtR w ol l) (hA : TxtAt w o ns) :
    Calls Tryz.prog 4 #[.slice ol l.length capl, .slice o ns.length cap] w fun e w' => e = .returned (.bool true) ∧ Below w.heap.size w w' := by
  have C0 := Lib.hid (few_anyN ol l capl hc)
  have C1 := Lib.hid (fun W (h : TxtAt W o ns) => fewT_cap ns hn o cap W h)
  unfold FewTC at C1
  have HL := Lib.hid (hL.take 40)
  have zL : (l.take 40).length ≤ 40 ∧ (l.take 40).length ≤ capl := by rw [List.length_take]; omega
  obtain ⟨L, hLL⟩ : ∃ L, l.take 40 = L := ⟨_, rfl⟩
  rw [hLL] at C0 HL zL
  obtain ⟨T, hT⟩ : ∃ T, fewT ns = T := ⟨_, rfl⟩
  have zT : T.length ≤ 34 := by rw [← hT]; exact fewT_len ns
  have yT : ∀ s ∈ T, s.size ≤ 1000000 := by rw [← hT]; exact fun s h => Nat.le_trans (fewT_le ns s h) (by omega)
  rw [hT] at C1
  have C2 := Lib.hid (fun W o c (h : TxtAt W o T) (hG : FGlob W mx) (hL : AtR W ol L) => Write_any o T c ol L capl (by omega) yT (by omega) zL.2 W h hG hL)
  have C3 := Lib.hid (fun W o c (hcn : T.length ≤ c) (h : TxtAt W o T) (hL : AtR W ol L) => refWrite_any o T c ol L capl (by omega) hcn yT (by omega) W h hL)
  obtain ⟨R, hR⟩ : ∃ R, writeR T L = R := ⟨_, rfl⟩
  rw [hR] at C2 C3
  obtain ⟨n, hnn⟩ : ∃ n, ns.length = n := ⟨_, rfl⟩
  obtain ⟨m, hmm⟩ : ∃ n, T.length = n := ⟨_, rfl⟩
  obtain ⟨p, hpp⟩ : ∃ n, l.length = n := ⟨_, rfl⟩
  obtain ⟨q, hqq⟩ : ∃ n, L.length = n := ⟨_, rfl⟩
  rw [hnn] at C1
  rw [hmm] at C1 C2 C3 zT
  rw [hpp] at C0
  rw [hqq] at C0 C2 C3 zL
  rw [hnn, hpp]
  obtain ⟨R1, R2⟩ := R
  obtain ⟨sv, hsv⟩ : ∃ s : ByteArray, bytes1 R1 = s := ⟨_, rfl⟩
  have HSV : Hid (strV R1 = .string sv) := Lib.hid (by rw [← hsv])
  have HA := Lib.hid hA
  have HN := Lib.hid hN
  have HG := Lib.hid hG
  clear hLL hT hR hnn hmm hpp hqq hA hN hG hL yT hsv
  go_enter Tryz.func4, Tryz.ntmps4
  go_wp2_with fail
  refine (shownP_any w HG.out HN.out).mono ?_
  rintro e w1 ⟨rfl, b1⟩
  have B1 := Lib.hid b1
  have K0 := Lib.hid (C0.out w1)
  clear b1 C0
  go_wp2_with fail
  refine K0.out.mono ?_
  rintro e w1' ⟨rfl, rfl⟩
  have K1 := Lib.hid (C1.out w1 (HA.out.below B1.out))
  clear K0 C1
  go_wp2_with fail
  refine K1.out.mono ?_
  rintro e w2 ⟨o2, cap2, rfl, hcp, h2, b2⟩
  have B2 := Lib.hid (B1.out.trans (b2.mono B1.out.size))
  have H2 := Lib.hid h2
  have HCP := Lib.hid hcp
  have K2 := Lib.hid (C2.out w2 o2 cap2 h2 (HG.out.below B2.out) (HL.out.below B2.out))
  clear b2 h2 K1 C2 hcp
  go_wp2_with fail
  refine K2.out.mono ?_
  rintro e w3 ⟨b3, rfl⟩
  have B3 := Lib.hid (B2.out.trans (b3.mono B2.out.size))
  have H3 := Lib.hid (H2.out.below b3)
  have K3 := Lib.hid (C3.out w3 o2 cap2 HCP.out H3.out (HL.out.below B3.out))
  clear b3 K2 C3
  simp only [HSV.out]
  go_wp2_with fail
  refine K3.out.mono ?_
  rintro e w4 ⟨b4, rfl⟩
  have B4 := Lib.hid (B3.out.trans (b4.mono B3.out.size))
  clear b4 K3
  simp only [HSV.out]
  go_wp2
  go_ret
  exact ⟨rfl, B4.out⟩
end Go.Proofs.YtfgnpdfdncnbfaaGreatDoor
