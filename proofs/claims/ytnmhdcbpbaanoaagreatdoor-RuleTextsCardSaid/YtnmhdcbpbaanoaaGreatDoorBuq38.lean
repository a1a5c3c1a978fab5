/- Shaken by bunq.py. -/
import Derived.Test.YtnmhdcbpbaanoaaGreatDoorBuq26
import Derived.Test.YtnmhdcbpbaanoaaGreatDoorBuq28
import Derived.Test.YtnmhdcbpbaanoaaGreatDoorBuq36
namespace Go.Proofs.YtnmhdcbpbaanoaaGreatDoor
open Go.RowKit Go.Shelf Go.Maps
attribute [local go_sem] Oper.semAt_some

theorem parseU_few (ns : List ByteArray) (s : List UInt8) {xs : List RulX} (h : xs.map plX = (parseU ns s).1) : xs.length ≤ 40 ∧ FewC xs := by
  rcases parseU_cases ns s with ⟨_, h2⟩ | ⟨_, _, h2⟩
  · rw [h2] at h
    have h3 : xs = [] := List.map_eq_nil_iff.1 h
    rw [h3]
    exact ⟨by simp, fun x hx => (by cases hx)⟩
  · refine ⟨?_, fewC_of h fun r hr => rights_few h2 r hr⟩
    have h3 := (rights_parts h2).2.2.1
    rw [← h, List.length_map] at h3
    exact h3
set_option maxRecDepth 100000 in
set_option maxHeartbeats 8000000 in
theorem ruleTexts_anyL (o : Option Addr) (l : List RulX) (cap : Nat) (p : Option Addr) (lb : List RulX) (capb : Nat) (s : ByteArray) (ns : List ByteArray) (on : Option Addr) (ncap : Nat) (hnl : ns.length ≤ 9223372036854775807) (w : World) (aU aS : Addr) (hQ : GlobQ w aU aS) (hG : KGlob w) {m : Int} (hMx : w.cell? ⟨3, 0, none⟩ = some (.int .i64 m)) (hA : AtC w o l) (hI : ItsC w l) (hAb : AtC w p lb) (hIb : ItsC w lb) (hN : TxtAt w on ns) :
    Calls Tryz.prog 4 #[.slice o l.length cap, .slice p lb.length capb, .string s, .slice on ns.length ncap] w fun e w' => e = .returned (.bool true) ∧ Below w.heap.size w w' := by
  obtain ⟨P, hP⟩ : ∃ P, (fun (e : Ending) (w' : World) => e = .returned (.bool true) ∧ Below w.heap.size w w') = P := ⟨_, rfl⟩
  have HP := Lib.hid hP
  rw [hP]
  have HPP : Hid (∀ W, Below w.heap.size w W → P (.returned (.bool true)) W) := by rw [← HP.out]; exact Lib.hid fun W h => ⟨rfl, h⟩
  have HSH := Lib.hid (shownJ_any w aU aS hQ hG hMx)
  have HFW := Lib.hid (fun W (hb : Below w.heap.size w W) => Few_anyJ o l cap W (hA.below hb) (hI.below hb))
  have HFWb := Lib.hid (fun W (hb : Below w.heap.size w W) => Few_anyJ p lb capb W (hAb.below hb) (hIb.below hb))
  have HFN := Lib.hid (fun W (hb : Below w.heap.size w W) => fewT_capK ns hnl on ncap W (hN.below hb))
  unfold FewTCK at HFN
  have HIF := Lib.hid (itsC_few hI)
  have HFF := Lib.hid (fewC_few l)
  have hfl := fewL_len l
  have HIFb := Lib.hid (itsC_few hIb)
  have HFFb := Lib.hid (fewC_few lb)
  have hflb := fewL_len lb
  have hzF : ∀ s ∈ fewTK ns, s.size ≤ 1000 := fun s h => by have := fewT_leK ns s h; omega
  have hlF := fewT_lenK ns
  obtain ⟨N, hNN⟩ : ∃ N, fewTK ns = N := ⟨_, rfl⟩
  rw [hNN] at hzF hlF
  simp only [hNN] at HFN
  obtain ⟨F, hF⟩ : ∃ q, fewL l = q := ⟨_, rfl⟩
  rw [hF] at HFW HIF HFF hfl
  obtain ⟨G, hGG⟩ : ∃ q, fewL lb = q := ⟨_, rfl⟩
  rw [hGG] at HFWb HIFb HFFb hflb
  obtain ⟨kk, hkk⟩ : ∃ kk, min s.size 600 = kk := ⟨_, rfl⟩
  have HCUT := Lib.hid (fun W => cut_anyJ s kk hkk W)
  obtain ⟨C, hC⟩ : ∃ C, s.extract 0 kk = C := ⟨_, rfl⟩
  have hCs : C.size ≤ 1000 := by rw [← hC, ByteArray.size_extract]; omega
  rw [hC] at HCUT
  have KC : Hid (∀ (o' : Option Addr) (cap' : Nat) W, Below w.heap.size w W → TxtAt W o' N → Calls Tryz.prog 26 #[.string C, .slice o' N.length cap'] W fun e w' => ∃ o1 c1 xs, e = .returned (.tuple #[.slice o1 xs.length c1, .int .i64 (errLJ (parseU N C.data.toList).2), .int .i64 (errNJ (parseU N C.data.toList).2)]) ∧ Hid (xs.map plX = (parseU N C.data.toList).1) ∧ Hid (AtC w' o1 xs) ∧ Hid (ItsC w' xs) ∧ Hid (Below W.heap.size W w')) := Lib.hid fun o' cap' W hb ha => by
    refine (ParseJ_any C (by omega) o' N cap' (by omega) hzF W aU aS (hQ.below hb) (hG.below hb) ha (cell_keep hb hMx)).mono ?_
    rintro e w' ⟨v, xs, rfl, h1, h2, h3, _, h4⟩
    obtain ⟨o1, c1, rfl⟩ := own_form h2
    exact ⟨o1, c1, xs, rfl, Lib.hid h1, Lib.hid (atC_own h2 rfl), Lib.hid h3, Lib.hid h4⟩
  have KD : Hid (∀ (o' : Option Addr) (cap' : Nat) W, N.length ≤ cap' → TxtAt W o' N → Calls Tryz.prog 28 #[.string C, .slice o' N.length cap'] W fun e w' => ∃ o1 c1 xs, e = .returned (.tuple #[.slice o1 xs.length c1, .int .i64 (errLJ (parseU N C.data.toList).2), .int .i64 (errNJ (parseU N C.data.toList).2)]) ∧ Hid (xs.map plX = (parseU N C.data.toList).1) ∧ Hid (AtC w' o1 xs) ∧ Hid (ItsC w' xs) ∧ Hid (Below W.heap.size W w')) := Lib.hid fun o' cap' W hc ha => by
    refine (refParseJ_any C hCs o' N cap' (by omega) hc hzF W ha).mono ?_
    rintro e w' ⟨v, xs, rfl, h1, h2, h3, h4⟩
    obtain ⟨o1, c1, rfl⟩ := own_form h2
    exact ⟨o1, c1, xs, rfl, Lib.hid h1, Lib.hid (atC_own h2 rfl), Lib.hid h3, Lib.hid h4⟩
  have HPF := Lib.hid (fun xs h => parseU_few N C.data.toList (xs := xs) h)
  have KPR := Lib.hid (fun (oo o' : Option Addr) (cc cap' : Nat) W (hb : Below w.heap.size w W) (h1 : AtC W oo F) (h2 : ItsC W F) (ha : TxtAt W o' N) => PrintJ_any oo o' F N cc cap' (by omega) hzF (by omega) HFF.out W aU aS (hQ.below hb) (hG.below hb) h1 h2 ha)
  have KPS := Lib.hid (fun (oo o' : Option Addr) (cc cap' : Nat) W (hc : N.length ≤ cap') (h1 : AtC W oo F) (h2 : ItsC W F) (ha : TxtAt W o' N) => refPrintJ_any oo o' F N cc cap' (by omega) hc hzF (by omega) HFF.out W h1 h2 ha)
  obtain ⟨PC, hPC⟩ : ∃ q, parseU N C.data.toList = q := ⟨_, rfl⟩
  rw [hPC] at KC KD HPF
  obtain ⟨gl, hgl⟩ : ∃ q, errLJ PC.2 = q := ⟨_, rfl⟩
  obtain ⟨g, hg⟩ : ∃ q, errNJ PC.2 = q := ⟨_, rfl⟩
  rw [hgl, hg] at KC KD
  obtain ⟨U, hU⟩ : ∃ U : ByteArray, (⟨(printUV N (F.map plX)).toArray⟩ : ByteArray) = U := ⟨_, rfl⟩
  have e1 : strV (printUV N (F.map plX)) = .string U := congrArg Value.string hU
  rw [e1] at KPR KPS
  obtain ⟨ue, hue⟩ : ∃ q, printUE N (F.map plX) = q := ⟨_, rfl⟩
  rw [hue] at KPR KPS
  obtain ⟨n, hnn⟩ : ∃ q, N.length = q := ⟨_, rfl⟩
  rw [hnn] at KC KD KPR KPS hlF
  simp only [hnn] at HFN
  obtain ⟨nl, hnl2⟩ : ∃ q, l.length = q := ⟨_, rfl⟩
  obtain ⟨nm, hnm⟩ : ∃ q, lb.length = q := ⟨_, rfl⟩
  obtain ⟨nn, hnn2⟩ : ∃ q, ns.length = q := ⟨_, rfl⟩
  rw [hnl2] at HFW ⊢
  rw [hnm] at HFWb ⊢
  simp only [hnn2] at HFN
  rw [hnn2]
  clear hP HP hQ hG hMx hA hI hAb hIb hN hNN hF hGG hkk hC hCs hPC hgl hg hU e1 hue hnn hnl2 hnm hnn2 hnl hzF
  go_enter Tryz.func4, Tryz.ntmps4
  go_wp2_with fail
  refine HSH.out.mono ?_
  rintro e' w1 ⟨rfl, b1⟩
  have HB1 := Lib.hid b1
  clear b1
  go_wp2_with fail
  refine (HFW.out w1 HB1.out).mono ?_
  rintro e' w2 ⟨o2, c2, rfl, ho, b2⟩
  have HB2 := Lib.hid (HB1.out.trans (b2.mono HB1.out.size))
  have HA2 := Lib.hid (atC_own ho rfl)
  obtain ⟨nf, hnf⟩ : ∃ q, F.length = q := ⟨_, rfl⟩
  have HNF := Lib.hid hnf
  rw [hnf] at hfl KPR KPS ⊢
  clear ho b2 hnf HSH HFW
  go_wp2_with fail
  refine (HFWb.out w2 HB2.out).mono ?_
  rintro e' wq ⟨p2, d2, rfl, hob, bq⟩
  have HBq := Lib.hid (HB2.out.trans (bq.mono HB2.out.size))
  have HAq := Lib.hid (HA2.out.below bq)
  have HAbq := Lib.hid (atC_own hob rfl)
  obtain ⟨ng, hng⟩ : ∃ q, G.length = q := ⟨_, rfl⟩
  have HNG := Lib.hid hng
  rw [hng] at hflb ⊢
  clear hob bq hng HFWb HA2
  go_wp2_with fail
  refine (HFN.out wq HBq.out).mono ?_
  rintro e' w3 ⟨o3, c3, rfl, hc3, hn3, b3⟩
  have HB3 := Lib.hid (HBq.out.trans (b3.mono HBq.out.size))
  have HN3 := Lib.hid hn3
  have HA3 := Lib.hid (HAq.out.below b3)
  have HAb3 := Lib.hid (HAbq.out.below b3)
  have HI3 := Lib.hid (HIF.out.below HB3.out)
  have HIb3 := Lib.hid (HIFb.out.below HB3.out)
  have K4 := Lib.hid (KPR.out o2 o3 c2 c3 w3 HB3.out HA3.out HI3.out hn3)
  clear b3 hn3 HFN HAq HAbq HIF HIFb KPR
  go_wp2_with fail
  refine K4.out.mono ?_
  rintro e' w4 ⟨rfl, b4⟩
  have HD4 := Lib.hid b4
  have K4' := Lib.hid (KPS.out o2 o3 c2 c3 w4 hc3 (HA3.out.below b4) (HI3.out.below b4) (HN3.out.below b4))
  clear b4 K4 KPS
  go_wp2_with fail
  refine K4'.out.mono ?_
  rintro e' w5 ⟨rfl, b5⟩
  have HD5 := Lib.hid (HD4.out.trans (b5.mono HD4.out.size))
  clear b5 K4'
  go_wp2_with fail
  refine (HCUT.out w5).mono ?_
  rintro e' _ ⟨rfl, rfl⟩
  have K6 := Lib.hid (KC.out o3 c3 w5 (HB3.out.trans (HD5.out.mono HB3.out.size)) (HN3.out.below HD5.out))
  clear KC
  go_wp2_with fail
  refine K6.out.mono ?_
  rintro e' w6 ⟨o6, c6, xs, rfl, hm6, a6, i6, b6⟩
  have HD6 := Lib.hid (HD5.out.trans (b6.out.mono HD5.out.size))
  obtain ⟨hx1, hx2⟩ := HPF.out xs hm6.out
  obtain ⟨nx, hnx⟩ : ∃ q, xs.length = q := ⟨_, rfl⟩
  have HNX := Lib.hid hnx
  have HFX := Lib.hid hx2
  rw [hnx] at hx1 ⊢
  clear b6 K6 hnx hx2
  go_wp2_with fail
  refine (HCUT.out w6).mono ?_
  rintro e' _ ⟨rfl, rfl⟩
  have K7 := Lib.hid (KD.out o3 c3 w6 hc3 (HN3.out.below HD6.out))
  clear KD HCUT
  go_wp2_with fail
  refine K7.out.mono ?_
  rintro e' w7 ⟨o7, c7, ys, rfl, hm7, a7, i7, b7⟩
  have HD7 := Lib.hid (HD6.out.trans (b7.out.mono HD6.out.size))
  have K8 := Lib.hid (refSameJ_any o6 o7 xs ys c6 c7 (by rw [HNX.out]; omega) HFX.out (HPF.out ys hm7.out).2 w7 (a6.out.below b7.out) (i6.out.below b7.out) a7.out i7.out)
  rw [hm6.out, hm7.out, decide_eq_true rfl, HNX.out] at K8
  obtain ⟨ny, hny⟩ : ∃ q, ys.length = q := ⟨_, rfl⟩
  rw [hny] at K8 ⊢
  clear b7 K7 hny HPF hm6 hm7 a6 i6 a7 i7 HFX HNX hx1
  have K9 := Lib.hid (fun W (hb : Below w3.heap.size w3 W) => SameJ_any o2 p2 F G c2 d2 (by rw [HNF.out]; omega) HFF.out W (HA3.out.below hb) (HI3.out.below hb) (HAb3.out.below hb) (HIb3.out.below hb))
  have K10 := Lib.hid (fun W (hb : Below w3.heap.size w3 W) => refSameJ_any o2 p2 F G c2 d2 (by rw [HNF.out]; omega) HFF.out HFFb.out W (HA3.out.below hb) (HI3.out.below hb) (HAb3.out.below hb) (HIb3.out.below hb))
  have K11 := Lib.hid (fun W (hb : Below w3.heap.size w3 W) => SameJ_any o2 o2 F F c2 c2 (by rw [HNF.out]; omega) HFF.out W (HA3.out.below hb) (HI3.out.below hb) (HA3.out.below hb) (HI3.out.below hb))
  rw [decide_eq_true rfl] at K11
  obtain ⟨D, hD⟩ : ∃ D, decide (F.map plX = G.map plX) = D := ⟨_, rfl⟩
  rw [hD, HNF.out, HNG.out] at K9 K10
  rw [HNF.out] at K11
  clear hD HA3 HI3 HAb3 HIb3 HN3 HFF HFFb HNF HNG
  go_wp2_with fail
  refine K8.out.mono ?_
  rintro e' w8 ⟨rfl, b8⟩
  have HD8 := Lib.hid (HD7.out.trans (b8.mono HD7.out.size))
  have K9' := Lib.hid (K9.out w8 HD8.out)
  clear b8 K8 K9
  go_wp2_with fail
  refine K9'.out.mono ?_
  rintro e' w9 ⟨rfl, b9⟩
  have HD9 := Lib.hid (HD8.out.trans (b9.mono HD8.out.size))
  have K10' := Lib.hid (K10.out w9 HD9.out)
  clear b9 K9' K10
  go_wp2_with fail
  refine K10'.out.mono ?_
  rintro e' w10 ⟨rfl, b10⟩
  have HD10 := Lib.hid (HD9.out.trans (b10.mono HD9.out.size))
  have K11' := Lib.hid (K11.out w10 HD10.out)
  clear b10 K10' K11
  cases D <;>
  · go_wp2_with fail
    refine K11'.out.mono ?_
    rintro e' w11 ⟨rfl, b11⟩
    have HQ := Lib.hid (HPP.out w11 (HB3.out.trans ((HD10.out.trans (b11.mono HD10.out.size)).mono HB3.out.size)))
    clear b11 K11'
    go_wp2_with fail
    exact HQ.out
theorem ruleTexts_card (l : List RulX) (o : Option Addr) (cap : Nat) (lb : List RulX) (p : Option Addr) (capb : Nat) (s : ByteArray) (ns : List ByteArray) (on : Option Addr) (ncap : Nat) (_h0 : l.length ≤ cap) (_h1 : lb.length ≤ capb) (hnl : ns.length ≤ 9223372036854775807) (w : World) (aU aS : Addr) (hQ : GlobQ w aU aS) (hG : KGlob w) (hS : w.ShapedOpen Tryz.prog) (A0 : AtC w o l ∧ ItsC w l) (AB : AtC w p lb ∧ ItsC w lb) (A1 : TxtAt w on ns) :
    Calls Tryz.prog 4 #[.slice o l.length cap, .slice p lb.length capb, .string s, .slice on ns.length ncap] w fun e w' => e = .returned (.bool true) ∧ Below w.heap.size w w' := by
  obtain ⟨m, hMx⟩ := mx_shapedJ hS
  exact ruleTexts_anyL o l cap p lb capb s ns on ncap hnl w aU aS hQ hG hMx A0.1 A0.2 AB.1 AB.2 A1
end Go.Proofs.YtnmhdcbpbaanoaaGreatDoor
