/- PatternBack. -/
import Derived.Test.YtcgljfmknggdoaaGreatDoorBunA19
namespace Go.Proofs.YtcgljfmknggdoaaGreatDoor
open Go.RowKit Go.Shelf Go.Maps
attribute [local go_sem] Oper.semAt_some

theorem textP_len {ns : List ByteArray} (hn : namesL ns) (hz : ∀ s ∈ ns, s.size ≤ 1000) {start : Bool} {xs : List ItemP} (hr : rightB xs (ns.length : Nat) = true) : (textP ns start xs).length ≤ 1000000 := by
  obtain ⟨_, h10, hall⟩ := rightB_parts hr
  have h1 := join_len 32 (partsT ns start xs) 40002 (partsT_len hz hn.2.2.2 fun x hx => (hall x hx).2)
  have h2 : (partsT ns start xs).length ≤ 11 := by
    unfold partsT
    rw [List.length_append, List.length_map]
    cases start <;> simp <;> omega
  have h3 : (partsT ns start xs).length * (40002 + 1) ≤ 11 * 40003 := Nat.mul_le_mul_right _ h2
  unfold textP
  omega
theorem print_cases (ns : List ByteArray) (start : Bool) (xs : List ItemP) : (printPE ns xs = 0 ∧ namesL ns ∧ rightB xs (ns.length : Nat) = true ∧ printPV ns start xs = textP ns start xs) ∨ (printPE ns xs ≠ 0 ∧ printPV ns start xs = []) := by
  unfold printPE printPV
  by_cases h1 : namesL ns
  · by_cases h2 : rightB xs (ns.length : Nat) = true
    · rw [if_pos h1, if_pos h2, if_pos h1, if_pos h2]
      exact .inl ⟨rfl, h1, h2, rfl⟩
    · rw [if_pos h1, if_neg h2, if_pos h1, if_neg h2]
      exact .inr ⟨by decide, rfl⟩
  · rw [if_neg h1, if_neg h1]
    exact .inr ⟨by decide, rfl⟩
theorem parse_casesP (ns : List ByteArray) (s : List UInt8) : (parsePE ns s = 0 ∧ namesL ns ∧ rightB (parsePV ns s).2 (ns.length : Nat) = true) ∨ (parsePE ns s ≠ 0 ∧ parsePV ns s = (false, [])) := by
  unfold parsePE parsePV
  by_cases h1 : namesL ns
  · rw [if_pos h1, if_pos h1]
    cases h2 : readP ns s with
    | none => exact .inr ⟨by decide, rfl⟩
    | some r =>
      obtain ⟨st, xs⟩ := r
      exact .inl ⟨rfl, h1, readP_right h1 h2⟩
  · rw [if_neg h1, if_neg h1]
    exact .inr ⟨by decide, rfl⟩
theorem parse_printP {ns : List ByteArray} (hn : namesL ns) {start : Bool} {xs : List ItemP} (h : rightB xs (ns.length : Nat) = true) : parsePV ns (textP ns start xs) = (start, xs) ∧ parsePE ns (textP ns start xs) = 0 := by
  unfold parsePV parsePE
  rw [if_pos hn, if_pos hn, read_textP hn h]
  exact ⟨rfl, rfl⟩
set_option maxRecDepth 100000 in
set_option maxHeartbeats 40000000 in
theorem back_anyL (st : Bool) (xs : List ItemP) (o : Option Addr) (cap : Nat) (s : ByteArray) (ns : List ByteArray) (on : Option Addr) (ncap : Nat) (hxc : xs.length ≤ cap) (hnl : ns.length ≤ 9223372036854775807) (w : World) (aU aS : Addr) (hQ : GlobQ w aU aS) (hG : KGlob w) (hX : ItsInQ w o xs) (hN : TxtAt w on ns) :
    Calls Tryz.prog 5 #[patV st o xs.length cap, .string s, .slice on ns.length ncap] w fun e w' => e = .returned (.bool true) ∧ Below w.heap.size w w' := by
  obtain ⟨wa, hwa⟩ : ∃ wa, w.alloc (patO st o xs.length cap) = wa := ⟨_, rfl⟩
  have ba : Below w.heap.size w wa := by rw [← hwa]; exact (Below.refl _ _).alloc (Nat.le_refl _) _
  have ra : wa.heap[w.heap.size]? = some (patO st o xs.length cap) := by rw [← hwa]; exact heap_alloc_new _ _
  have HSH := Lib.hid (shownQ_any wa aU aS (hQ.below ba) (hG.below ba))
  have HCU := Lib.hid (fun W => cutP_any st o xs cap hxc W)
  have HFW := Lib.hid (fun W (hb : Below w.heap.size w W) => fewT_capK ns hnl on ncap W (hN.below hb))
  unfold FewTCK at HFW
  obtain ⟨X, hXX⟩ : ∃ X, xs.take 12 = X := ⟨_, rfl⟩
  have h12 : X.length ≤ 12 := by rw [← hXX, List.length_take]; omega
  have HAX : Hid (∀ W, Below w.heap.size w W → AtI W o X) := Lib.hid fun W hb => by rw [← hXX]; exact (hX.1.below hb).take 12
  rw [hXX] at HCU
  have hzF : ∀ s ∈ fewTK ns, s.size ≤ 1000 := fun s h => by have := fewT_leK ns s h; omega
  have hlF := fewT_lenK ns
  obtain ⟨N, hNN⟩ : ∃ N, fewTK ns = N := ⟨_, rfl⟩
  rw [hNN] at hzF hlF
  simp only [hNN] at HFW
  obtain ⟨kk, hkk⟩ : ∃ kk, min s.size 300 = kk := ⟨_, rfl⟩
  have i1 : min ((s.size : Nat) : Int) 300 = ((kk : Nat) : Int) := by omega
  have i2 : kk ≤ s.size := by omega
  have i3 : kk ≤ 300 := by omega
  obtain ⟨C, hC⟩ : ∃ C, s.extract 0 kk = C := ⟨_, rfl⟩
  have hCs : C.size ≤ 1000000 := by rw [← hC]; simp [ByteArray.size_extract]; omega
  have KP : Hid (∀ (o' : Option Addr) (cap' : Nat) W, Below w.heap.size w W → TxtAt W o' N → Calls Tryz.prog 24 #[patV st o X.length cap, .slice o' N.length cap'] W fun e w' => e = .returned (.tuple #[strV (printPV N st X), .int .i64 (printPE N X)]) ∧ Below W.heap.size W w') := Lib.hid fun o' cap' W hb ha =>
    Print_anyQ st o o' X N cap cap' (by omega) hzF (by omega) W aU aS (hQ.below hb) (hG.below hb) (HAX.out W hb) ha
  have KR : Hid (∀ (u : ByteArray) (o' : Option Addr) (cap' : Nat) W, u.size ≤ 1000000 → Below w.heap.size w W → TxtAt W o' N → Calls Tryz.prog 26 #[.string u, .slice o' N.length cap'] W (ParseR N u.data.toList (.int .i64 (parsePE N u.data.toList)) W)) := Lib.hid fun u o' cap' W hu hb ha =>
    Parse_anyQ u hu o' N cap' (by omega) hzF W aU aS (hQ.below hb) (hG.below hb) ha
  have hpc := print_cases N st X
  have hcc := parse_casesP N C.data.toList
  obtain ⟨U, hU⟩ : ∃ U : ByteArray, (⟨(printPV N st X).toArray⟩ : ByteArray) = U := ⟨_, rfl⟩
  have hUd : U.data.toList = printPV N st X := by rw [← hU]
  have hUs : U.size ≤ 1000000 := by
    have : U.size = (printPV N st X).length := by rw [← hUd]; exact Array.length_toList.symm
    rw [this]
    rcases hpc with ⟨_, h1, h2, h3⟩ | ⟨_, h3⟩
    · rw [h3]; exact textP_len h1 hzF h2
    · rw [h3]; simp
  -- what is parsed of the printed text
  have FACT : ∃ (e f : Int) (v : Bool × List ItemP), printPE N X = e ∧ parsePE N U.data.toList = f ∧ parsePV N U.data.toList = v ∧ ((e = 0 ∧ f = 0 ∧ v = (st, X)) ∨ (e ≠ 0 ∧ U = ⟨#[]⟩)) := by
    refine ⟨_, _, _, rfl, rfl, rfl, ?_⟩
    rcases hpc with ⟨h1, h2, h3, h4⟩ | ⟨h1, h2⟩
    · have := parse_printP (start := st) h2 h3
      rw [hUd, h4]
      exact .inl ⟨h1, this.2, this.1⟩
    · exact .inr ⟨h1, by rw [← hU, h2]⟩
  obtain ⟨e, f, v, f1, f2, f3, f4⟩ := FACT
  have KU : Hid (∀ (o' : Option Addr) (cap' : Nat) W, Below w.heap.size w W → TxtAt W o' N → Calls Tryz.prog 26 #[.string U, .slice o' N.length cap'] W fun e w' => ∃ o1 c1, e = .returned (.tuple #[patV v.1 o1 v.2.length c1, .int .i64 f]) ∧ AtI w' o1 v.2 ∧ Below W.heap.size W w') := Lib.hid fun o' cap' W hb ha => by
    refine (KR.out U o' cap' W hUs hb ha).mono ?_
    rintro e w' ⟨o1, c1, he, h1, _, _, h2⟩
    rw [f3] at he h1
    rw [f2] at he
    exact ⟨o1, c1, he, h1, h2⟩
  obtain ⟨z, hz⟩ : ∃ z, parsePV N C.data.toList = z := ⟨_, rfl⟩
  obtain ⟨g, hg⟩ : ∃ g, parsePE N C.data.toList = g := ⟨_, rfl⟩
  have KV : Hid (∀ (o' : Option Addr) (cap' : Nat) W, Below w.heap.size w W → TxtAt W o' N → Calls Tryz.prog 26 #[.string C, .slice o' N.length cap'] W fun e w' => ∃ o1 c1, e = .returned (.tuple #[patV z.1 o1 z.2.length c1, .int .i64 g]) ∧ AtI w' o1 z.2 ∧ Below W.heap.size W w') := Lib.hid fun o' cap' W hb ha => by
    refine (KR.out C o' cap' W hCs hb ha).mono ?_
    rintro e w' ⟨o1, c1, he, h1, _, _, h2⟩
    rw [hz] at he h1
    rw [hg] at he
    exact ⟨o1, c1, he, h1, h2⟩
  rw [hz, hg] at hcc
  rw [f1] at KP
  have KP' : Hid (∀ (o' : Option Addr) (cap' : Nat) W, Below w.heap.size w W → TxtAt W o' N → Calls Tryz.prog 24 #[patV st o X.length cap, .slice o' N.length cap'] W fun e' w' => e' = .returned (.tuple #[.string U, .int .i64 e]) ∧ Below W.heap.size W w') := by rw [← hU]; exact KP
  obtain ⟨n, hnn⟩ : ∃ n, N.length = n := ⟨_, rfl⟩
  obtain ⟨m, hm⟩ : ∃ m, ns.length = m := ⟨_, rfl⟩
  obtain ⟨k, hk⟩ : ∃ k, X.length = k := ⟨_, rfl⟩
  obtain ⟨q, hq⟩ : ∃ q, xs.length = q := ⟨_, rfl⟩
  have HK := Lib.hid hk
  have hzl : ∀ r, z.2.length ≤ r + z.2.length := fun r => by omega
  have KRT : Hid (∀ (o1 : Option Addr) c1 W, AtI W o1 z.2 → z.2.length ≤ 1000000 → Calls Tryz.prog 13 #[patV z.1 o1 z.2.length c1, .int .i64 (n : Nat)] W fun e w' => e = .returned (.bool (rightB z.2 ((n : Nat) : Int))) ∧ Below W.heap.size W w') := Lib.hid fun o1 c1 W ha hl => Right_anyQ z.1 o1 z.2 c1 ((n : Nat) : Int) hl W ha
  have KSM : Hid (∀ (o1 : Option Addr) c1 W, Below w.heap.size w W → AtI W o1 X → Calls Tryz.prog 21 #[patV st o k cap, patV st o1 k c1] W fun e w' => e = .returned (.bool true) ∧ Below W.heap.size W w') := Lib.hid fun o1 c1 W hb ha => by
    have := Same_anyQ st st o o1 X X cap c1 (by omega) W (HAX.out W hb) ha
    rw [show sameB st st X X = true from by unfold sameB; simp, hk] at this
    exact this
  rw [hnn] at KU KV KP' hcc hlF
  simp only [hnn] at HFW
  simp only [hm] at HFW
  rw [hk, hq] at HCU
  rw [hk] at KP' h12
  rw [hq] at ra hwa hxc ⊢
  rw [hm]
  have HBA := Lib.hid ba
  have HRA := Lib.hid ra
  have HWA := Lib.hid hwa
  clear hQ hG hX hN hXX hNN hkk hCs hpc hU hUd hUs f1 f2 f3 hz hg hnn hm hk hq KP KR ba ra hwa hxc hnl hzF hzl
  have hw1 : ∀ {e : Int}, e ≠ 0 → (e == 0) = false := fun h => by simpa using h
  rcases f4 with ⟨rfl, rfl, rfl⟩ | ⟨he, rfl⟩
  · have KU' : Hid (∀ (o' : Option Addr) (cap' : Nat) W, Below w.heap.size w W → TxtAt W o' N → Calls Tryz.prog 26 #[.string U, .slice o' n cap'] W fun e w' => ∃ o1 c1, e = .returned (.tuple #[patV st o1 k c1, .int .i64 0]) ∧ AtI w' o1 X ∧ Below W.heap.size W w') := by
      have h := KU
      simp only [HK.out] at h
      exact h
    clear KU
    rcases hcc with ⟨rfl, _, hrb⟩ | ⟨hgne, rfl⟩
    · obtain ⟨zs, zz⟩ := z
      obtain ⟨zl, hzl⟩ : ∃ zl, zz.length = zl := ⟨_, rfl⟩
      have hz10 := (rightB_parts hrb).2.1
      have KV' : Hid (∀ (o' : Option Addr) (cap' : Nat) W, Below w.heap.size w W → TxtAt W o' N → Calls Tryz.prog 26 #[.string C, .slice o' n cap'] W fun e w' => ∃ o1 c1, e = .returned (.tuple #[patV zs o1 zl c1, .int .i64 0]) ∧ AtI w' o1 zz ∧ Below W.heap.size W w') := by
        have h := KV
        simp only [hzl] at h
        exact h
      have KRT' : Hid (∀ (o1 : Option Addr) c1 W, AtI W o1 zz → Calls Tryz.prog 13 #[patV zs o1 zl c1, .int .i64 (n : Nat)] W fun e w' => e = .returned (.bool true) ∧ Below W.heap.size W w') := Lib.hid fun o1 c1 W ha => by
        have := KRT.out o1 c1 W ha (by simp only at hz10 ⊢; omega)
        rw [hrb] at this
        simp only [hzl] at this
        exact this
      clear KV KRT hrb hzl hz10
      clear hw1
      go_enter Tryz.func5, Tryz.ntmps5
      go_wp2_with fail
      rw [HWA.out]
      refine HSH.out.mono ?_
      rintro e' w1 ⟨rfl, b1⟩
      have HB1 := Lib.hid (HBA.out.trans (b1.mono HBA.out.size))
      have HR1 := Lib.hid (row_below HRA.out b1)
      obtain ⟨p0, p1⟩ := pat_cells HR1.out
      clear b1
      go_wp2_with fail
      refine (HCU.out w1).mono ?_
      rintro e' w2 ⟨rfl, b2⟩
      have B2 := HB1.out.trans (b2.mono HB1.out.size)
      have r2 := row_below HR1.out b2
      obtain ⟨t0, t1⟩ := pat_cells r2
      have f0 := frozen_of_row w2 w.heap.size 0 _ _ r2
      have f1 := frozen_of_row w2 w.heap.size 1 _ _ r2
      obtain ⟨r3, m3⟩ := two_set (.bool st) (.slice o k cap) r2
      obtain ⟨w3, hw3⟩ : ∃ w3, (w2.setCell ⟨w.heap.size, 0, none⟩ (.bool st)).setCell ⟨w.heap.size, 1, none⟩ (.slice o k cap) = w3 := ⟨_, rfl⟩
      rw [hw3] at r3 m3
      have HB3 := Lib.hid (Moves.below B2 B2.size m3 (fun k hk => by omega))
      have HR3 := Lib.hid r3
      have HW3 := Lib.hid hw3
      clear b2 B2 r2 r3 m3 hw3 p0 p1
      go_wp2_with fail
      rw [HW3.out]
      refine (HFW.out w3 HB3.out).mono ?_
      rintro e' w4 ⟨o4, c4, rfl, _, a4, b4⟩
      have HB4 := Lib.hid (HB3.out.trans (b4.mono HB3.out.size))
      have HA4 := Lib.hid a4
      have HR4 := Lib.hid (row_below HR3.out b4)
      have HCP := Lib.hid (KP'.out o4 c4 w4 HB4.out a4)
      obtain ⟨p0, p1⟩ := pat_cells HR4.out
      clear b4 a4 t0 t1 f0 f1
      go_wp2_with fail
      refine HCP.out.mono ?_
      rintro e' w5 ⟨rfl, b5⟩
      have HB5 := Lib.hid (HB4.out.trans (b5.mono HB4.out.size))
      have HA5 := Lib.hid (HA4.out.below b5)
      have HR5 := Lib.hid (row_below HR4.out b5)
      have HCU2 := Lib.hid (KU'.out o4 c4 w5 HB5.out HA5.out)
      clear b5 p0 p1
      go_wp2_with fail
      refine HCU2.out.mono ?_
      rintro e' w6 ⟨o6, c6, rfl, a6, b6⟩
      obtain ⟨w7, hw7⟩ : ∃ w7, w6.alloc (patO st o6 k c6) = w7 := ⟨_, rfl⟩
      have d7 : Below w6.heap.size w6 w7 := by rw [← hw7]; exact (Below.refl _ _).alloc (Nat.le_refl _) _
      have r6 := row_below HR5.out b6
      have b57 := b6.trans (d7.mono b6.size)
      have HB7 := Lib.hid (HB5.out.trans (b57.mono HB5.out.size))
      have HA7 := Lib.hid (HA5.out.below b57)
      have HW7 := Lib.hid hw7
      obtain ⟨p0, p1⟩ := pat_cells r6
      have hlt6 := (Array.getElem?_eq_some_iff.1 r6).1
      have HSM := Lib.hid (KSM.out o6 c6 w7 HB7.out (a6.below d7))
      clear a6 b6 d7 r6 b57 hw7
      go_wp2_with fail
      rw [HW7.out]
      refine HSM.out.mono ?_
      rintro e' w8 ⟨rfl, b8⟩
      have HB8 := Lib.hid (HB7.out.trans (b8.mono HB7.out.size))
      have HA8 := Lib.hid (HA7.out.below b8)
      have HCV := Lib.hid (KV'.out o4 c4 w8 HB8.out HA8.out)
      clear b8 p0 p1 hlt6
      go_wp2_with fail
      refine HCV.out.mono ?_
      rintro e' w9 ⟨o9, c9, rfl, a9, b9⟩
      obtain ⟨w10, hw10⟩ : ∃ w10, w9.alloc (patO zs o9 zl c9) = w10 := ⟨_, rfl⟩
      have d10 : Below w9.heap.size w9 w10 := by rw [← hw10]; exact (Below.refl _ _).alloc (Nat.le_refl _) _
      have HB10 := Lib.hid (HB8.out.trans ((b9.trans (d10.mono b9.size)).mono HB8.out.size))
      have HRT := Lib.hid (KRT'.out o9 c9 w10 (a9.below d10))
      have HW10 := Lib.hid hw10
      clear a9 b9 d10 hw10
      go_wp2_with fail
      rw [HW10.out]
      refine HRT.out.mono ?_
      rintro e' w11 ⟨rfl, b11⟩
      have HB11 := Lib.hid (HB10.out.trans (b11.mono HB10.out.size))
      clear b11
      go_wp2
      first | exact ⟨rfl, HB11.out⟩ | (go_ret; exact ⟨rfl, HB11.out⟩)
    · have hgb := hw1 hgne
      have KV' : Hid (∀ (o' : Option Addr) (cap' : Nat) W, Below w.heap.size w W → TxtAt W o' N → Calls Tryz.prog 26 #[.string C, .slice o' n cap'] W fun e w' => ∃ o1 c1, e = .returned (.tuple #[patV false o1 0 c1, .int .i64 g]) ∧ AtI w' o1 [] ∧ Below W.heap.size W w') := KV
      clear KV KRT
      clear hw1
      go_enter Tryz.func5, Tryz.ntmps5
      go_wp2_with fail
      rw [HWA.out]
      refine HSH.out.mono ?_
      rintro e' w1 ⟨rfl, b1⟩
      have HB1 := Lib.hid (HBA.out.trans (b1.mono HBA.out.size))
      have HR1 := Lib.hid (row_below HRA.out b1)
      obtain ⟨p0, p1⟩ := pat_cells HR1.out
      clear b1
      go_wp2_with fail
      refine (HCU.out w1).mono ?_
      rintro e' w2 ⟨rfl, b2⟩
      have B2 := HB1.out.trans (b2.mono HB1.out.size)
      have r2 := row_below HR1.out b2
      obtain ⟨t0, t1⟩ := pat_cells r2
      have f0 := frozen_of_row w2 w.heap.size 0 _ _ r2
      have f1 := frozen_of_row w2 w.heap.size 1 _ _ r2
      obtain ⟨r3, m3⟩ := two_set (.bool st) (.slice o k cap) r2
      obtain ⟨w3, hw3⟩ : ∃ w3, (w2.setCell ⟨w.heap.size, 0, none⟩ (.bool st)).setCell ⟨w.heap.size, 1, none⟩ (.slice o k cap) = w3 := ⟨_, rfl⟩
      rw [hw3] at r3 m3
      have HB3 := Lib.hid (Moves.below B2 B2.size m3 (fun k hk => by omega))
      have HR3 := Lib.hid r3
      have HW3 := Lib.hid hw3
      clear b2 B2 r2 r3 m3 hw3 p0 p1
      go_wp2_with fail
      rw [HW3.out]
      refine (HFW.out w3 HB3.out).mono ?_
      rintro e' w4 ⟨o4, c4, rfl, _, a4, b4⟩
      have HB4 := Lib.hid (HB3.out.trans (b4.mono HB3.out.size))
      have HA4 := Lib.hid a4
      have HR4 := Lib.hid (row_below HR3.out b4)
      have HCP := Lib.hid (KP'.out o4 c4 w4 HB4.out a4)
      obtain ⟨p0, p1⟩ := pat_cells HR4.out
      clear b4 a4 t0 t1 f0 f1
      go_wp2_with fail
      refine HCP.out.mono ?_
      rintro e' w5 ⟨rfl, b5⟩
      have HB5 := Lib.hid (HB4.out.trans (b5.mono HB4.out.size))
      have HA5 := Lib.hid (HA4.out.below b5)
      have HR5 := Lib.hid (row_below HR4.out b5)
      have HCU2 := Lib.hid (KU'.out o4 c4 w5 HB5.out HA5.out)
      clear b5 p0 p1
      go_wp2_with fail
      refine HCU2.out.mono ?_
      rintro e' w6 ⟨o6, c6, rfl, a6, b6⟩
      obtain ⟨w7, hw7⟩ : ∃ w7, w6.alloc (patO st o6 k c6) = w7 := ⟨_, rfl⟩
      have d7 : Below w6.heap.size w6 w7 := by rw [← hw7]; exact (Below.refl _ _).alloc (Nat.le_refl _) _
      have r6 := row_below HR5.out b6
      have b57 := b6.trans (d7.mono b6.size)
      have HB7 := Lib.hid (HB5.out.trans (b57.mono HB5.out.size))
      have HA7 := Lib.hid (HA5.out.below b57)
      have HW7 := Lib.hid hw7
      obtain ⟨p0, p1⟩ := pat_cells r6
      have hlt6 := (Array.getElem?_eq_some_iff.1 r6).1
      have HSM := Lib.hid (KSM.out o6 c6 w7 HB7.out (a6.below d7))
      clear a6 b6 d7 r6 b57 hw7
      go_wp2_with fail
      rw [HW7.out]
      refine HSM.out.mono ?_
      rintro e' w8 ⟨rfl, b8⟩
      have HB8 := Lib.hid (HB7.out.trans (b8.mono HB7.out.size))
      have HA8 := Lib.hid (HA7.out.below b8)
      have HCV := Lib.hid (KV'.out o4 c4 w8 HB8.out HA8.out)
      clear b8 p0 p1 hlt6
      go_wp2_with fail
      refine HCV.out.mono ?_
      rintro e' w9 ⟨o9, c9, rfl, a9, b9⟩
      have b10 : Below w9.heap.size w9 (w9.alloc (patO false o9 0 c9)) := (Below.refl _ _).alloc (Nat.le_refl _) _
      have HB10 := Lib.hid (HB8.out.trans ((b9.trans (b10.mono b9.size)).mono HB8.out.size))
      clear a9 b9 b10
      go_wp2
      first | exact ⟨rfl, HB10.out⟩ | (go_ret; exact ⟨rfl, HB10.out⟩)
  · obtain ⟨vs, vl⟩ := v
    obtain ⟨r, hr⟩ : ∃ r, vl.length = r := ⟨_, rfl⟩
    have heb := hw1 he
    have hemp : (⟨#[]⟩ : ByteArray).toList.isEmpty = true := by rw [Lib.toList_data]; rfl
    have KU' : Hid (∀ (o' : Option Addr) (cap' : Nat) W, Below w.heap.size w W → TxtAt W o' N → Calls Tryz.prog 26 #[.string ⟨#[]⟩, .slice o' n cap'] W fun e w' => ∃ o1 c1, e = .returned (.tuple #[patV vs o1 r c1, .int .i64 f]) ∧ AtI w' o1 vl ∧ Below W.heap.size W w') := by
      have h := KU
      simp only [hr] at h
      exact h
    clear KU hr
    rcases hcc with ⟨rfl, _, hrb⟩ | ⟨hgne, rfl⟩
    · obtain ⟨zs, zz⟩ := z
      obtain ⟨zl, hzl⟩ : ∃ zl, zz.length = zl := ⟨_, rfl⟩
      have hz10 := (rightB_parts hrb).2.1
      have KV' : Hid (∀ (o' : Option Addr) (cap' : Nat) W, Below w.heap.size w W → TxtAt W o' N → Calls Tryz.prog 26 #[.string C, .slice o' n cap'] W fun e w' => ∃ o1 c1, e = .returned (.tuple #[patV zs o1 zl c1, .int .i64 0]) ∧ AtI w' o1 zz ∧ Below W.heap.size W w') := by
        have h := KV
        simp only [hzl] at h
        exact h
      have KRT' : Hid (∀ (o1 : Option Addr) c1 W, AtI W o1 zz → Calls Tryz.prog 13 #[patV zs o1 zl c1, .int .i64 (n : Nat)] W fun e w' => e = .returned (.bool true) ∧ Below W.heap.size W w') := Lib.hid fun o1 c1 W ha => by
        have := KRT.out o1 c1 W ha (by simp only at hz10 ⊢; omega)
        rw [hrb] at this
        simp only [hzl] at this
        exact this
      clear KV KRT hrb hzl hz10
      clear hw1
      go_enter Tryz.func5, Tryz.ntmps5
      go_wp2_with fail
      rw [HWA.out]
      refine HSH.out.mono ?_
      rintro e' w1 ⟨rfl, b1⟩
      have HB1 := Lib.hid (HBA.out.trans (b1.mono HBA.out.size))
      have HR1 := Lib.hid (row_below HRA.out b1)
      obtain ⟨p0, p1⟩ := pat_cells HR1.out
      clear b1
      go_wp2_with fail
      refine (HCU.out w1).mono ?_
      rintro e' w2 ⟨rfl, b2⟩
      have B2 := HB1.out.trans (b2.mono HB1.out.size)
      have r2 := row_below HR1.out b2
      obtain ⟨t0, t1⟩ := pat_cells r2
      have f0 := frozen_of_row w2 w.heap.size 0 _ _ r2
      have f1 := frozen_of_row w2 w.heap.size 1 _ _ r2
      obtain ⟨r3, m3⟩ := two_set (.bool st) (.slice o k cap) r2
      obtain ⟨w3, hw3⟩ : ∃ w3, (w2.setCell ⟨w.heap.size, 0, none⟩ (.bool st)).setCell ⟨w.heap.size, 1, none⟩ (.slice o k cap) = w3 := ⟨_, rfl⟩
      rw [hw3] at r3 m3
      have HB3 := Lib.hid (Moves.below B2 B2.size m3 (fun k hk => by omega))
      have HR3 := Lib.hid r3
      have HW3 := Lib.hid hw3
      clear b2 B2 r2 r3 m3 hw3 p0 p1
      go_wp2_with fail
      rw [HW3.out]
      refine (HFW.out w3 HB3.out).mono ?_
      rintro e' w4 ⟨o4, c4, rfl, _, a4, b4⟩
      have HB4 := Lib.hid (HB3.out.trans (b4.mono HB3.out.size))
      have HA4 := Lib.hid a4
      have HR4 := Lib.hid (row_below HR3.out b4)
      have HCP := Lib.hid (KP'.out o4 c4 w4 HB4.out a4)
      obtain ⟨p0, p1⟩ := pat_cells HR4.out
      clear b4 a4 t0 t1 f0 f1
      go_wp2_with fail
      refine HCP.out.mono ?_
      rintro e' w5 ⟨rfl, b5⟩
      have HB5 := Lib.hid (HB4.out.trans (b5.mono HB4.out.size))
      have HA5 := Lib.hid (HA4.out.below b5)
      have HR5 := Lib.hid (row_below HR4.out b5)
      have HCU2 := Lib.hid (KU'.out o4 c4 w5 HB5.out HA5.out)
      clear b5 p0 p1
      go_wp2_with fail
      refine HCU2.out.mono ?_
      rintro e' w6 ⟨o6, c6, rfl, a6, b6⟩
      obtain ⟨w7, hw7⟩ : ∃ w7, w6.alloc (patO vs o6 r c6) = w7 := ⟨_, rfl⟩
      have d7 : Below w6.heap.size w6 w7 := by rw [← hw7]; exact (Below.refl _ _).alloc (Nat.le_refl _) _
      have r6 := row_below HR5.out b6
      have b57 := b6.trans (d7.mono b6.size)
      have HB7 := Lib.hid (HB5.out.trans (b57.mono HB5.out.size))
      have HA7 := Lib.hid (HA5.out.below b57)
      have HW7 := Lib.hid hw7
      obtain ⟨p0, p1⟩ := pat_cells r6
      have hlt6 := (Array.getElem?_eq_some_iff.1 r6).1
      have HCV := Lib.hid (KV'.out o4 c4 w7 HB7.out HA7.out)
      have HB8 := HB7
      clear a6 b6 d7 r6 b57 hw7
      go_wp2_with fail
      rw [HW7.out]
      refine HCV.out.mono ?_
      rintro e' w9 ⟨o9, c9, rfl, a9, b9⟩
      obtain ⟨w10, hw10⟩ : ∃ w10, w9.alloc (patO zs o9 zl c9) = w10 := ⟨_, rfl⟩
      have d10 : Below w9.heap.size w9 w10 := by rw [← hw10]; exact (Below.refl _ _).alloc (Nat.le_refl _) _
      have HB10 := Lib.hid (HB8.out.trans ((b9.trans (d10.mono b9.size)).mono HB8.out.size))
      have HRT := Lib.hid (KRT'.out o9 c9 w10 (a9.below d10))
      have HW10 := Lib.hid hw10
      clear a9 b9 d10 hw10
      go_wp2_with fail
      rw [HW10.out]
      refine HRT.out.mono ?_
      rintro e' w11 ⟨rfl, b11⟩
      have HB11 := Lib.hid (HB10.out.trans (b11.mono HB10.out.size))
      clear b11
      go_wp2
      first | exact ⟨rfl, HB11.out⟩ | (go_ret; exact ⟨rfl, HB11.out⟩)
    · have hgb := hw1 hgne
      have KV' : Hid (∀ (o' : Option Addr) (cap' : Nat) W, Below w.heap.size w W → TxtAt W o' N → Calls Tryz.prog 26 #[.string C, .slice o' n cap'] W fun e w' => ∃ o1 c1, e = .returned (.tuple #[patV false o1 0 c1, .int .i64 g]) ∧ AtI w' o1 [] ∧ Below W.heap.size W w') := KV
      clear KV KRT
      clear hw1
      go_enter Tryz.func5, Tryz.ntmps5
      go_wp2_with fail
      rw [HWA.out]
      refine HSH.out.mono ?_
      rintro e' w1 ⟨rfl, b1⟩
      have HB1 := Lib.hid (HBA.out.trans (b1.mono HBA.out.size))
      have HR1 := Lib.hid (row_below HRA.out b1)
      obtain ⟨p0, p1⟩ := pat_cells HR1.out
      clear b1
      go_wp2_with fail
      refine (HCU.out w1).mono ?_
      rintro e' w2 ⟨rfl, b2⟩
      have B2 := HB1.out.trans (b2.mono HB1.out.size)
      have r2 := row_below HR1.out b2
      obtain ⟨t0, t1⟩ := pat_cells r2
      have f0 := frozen_of_row w2 w.heap.size 0 _ _ r2
      have f1 := frozen_of_row w2 w.heap.size 1 _ _ r2
      obtain ⟨r3, m3⟩ := two_set (.bool st) (.slice o k cap) r2
      obtain ⟨w3, hw3⟩ : ∃ w3, (w2.setCell ⟨w.heap.size, 0, none⟩ (.bool st)).setCell ⟨w.heap.size, 1, none⟩ (.slice o k cap) = w3 := ⟨_, rfl⟩
      rw [hw3] at r3 m3
      have HB3 := Lib.hid (Moves.below B2 B2.size m3 (fun k hk => by omega))
      have HR3 := Lib.hid r3
      have HW3 := Lib.hid hw3
      clear b2 B2 r2 r3 m3 hw3 p0 p1
      go_wp2_with fail
      rw [HW3.out]
      refine (HFW.out w3 HB3.out).mono ?_
      rintro e' w4 ⟨o4, c4, rfl, _, a4, b4⟩
      have HB4 := Lib.hid (HB3.out.trans (b4.mono HB3.out.size))
      have HA4 := Lib.hid a4
      have HR4 := Lib.hid (row_below HR3.out b4)
      have HCP := Lib.hid (KP'.out o4 c4 w4 HB4.out a4)
      obtain ⟨p0, p1⟩ := pat_cells HR4.out
      clear b4 a4 t0 t1 f0 f1
      go_wp2_with fail
      refine HCP.out.mono ?_
      rintro e' w5 ⟨rfl, b5⟩
      have HB5 := Lib.hid (HB4.out.trans (b5.mono HB4.out.size))
      have HA5 := Lib.hid (HA4.out.below b5)
      have HR5 := Lib.hid (row_below HR4.out b5)
      have HCU2 := Lib.hid (KU'.out o4 c4 w5 HB5.out HA5.out)
      clear b5 p0 p1
      go_wp2_with fail
      refine HCU2.out.mono ?_
      rintro e' w6 ⟨o6, c6, rfl, a6, b6⟩
      obtain ⟨w7, hw7⟩ : ∃ w7, w6.alloc (patO vs o6 r c6) = w7 := ⟨_, rfl⟩
      have d7 : Below w6.heap.size w6 w7 := by rw [← hw7]; exact (Below.refl _ _).alloc (Nat.le_refl _) _
      have r6 := row_below HR5.out b6
      have b57 := b6.trans (d7.mono b6.size)
      have HB7 := Lib.hid (HB5.out.trans (b57.mono HB5.out.size))
      have HA7 := Lib.hid (HA5.out.below b57)
      have HW7 := Lib.hid hw7
      obtain ⟨p0, p1⟩ := pat_cells r6
      have hlt6 := (Array.getElem?_eq_some_iff.1 r6).1
      have HCV := Lib.hid (KV'.out o4 c4 w7 HB7.out HA7.out)
      have HB8 := HB7
      clear a6 b6 d7 r6 b57 hw7
      go_wp2_with fail
      rw [HW7.out]
      refine HCV.out.mono ?_
      rintro e' w9 ⟨o9, c9, rfl, a9, b9⟩
      have b10 : Below w9.heap.size w9 (w9.alloc (patO false o9 0 c9)) := (Below.refl _ _).alloc (Nat.le_refl _) _
      have HB10 := Lib.hid (HB8.out.trans ((b9.trans (b10.mono b9.size)).mono HB8.out.size))
      clear a9 b9 b10
      go_wp2
      first | exact ⟨rfl, HB10.out⟩ | (go_ret; exact ⟨rfl, HB10.out⟩)
end Go.Proofs.YtcgljfmknggdoaaGreatDoor
