/- PatternTexts. -/
import Derived.Test.YtgjjmbiihbepeaaGreatDoorBunA19
import Derived.Test.YtgjjmbiihbepeaaGreatDoorBunA26
import Derived.Test.YtgjjmbiihbepeaaGreatDoorBunA20
namespace Go.Proofs.YtgjjmbiihbepeaaGreatDoor
open Go.RowKit Go.Shelf Go.Maps
attribute [local go_sem] Oper.semAt_some

theorem parse_tenP (ns : List ByteArray) (s : List UInt8) : (parsePV ns s).2.length ≤ 10 := by
  unfold parsePV
  by_cases h1 : namesL ns
  · rw [if_pos h1]
    cases h2 : readP ns s with
    | none => exact Nat.zero_le _
    | some r =>
      obtain ⟨st, xs⟩ := r
      exact (rightB_parts (readP_right h1 h2)).2.1
  · rw [if_neg h1]
    exact Nat.zero_le _
set_option maxRecDepth 100000 in
set_option maxHeartbeats 40000000 in
theorem texts_anyL (st : Bool) (xs : List ItemP) (o : Option Addr) (cap : Nat) (s : ByteArray) (ns : List ByteArray) (on : Option Addr) (ncap : Nat) (hxc : xs.length ≤ cap) (hnl : ns.length ≤ 9223372036854775807) (w : World) (aU aS : Addr) (hQ : GlobQ w aU aS) (hG : KGlob w) (hX : ItsInQ w o xs) (hN : TxtAt w on ns) :
    Calls Tryz.prog 4 #[patV st o xs.length cap, .string s, .slice on ns.length ncap] w fun e w' => e = .returned (.bool true) ∧ Below w.heap.size w w' := by
  obtain ⟨P, hP⟩ : ∃ P, (fun (e : Ending) w' => e = .returned (.bool true) ∧ Below w.heap.size w w') = P := ⟨_, rfl⟩
  have HP := Lib.hid hP
  rw [hP]
  obtain ⟨wa, hwa⟩ : ∃ wa, w.alloc (patO st o xs.length cap) = wa := ⟨_, rfl⟩
  have ba : Below w.heap.size w wa := by rw [← hwa]; exact (Below.refl _ _).alloc (Nat.le_refl _) _
  have ra : wa.heap[w.heap.size]? = some (patO st o xs.length cap) := by rw [← hwa]; exact heap_alloc_new _ _
  have HSH := Lib.hid (shownQ_any wa aU aS (hQ.below ba) (hG.below ba))
  have HCU := Lib.hid (fun W => cutP_any st o xs cap hxc W)
  have HFW := Lib.hid (fun W (hb : Below w.heap.size w W) => fewT_capK ns hnl on ncap W (hN.below hb))
  unfold FewTCK at HFW
  obtain ⟨X, hXX⟩ : ∃ X, xs.take 12 = X := ⟨_, rfl⟩
  have h12 : X.length ≤ 12 := by rw [← hXX, List.length_take]; omega
  have HAX : Hid (∀ W, Below w.heap.size w W → AtI W o X) := Lib.hid fun W hb => by rw [← hXX]; exact (hX.1.below hb).take 12
  rw [hXX] at HCU
  have hzF : ∀ s ∈ fewTK ns, s.size ≤ 1000 := fun s h => by have := fewT_leK ns s h; omega
  have hlF := fewT_lenK ns
  obtain ⟨N, hNN⟩ : ∃ N, fewTK ns = N := ⟨_, rfl⟩
  rw [hNN] at hzF hlF
  simp only [hNN] at HFW
  obtain ⟨kk, hkk⟩ : ∃ kk, min s.size 300 = kk := ⟨_, rfl⟩
  have i1 : min ((s.size : Nat) : Int) 300 = ((kk : Nat) : Int) := by omega
  have i2 : kk ≤ s.size := by omega
  have i3 : kk ≤ 300 := by omega
  obtain ⟨C, hC⟩ : ∃ C, s.extract 0 kk = C := ⟨_, rfl⟩
  have hCs : C.size ≤ 1000 := by rw [← hC]; simp [ByteArray.size_extract]; omega
  obtain ⟨U, hU⟩ : ∃ U : ByteArray, (⟨(printPV N st X).toArray⟩ : ByteArray) = U := ⟨_, rfl⟩
  obtain ⟨e, he⟩ : ∃ e, printPE N X = e := ⟨_, rfl⟩
  obtain ⟨z, hz⟩ : ∃ z, parsePV N C.data.toList = z := ⟨_, rfl⟩
  obtain ⟨g, hg⟩ : ∃ g, parsePE N C.data.toList = g := ⟨_, rfl⟩
  have hz10 := parse_tenP N C.data.toList
  rw [hz] at hz10
  obtain ⟨n, hnn⟩ : ∃ n, N.length = n := ⟨_, rfl⟩
  obtain ⟨m, hm⟩ : ∃ m, ns.length = m := ⟨_, rfl⟩
  obtain ⟨k, hk⟩ : ∃ k, X.length = k := ⟨_, rfl⟩
  obtain ⟨q, hq⟩ : ∃ q, xs.length = q := ⟨_, rfl⟩
  obtain ⟨zs, zz⟩ := z
  obtain ⟨zl, hzl⟩ : ∃ zl, zz.length = zl := ⟨_, rfl⟩
  simp only at hz10
  have KP : Hid (∀ (o' : Option Addr) (cap' : Nat) W, Below w.heap.size w W → TxtAt W o' N → Calls Tryz.prog 19 #[patV st o k cap, .slice o' n cap'] W fun e' w' => e' = .returned (.tuple #[.string U, .int .i64 e]) ∧ Below W.heap.size W w') := Lib.hid fun o' cap' W hb ha => by
    have := Print_anyQ st o o' X N cap cap' (by omega) hzF (by omega) W aU aS (hQ.below hb) (hG.below hb) (HAX.out W hb) ha
    rw [hk, hnn, he] at this
    simp only [strV, hU] at this
    exact this
  have KQ : Hid (∀ (o' : Option Addr) (cap' : Nat) W, Below w.heap.size w W → n ≤ cap' → TxtAt W o' N → Calls Tryz.prog 20 #[patV st o k cap, .slice o' n cap'] W fun e' w' => e' = .returned (.tuple #[.string U, .int .i64 e]) ∧ Below W.heap.size W w') := Lib.hid fun o' cap' W hb hc ha => by
    have := refPrintP_any st o X cap o' N cap' (by omega) (by omega) (by rw [hnn]; exact hc) hzF W (HAX.out W hb) ha
    rw [hk, hnn, he] at this
    simp only [strV, hU] at this
    exact this
  have KV : Hid (∀ (o' : Option Addr) (cap' : Nat) W, Below w.heap.size w W → TxtAt W o' N → Calls Tryz.prog 21 #[.string C, .slice o' n cap'] W fun e w' => ∃ o1 c1, e = .returned (.tuple #[patV zs o1 zl c1, .int .i64 g]) ∧ Hid (AtI w' o1 zz) ∧ Hid (Below W.heap.size W w')) := Lib.hid fun o' cap' W hb ha => by
    have := Parse_anyQ C (by omega) o' N cap' (by omega) hzF W aU aS (hQ.below hb) (hG.below hb) ha
    rw [hnn, hg] at this
    refine this.mono ?_
    rintro e w' ⟨o1, c1, he, h1, _, _, h2⟩
    rw [hz] at he h1
    simp only [hzl] at he
    exact ⟨o1, c1, he, Lib.hid h1, Lib.hid h2⟩
  have KW : Hid (∀ (o' : Option Addr) (cap' : Nat) W, n ≤ cap' → TxtAt W o' N → Calls Tryz.prog 22 #[.string C, .slice o' n cap'] W fun e w' => ∃ o1 c1, e = .returned (.tuple #[patV zs o1 zl c1, .int .i64 g]) ∧ Hid (AtI w' o1 zz) ∧ Hid (Below W.heap.size W w')) := Lib.hid fun o' cap' W hc ha => by
    have := refParseP_any C hCs o' N cap' (by omega) (by rw [hnn]; exact hc) hzF W ha
    rw [hnn, hg] at this
    refine this.mono ?_
    rintro e w' ⟨o1, c1, he, h1, _, _, h2⟩
    rw [hz] at he h1
    simp only [hzl] at he
    exact ⟨o1, c1, he, Lib.hid h1, Lib.hid h2⟩
  have KS : Hid (∀ (o1 o2 : Option Addr) c1 c2 W, AtI W o1 zz → AtI W o2 zz → Calls Tryz.prog 17 #[patV zs o1 zl c1, patV zs o2 zl c2] W fun e w' => e = .returned (.bool true) ∧ Below W.heap.size W w') := Lib.hid fun o1 o2 c1 c2 W h1 h2 => by
    have := refSame_anyQ zs zs o1 o2 zz zz c1 c2 (by omega) (by omega) W h1 h2
    have e0 : sameB zs zs zz zz = true := by
      unfold sameB
      rw [decide_eq_true rfl, decide_eq_true rfl]
      rfl
    rw [e0, hzl] at this
    exact this
  have e2 : (e == e) = true := by simp
  have e3 : (g == g) = true := by simp
  try simp only [hnn] at HFW
  try simp only [hm] at HFW
  rw [hk, hq] at HCU
  rw [hk] at h12
  rw [hq] at ra hwa hxc ⊢
  rw [hm]
  have HBA := Lib.hid ba
  have HRA := Lib.hid ra
  have HWA := Lib.hid hwa
  clear hP hQ hG hX hN hXX hNN hkk hCs hU he hz hg hnn hm hk hq ba ra hwa hxc hnl hzF hzl hz10 hlF
  go_enter Tryz.func4, Tryz.ntmps4
  go_wp2_with fail
  rw [HWA.out]
  refine HSH.out.mono ?_
  rintro e' w1 ⟨rfl, b1⟩
  have HB1 := Lib.hid (HBA.out.trans (b1.mono HBA.out.size))
  have HR1 := Lib.hid (row_below HRA.out b1)
  obtain ⟨p0, p1⟩ := pat_cells HR1.out
  clear b1
  go_wp2_with fail
  refine (HCU.out w1).mono ?_
  rintro e' w2 ⟨rfl, b2⟩
  have B2 := HB1.out.trans (b2.mono HB1.out.size)
  have r2 := row_below HR1.out b2
  obtain ⟨t0, t1⟩ := pat_cells r2
  have f0 := frozen_of_row w2 w.heap.size 0 _ _ r2
  have f1 := frozen_of_row w2 w.heap.size 1 _ _ r2
  obtain ⟨r3, m3⟩ := two_set (.bool st) (.slice o k cap) r2
  obtain ⟨w3, hw3⟩ : ∃ w3, (w2.setCell ⟨w.heap.size, 0, none⟩ (.bool st)).setCell ⟨w.heap.size, 1, none⟩ (.slice o k cap) = w3 := ⟨_, rfl⟩
  rw [hw3] at r3 m3
  have HB3 := Lib.hid (Moves.below B2 B2.size m3 (fun k hk => by omega))
  have HR3 := Lib.hid r3
  have HW3 := Lib.hid hw3
  clear b2 B2 r2 r3 m3 hw3 p0 p1
  go_wp2_with fail
  rw [HW3.out]
  refine (HFW.out w3 HB3.out).mono ?_
  rintro e' w4 ⟨o4, c4, rfl, hnc, a4, b4⟩
  have HB4 := Lib.hid (HB3.out.trans (b4.mono HB3.out.size))
  have HR4 := Lib.hid (row_below HR3.out b4)
  have HA4 := Lib.hid a4
  have HNC := Lib.hid hnc
  clear b4 a4 hnc t0 t1 f0 f1
  obtain ⟨p0, p1⟩ := pat_cells HR4.out
  go_wp2_with fail
  refine (KP.out o4 c4 w4 HB4.out HA4.out).mono ?_
  rintro e' w5 ⟨rfl, b5⟩
  have HB5 := Lib.hid (HB4.out.trans (b5.mono HB4.out.size))
  have HR5 := Lib.hid (row_below HR4.out b5)
  have HA5 := Lib.hid (HA4.out.below b5)
  clear b5 p0 p1
  obtain ⟨p0, p1⟩ := pat_cells HR5.out
  go_wp2_with fail
  refine (KQ.out o4 c4 w5 HB5.out HNC.out HA5.out).mono ?_
  rintro e' w6 ⟨rfl, b6⟩
  have HB6 := Lib.hid (HB5.out.trans (b6.mono HB5.out.size))
  have HA6 := Lib.hid (HA5.out.below b6)
  clear b6 p0 p1
  go_wp2_with fail
  try rw [hC]
  refine (KV.out o4 c4 w6 HB6.out HA6.out).mono ?_
  rintro e' w7 ⟨o7, c7, rfl, at7, b7⟩
  have HB7 := Lib.hid (HB6.out.trans (b7.out.mono HB6.out.size))
  have HA7 := Lib.hid (HA6.out.below b7.out)
  obtain ⟨w8, hw8⟩ : ∃ w8, w7.alloc (patO zs o7 zl c7) = w8 := ⟨_, rfl⟩
  have b8 : Below w7.heap.size w7 w8 := by rw [← hw8]; exact (Below.refl _ _).alloc (Nat.le_refl _) _
  have HR8 : Hid (w8.heap[w7.heap.size]? = some (patO zs o7 zl c7)) := Lib.hid (by rw [← hw8]; exact heap_alloc_new _ _)
  have HB8 := Lib.hid (HB7.out.trans (b8.mono HB7.out.size))
  have HA8 := Lib.hid (HA7.out.below b8)
  have AT8 := Lib.hid (at7.out.below b8)
  have HW8 := Lib.hid hw8
  clear hw8 b8 at7 b7
  go_wp2_with fail
  rw [HW8.out]
  try rw [hC]
  refine (KW.out o4 c4 w8 HNC.out HA8.out).mono ?_
  rintro e' w9 ⟨o9, c9, rfl, at9, b9⟩
  have HB9 := Lib.hid (HB8.out.trans (b9.out.mono HB8.out.size))
  have HR9 := Lib.hid (row_below HR8.out b9.out)
  have AT9 := Lib.hid (AT8.out.below b9.out)
  have hlt9 : w7.heap.size < w9.heap.size := (Array.getElem?_eq_some_iff.1 HR9.out).1
  obtain ⟨y0, y1⟩ := pat_cells HR9.out
  have b10 : Below w9.heap.size w9 (w9.alloc (patO zs o9 zl c9)) := (Below.refl _ _).alloc (Nat.le_refl _) _
  have HB10 := Lib.hid (HB9.out.trans (b10.mono HB9.out.size))
  have KS' := Lib.hid (KS.out o7 o9 c7 c9 (w9.alloc (patO zs o9 zl c9)) (AT9.out.below b10) (at9.out.below b10))
  clear at9 b9 b10
  go_wp2_with fail
  refine KS'.out.mono ?_
  rintro e' w10 ⟨rfl, bX⟩
  have HF : Hid (P (.returned (.bool true)) w10) := by
    rw [← HP.out]
    exact Lib.hid ⟨rfl, HB10.out.trans (bX.mono HB10.out.size)⟩
  clear bX
  go_wp2
  first | exact HF.out | (go_ret; exact HF.out)
end Go.Proofs.YtgjjmbiihbepeaaGreatDoor
