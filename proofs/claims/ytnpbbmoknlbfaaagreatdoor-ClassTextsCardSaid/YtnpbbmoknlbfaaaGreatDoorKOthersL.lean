/- ClassOthers: a set's text with ^ put behind its bracket, or taken away. -/
import Derived.Test.YtnpbbmoknlbfaaaGreatDoorKBackL
namespace Go.Proofs.YtnpbbmoknlbfaaaGreatDoor
open Go.RowKit Go.Shelf Go.Maps
attribute [local go_sem] Oper.semAt_some

theorem bytes_ext2 {a b : ByteArray} (h : a.data.toList = b.data.toList) : a = b := by
  cases a; cases b
  congr 1
  exact Array.ext' h
theorem head_of {U : ByteArray} (h0 : 0 < U.size) (hd : ((((U[0]'h0).toNat : Nat) : Int) != 91) = false) : U.data.toList.head? = some 91 := by
  rw [List.head?_eq_getElem?, List.getElem?_eq_getElem (by simpa using h0)]
  congr 1
  have h : (((U[0]'h0).toNat : Nat) : Int) = 91 := by simpa using hd
  have h2 : (U[0]'h0).toNat = 91 := by omega
  exact UInt8.toNat_inj.1 h2
theorem one_of {U : ByteArray} (h1 : 1 < U.size) (b : Bool) (hd : ((((U[1]'h1).toNat : Nat) : Int) == 94) = b) : (U.data.toList[1]? = some 94) ↔ b = true := by
  rw [List.getElem?_eq_getElem (by simpa using h1), ← hd]
  have e : U.data.toList[1]'(by simpa using h1) = U[1]'h1 := rfl
  rw [e, Option.some.injEq, beq_iff_eq, ← UInt8.toNat_inj]
  show (U[1]'h1).toNat = 94 ↔ _
  omega
theorem ext_list (U : ByteArray) (k : Nat) : (U.extract k U.size).data.toList = U.data.toList.drop k := by
  rw [ByteArray.data_extract, Array.toList_extract]
  simp
  exact List.take_of_length_le (by simp)
theorem others_in {U : ByteArray} (h1 : 1 < U.size) (hd : ((((U[1]'h1).toNat : Nat) : Int) == 94) = true) : ((⟨#[91]⟩ : ByteArray) ++ U.extract 2 U.size).data.toList = othersB U.data.toList := by
  unfold othersB
  rw [if_pos ((one_of h1 _ hd).2 rfl), ByteArray.data_append, Array.toList_append, ext_list]
  rfl
theorem others_out {U : ByteArray} (h1 : 1 < U.size) (hd : ((((U[1]'h1).toNat : Nat) : Int) == 94) = false) : ((⟨#[91, 94]⟩ : ByteArray) ++ U.extract 1 U.size).data.toList = othersB U.data.toList := by
  unfold othersB
  rw [if_neg (fun h => by have := (one_of h1 _ hd).1 h; cases this), ByteArray.data_append, Array.toList_append, ext_list]
set_option maxRecDepth 100000 in
set_option maxHeartbeats 4000000 in
theorem others_anyK (s : Int) (o : Option Addr) (ns : List ByteArray) (cap : Nat) (hn : ns.length ≤ 9223372036854775807) (w : World) (hA : TxtAt w o ns) (hG : KGlob w) :
    Calls Tryz.prog 9 #[.int .i64 s, .slice o ns.length cap] w fun e w' => e = .returned (.bool true) ∧ Below w.heap.size w w' := by
  have HS := Lib.hid (shownK_any w hG)
  have HF := Lib.hid (fun W (hb : Below w.heap.size w W) => fewT_capK ns hn o cap W (hA.below hb))
  have HG := Lib.hid hG
  have hzF : ∀ s ∈ fewTK ns, s.size ≤ 1000 := fun s h => by have := fewT_leK ns s h; omega
  have hlF := fewT_lenK ns
  unfold FewTCK at HF
  obtain ⟨N, hN⟩ : ∃ N, fewTK ns = N := ⟨_, rfl⟩
  rw [hN] at hzF hlF
  simp only [hN] at HF
  obtain ⟨k, hk⟩ : ∃ n, ns.length = n := ⟨_, rfl⟩
  simp only [hk] at HF
  rw [hk]
  obtain ⟨P, hP⟩ : ∃ P, (fun (e : Ending) w' => e = .returned (.bool true) ∧ Below w.heap.size w w') = P := ⟨_, rfl⟩
  have HP := Lib.hid hP
  rw [hP]
  have KP : Hid (∀ (o' : Option Addr) (cap' : Nat) W, KGlob W → TxtAt W o' N → Calls Tryz.prog 30 #[.int .i64 s, .slice o' N.length cap'] W fun e w' => e = .returned (.tuple #[strV (printV N s), .int .i64 (printE N s)]) ∧ Below W.heap.size W w') := Lib.hid fun o' cap' W hg ha => Print_anyK o' N cap' s (by omega) hzF W hg ha
  have hpl := printV_len hzF s
  have hpc := printE_cases N s
  obtain ⟨U, hU⟩ : ∃ U : ByteArray, (⟨(printV N s).toArray⟩ : ByteArray) = U := ⟨_, rfl⟩
  have hUs : U.size ≤ 40000 := by rw [← hU, strV_size]; omega
  have hUd : U.data.toList = printV N s := by rw [← hU]
  obtain ⟨e, he⟩ : ∃ e, printE N s = e := ⟨_, rfl⟩
  obtain ⟨T, hT⟩ : ∃ T : ByteArray, (⟨(othersB U.data.toList).toArray⟩ : ByteArray) = T := ⟨_, rfl⟩
  obtain ⟨n, hnn⟩ : ∃ n, N.length = n := ⟨_, rfl⟩
  have KP' : Hid (∀ (o' : Option Addr) (cap' : Nat) W, KGlob W → TxtAt W o' N → Calls Tryz.prog 30 #[.int .i64 s, .slice o' n cap'] W fun e' w' => e' = .returned (.tuple #[.string U, .int .i64 e]) ∧ Below W.heap.size W w') := by rw [← hU, ← he, ← hnn]; exact KP
  have FACT : e ≠ 0 ∨ (e = 0 ∧ (U.data.toList.head? = some 91 → T.size ≤ 1000000 ∧ ∃ m : Int, notZ s ((n : Nat) : Int) = m ∧ ∀ (o' : Option Addr) (cap' : Nat) W, KGlob W → TxtAt W o' N → Calls Tryz.prog 32 #[.string T, .slice o' n cap'] W fun e w' => e = .returned (.tuple #[.int .i64 m, .int .i64 0]) ∧ Below W.heap.size W w')) := by
    rcases hpc with ⟨h1, h2, x, h3, h4, h5⟩ | ⟨h1, h2⟩
    · refine .inr ⟨by rw [← he]; exact h1, fun h0 => ?_⟩
      have hTs : T.size ≤ 1000000 := by
        rw [← hT, strV_size]
        have hl : U.data.toList.length ≤ 40000 := by simpa using hUs
        unfold othersB
        split <;> simp only [List.length_append, List.length_cons, List.length_nil, List.length_drop] <;> omega
      refine ⟨hTs, _, rfl, fun o' cap' W hg ha => ?_⟩
      have := Parse_anyK o' N cap' T hTs (by omega) hzF W hg ha
      rw [hUd, h5] at h0 hT
      have hro := read_others h2 h4 h0
      have hTd : T.data.toList = othersB (textB N x) := by rw [← hT]
      unfold parseV parseE at this
      rw [if_pos h2, if_pos h2, hTd, hro, hnn] at this
      rw [h3, notZ_nat (by have := h2.2.2.1; omega) (by have := h2.2.2.2; omega) (by rw [← hnn]; exact h4)]
      exact this
    · exact .inl (by rw [← he]; exact h1)
  have KN := Lib.hid (fun W => Not_anyK s ((n : Nat) : Int) W)
  rw [hnn] at hlF
  simp only [hnn] at HF
  have hTe : T.data.toList = othersB U.data.toList := by rw [← hT]
  clear hA hG hn hN hk hP hpl hpc hU hUd he hnn hzF KP hT hlF
  have hP1 : ∀ W, Below w.heap.size w W → P (.returned (.bool true)) W := fun W hb => by rw [← HP.out]; exact ⟨rfl, hb⟩
  have HP1 := Lib.hid hP1
  clear hP1
  rcases FACT with he | ⟨rfl, f5⟩
  focus
    have heb : (e == 0) = false := by simpa using he
    clear hTe
    go_enter Tryz.func9, Tryz.ntmps9
    go_wp2_with fail
    refine HS.out.mono ?_
    rintro e' w1 ⟨rfl, b1⟩
    have B1 := Lib.hid b1
    clear b1
    go_wp2_with fail
    refine (HF.out _ B1.out).mono ?_
    rintro e' w2 ⟨o2, c2, rfl, _, ha2, b2⟩
    have B2 := Lib.hid (B1.out.trans (b2.mono B1.out.size))
    have A2 := Lib.hid ha2
    have G2 := Lib.hid (HG.out.below B2.out)
    clear b2 ha2
    go_wp2_with fail
    refine (KP'.out o2 c2 w2 G2.out A2.out).mono ?_
    rintro e' w3 ⟨rfl, b3⟩
    have HQ := Lib.hid (HP1.out w3 (B2.out.trans (b3.mono B2.out.size)))
    clear b3
    go_wp2
    exact HQ.out
  rcases Nat.lt_or_ge U.size 2 with hsz | hsz
  focus
    clear hTe f5
    go_enter Tryz.func9, Tryz.ntmps9
    go_wp2_with fail
    refine HS.out.mono ?_
    rintro e' w1 ⟨rfl, b1⟩
    have B1 := Lib.hid b1
    clear b1
    go_wp2_with fail
    refine (HF.out _ B1.out).mono ?_
    rintro e' w2 ⟨o2, c2, rfl, _, ha2, b2⟩
    have B2 := Lib.hid (B1.out.trans (b2.mono B1.out.size))
    have A2 := Lib.hid ha2
    have G2 := Lib.hid (HG.out.below B2.out)
    clear b2 ha2
    go_wp2_with fail
    refine (KP'.out o2 c2 w2 G2.out A2.out).mono ?_
    rintro e' w3 ⟨rfl, b3⟩
    have HQ := Lib.hid (HP1.out w3 (B2.out.trans (b3.mono B2.out.size)))
    clear b3
    go_wp2
    exact HQ.out
  have h0 : 0 < U.size := by omega
  have h1 : 1 < U.size := by omega
  have hs2 : ¬ ((U.size : Nat) : Int) < 2 := by omega
  have hcat1 : ¬ 9223372036854775807 < 2 + (U.size - 1) := by omega
  have hcat2 : ¬ 9223372036854775807 < 1 + (U.size - 2) := by omega
  cases hd : (((U[0]'h0).toNat : Nat) : Int) != 91 with
  | true =>
    clear hTe f5 hUs
    go_enter Tryz.func9, Tryz.ntmps9
    go_wp2_with fail
    refine HS.out.mono ?_
    rintro e' w1 ⟨rfl, b1⟩
    have B1 := Lib.hid b1
    clear b1
    go_wp2_with fail
    refine (HF.out _ B1.out).mono ?_
    rintro e' w2 ⟨o2, c2, rfl, _, ha2, b2⟩
    have B2 := Lib.hid (B1.out.trans (b2.mono B1.out.size))
    have A2 := Lib.hid ha2
    have G2 := Lib.hid (HG.out.below B2.out)
    clear b2 ha2
    go_wp2_with fail
    refine (KP'.out o2 c2 w2 G2.out A2.out).mono ?_
    rintro e' w3 ⟨rfl, b3⟩
    have HQ := Lib.hid (HP1.out w3 (B2.out.trans (b3.mono B2.out.size)))
    clear b3
    go_wp2
    exact HQ.out
  | false =>
    have hh : U.data.toList.head? = some 91 := head_of h0 hd
    obtain ⟨_, m, hm, f6⟩ := f5 hh
    have KT := Lib.hid f6
    rw [hm] at KN
    have emm : (m == m) = true := by simp
    clear f5 f6 hm hUs hh
    cases hq : (((U[1]'h1).toNat : Nat) : Int) == 94 with
    | true =>
      have hTT : (⟨#[91]⟩ : ByteArray) ++ U.extract 2 U.size = T := bytes_ext2 (by rw [hTe]; exact others_in h1 hq)
      clear hTe
      go_enter Tryz.func9, Tryz.ntmps9
      go_wp2_with fail
      refine HS.out.mono ?_
      rintro e' w1 ⟨rfl, b1⟩
      have B1 := Lib.hid b1
      clear b1
      go_wp2_with fail
      refine (HF.out _ B1.out).mono ?_
      rintro e' w2 ⟨o2, c2, rfl, _, ha2, b2⟩
      have B2 := Lib.hid (B1.out.trans (b2.mono B1.out.size))
      have A2 := Lib.hid ha2
      have G2 := Lib.hid (HG.out.below B2.out)
      clear b2 ha2
      go_wp2_with fail
      refine (KP'.out o2 c2 w2 G2.out A2.out).mono ?_
      rintro e' w3 ⟨rfl, b3⟩
      have B3 := Lib.hid (B2.out.trans (b3.mono B2.out.size))
      have A3 := Lib.hid (A2.out.below b3)
      have G3 := Lib.hid (HG.out.below B3.out)
      clear b3
      go_wp2_with fail
      refine (KT.out o2 c2 w3 G3.out A3.out).mono ?_
      rintro e' w4 ⟨rfl, b4⟩
      have B4 := Lib.hid (B3.out.trans (b4.mono B3.out.size))
      clear b4
      go_wp2_with fail
      refine (KN.out _).mono ?_
      rintro e' w5 ⟨rfl, b5⟩
      have HQ := Lib.hid (HP1.out w5 (B4.out.trans (b5.mono B4.out.size)))
      clear b5
      go_wp2
      exact HQ.out
    | false =>
      have hTT : (⟨#[91, 94]⟩ : ByteArray) ++ U.extract 1 U.size = T := bytes_ext2 (by rw [hTe]; exact others_out h1 hq)
      clear hTe
      go_enter Tryz.func9, Tryz.ntmps9
      go_wp2_with fail
      refine HS.out.mono ?_
      rintro e' w1 ⟨rfl, b1⟩
      have B1 := Lib.hid b1
      clear b1
      go_wp2_with fail
      refine (HF.out _ B1.out).mono ?_
      rintro e' w2 ⟨o2, c2, rfl, _, ha2, b2⟩
      have B2 := Lib.hid (B1.out.trans (b2.mono B1.out.size))
      have A2 := Lib.hid ha2
      have G2 := Lib.hid (HG.out.below B2.out)
      clear b2 ha2
      go_wp2_with fail
      refine (KP'.out o2 c2 w2 G2.out A2.out).mono ?_
      rintro e' w3 ⟨rfl, b3⟩
      have B3 := Lib.hid (B2.out.trans (b3.mono B2.out.size))
      have A3 := Lib.hid (A2.out.below b3)
      have G3 := Lib.hid (HG.out.below B3.out)
      clear b3
      go_wp2_with fail
      refine (KT.out o2 c2 w3 G3.out A3.out).mono ?_
      rintro e' w4 ⟨rfl, b4⟩
      have B4 := Lib.hid (B3.out.trans (b4.mono B3.out.size))
      clear b4
      go_wp2_with fail
      refine (KN.out _).mono ?_
      rintro e' w5 ⟨rfl, b5⟩
      have HQ := Lib.hid (HP1.out w5 (B4.out.trans (b5.mono B4.out.size)))
      clear b5
      go_wp2
      exact HQ.out
end Go.Proofs.YtnpbbmoknlbfaaaGreatDoor
