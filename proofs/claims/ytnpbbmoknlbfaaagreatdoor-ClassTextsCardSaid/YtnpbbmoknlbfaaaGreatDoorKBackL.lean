/- ClassBack: a set's text is parsed as it; what is parsed is right. -/
import Derived.Test.YtnpbbmoknlbfaaaGreatDoorKFew
namespace Go.Proofs.YtnpbbmoknlbfaaaGreatDoor
open Go.RowKit Go.Shelf Go.Maps
attribute [local go_sem] Oper.semAt_some

theorem printE_cases (ns : List ByteArray) (s : Int) : (printE ns s = 0 ∧ namesL ns ∧ ∃ x : Nat, s = x ∧ x < 2 ^ ns.length ∧ printV ns s = textB ns x) ∨ (printE ns s ≠ 0 ∧ printV ns s = []) := by
  unfold printE printV
  by_cases h : namesL ns
  · rw [if_pos h, if_pos h]
    cases hr : rightZ s ((ns.length : Nat) : Int) with
    | true =>
      obtain ⟨x, m, rfl, hm, _, _, hx⟩ := rightZ_of hr
      obtain rfl : ns.length = m := by omega
      exact .inl ⟨rfl, h, x, rfl, hx, rfl⟩
    | false => exact .inr ⟨by decide, rfl⟩
  · rw [if_neg h, if_neg h]
    exact .inr ⟨by decide, rfl⟩
theorem parse_printK {ns : List ByteArray} (hn : namesL ns) {x : Nat} (hx : x < 2 ^ ns.length) : parseV ns (textB ns x) = x ∧ parseE ns (textB ns x) = 0 := by
  unfold parseV parseE
  rw [if_pos hn, if_pos hn, read_text hn hx]
  exact ⟨rfl, rfl⟩
theorem parse_cases (ns : List ByteArray) (s : List UInt8) : (parseE ns s = 0 ∧ rightZ (parseV ns s) ((ns.length : Nat) : Int) = true) ∨ (parseE ns s ≠ 0 ∧ parseV ns s = 0) := by
  unfold parseV parseE
  by_cases h : namesL ns
  · rw [if_pos h, if_pos h]
    cases hr : readL ns s with
    | some x => exact .inl ⟨rfl, rightZ_ok h.2.2.1 h.2.2.2 (readL_lt hr)⟩
    | none => exact .inr ⟨by simp [errZ], rfl⟩
  · rw [if_neg h, if_neg h]
    exact .inr ⟨by decide, rfl⟩
theorem textB_len {ns : List ByteArray} (hz : ∀ s ∈ ns, s.size ≤ 1000) {x : Nat} (h32 : ns.length ≤ 32) : (textB ns x).length ≤ 40000 := by
  have h1 := lensK ns hz (classesN ns.length x) (classesK_lt _ _)
  have h2 := lensK ns hz (classesN ns.length (notN ns.length x)) (classesK_lt _ _)
  have h3 := classesN_le ns.length x
  have h4 := classesN_le ns.length (notN ns.length x)
  unfold textB
  split
  · simp
  · split
    · omega
    · split
      · simp only [List.length_append, List.length_cons, List.length_nil]; omega
      · simp only [List.length_append, List.length_cons, List.length_nil]; omega
theorem printV_len {ns : List ByteArray} (hz : ∀ s ∈ ns, s.size ≤ 1000) (s : Int) : (printV ns s).length ≤ 40000 := by
  rcases printE_cases ns s with ⟨_, hn, x, _, _, hp⟩ | ⟨_, hp⟩
  · rw [hp]; exact textB_len hz hn.2.2.2
  · rw [hp]; simp
set_option maxRecDepth 100000 in
set_option maxHeartbeats 4000000 in
theorem back_anyK (s : Int) (t : ByteArray) (o : Option Addr) (ns : List ByteArray) (cap : Nat) (hn : ns.length ≤ 9223372036854775807) (w : World) (hA : TxtAt w o ns) (hG : KGlob w) :
    Calls Tryz.prog 5 #[.int .i64 s, .string t, .slice o ns.length cap] w fun e w' => e = .returned (.bool true) ∧ Below w.heap.size w w' := by
  have HS := Lib.hid (shownK_any w hG)
  have HF := Lib.hid (fun W (hb : Below w.heap.size w W) => fewT_capK ns hn o cap W (hA.below hb))
  have HG := Lib.hid hG
  have HC := Lib.hid (cutK_any t)
  have hct := cutK_size t
  have hzF : ∀ s ∈ fewTK ns, s.size ≤ 1000 := fun s h => by have := fewT_leK ns s h; omega
  have hlF := fewT_lenK ns
  unfold FewTCK at HF
  obtain ⟨N, hN⟩ : ∃ N, fewTK ns = N := ⟨_, rfl⟩
  rw [hN] at hzF hlF
  simp only [hN] at HF
  obtain ⟨C, hC⟩ : ∃ C, cutK t = C := ⟨_, rfl⟩
  rw [hC] at HC hct
  obtain ⟨k, hk⟩ : ∃ n, ns.length = n := ⟨_, rfl⟩
  simp only [hk] at HF
  rw [hk]
  obtain ⟨P, hP⟩ : ∃ P, (fun (e : Ending) w' => e = .returned (.bool true) ∧ Below w.heap.size w w') = P := ⟨_, rfl⟩
  have HP := Lib.hid hP
  rw [hP]
  have KP : Hid (∀ (o' : Option Addr) (cap' : Nat) W, KGlob W → TxtAt W o' N → Calls Tryz.prog 30 #[.int .i64 s, .slice o' N.length cap'] W fun e w' => e = .returned (.tuple #[strV (printV N s), .int .i64 (printE N s)]) ∧ Below W.heap.size W w') := Lib.hid fun o' cap' W hg ha => Print_anyK o' N cap' s (by omega) hzF W hg ha
  have KR : Hid (∀ (u : ByteArray) (o' : Option Addr) (cap' : Nat) W, u.size ≤ 1000000 → KGlob W → TxtAt W o' N → Calls Tryz.prog 32 #[.string u, .slice o' N.length cap'] W fun e w' => e = .returned (.tuple #[.int .i64 (parseV N u.data.toList), .int .i64 (parseE N u.data.toList)]) ∧ Below W.heap.size W w') := Lib.hid fun u o' cap' W hu hg ha => Parse_anyK o' N cap' u hu (by omega) hzF W hg ha
  have hpl := printV_len hzF s
  have hpc := printE_cases N s
  have hcc := parse_cases N C.data.toList
  obtain ⟨U, hU⟩ : ∃ U : ByteArray, (⟨(printV N s).toArray⟩ : ByteArray) = U := ⟨_, rfl⟩
  have hUs : U.size ≤ 1000000 := by rw [← hU, strV_size]; omega
  have hUd : U.data.toList = printV N s := by rw [← hU]
  have hUe : printV N s = [] → U = ⟨#[]⟩ := fun h => by rw [← hU, h]
  have FACT : ∃ (e f u : Int), printE N s = e ∧ parseE N U.data.toList = f ∧ parseV N U.data.toList = u ∧ ((e = 0 ∧ f = 0 ∧ u = s) ∨ (e ≠ 0 ∧ U = ⟨#[]⟩)) := by
    refine ⟨_, _, _, rfl, rfl, rfl, ?_⟩
    rcases hpc with ⟨h1, h2, x, h3, h4, h5⟩ | ⟨h1, h2⟩
    · have := parse_printK h2 h4
      rw [hUd, h5, this.1, this.2]
      exact .inl ⟨h1, rfl, h3.symm⟩
    · exact .inr ⟨h1, hUe h2⟩
  obtain ⟨e, f, u, f1, f2, f3, f4⟩ := FACT
  obtain ⟨v, hv⟩ : ∃ v, parseV N C.data.toList = v := ⟨_, rfl⟩
  obtain ⟨g, hg⟩ : ∃ v, parseE N C.data.toList = v := ⟨_, rfl⟩
  rw [hv, hg] at hcc
  have KU : Hid (∀ (o' : Option Addr) (cap' : Nat) W, KGlob W → TxtAt W o' N → Calls Tryz.prog 32 #[.string U, .slice o' N.length cap'] W fun e w' => e = .returned (.tuple #[.int .i64 u, .int .i64 f]) ∧ Below W.heap.size W w') := Lib.hid fun o' cap' W h1 h2 => by rw [← f2, ← f3]; exact KR.out U o' cap' W hUs h1 h2
  have KV : Hid (∀ (o' : Option Addr) (cap' : Nat) W, KGlob W → TxtAt W o' N → Calls Tryz.prog 32 #[.string C, .slice o' N.length cap'] W fun e w' => e = .returned (.tuple #[.int .i64 v, .int .i64 g]) ∧ Below W.heap.size W w') := Lib.hid fun o' cap' W h1 h2 => by rw [← hv, ← hg]; exact KR.out C o' cap' W (by omega) h1 h2
  have KP' : Hid (∀ (o' : Option Addr) (cap' : Nat) W, KGlob W → TxtAt W o' N → Calls Tryz.prog 30 #[.int .i64 s, .slice o' N.length cap'] W fun e' w' => e' = .returned (.tuple #[.string U, .int .i64 e]) ∧ Below W.heap.size W w') := by rw [← hU, ← f1]; exact KP
  obtain ⟨n, hnn⟩ : ∃ n, N.length = n := ⟨_, rfl⟩
  rw [hnn] at KU KV KP' hcc hlF
  simp only [hnn] at HF
  have KRT := Lib.hid (fun W => Right_anyK v ((n : Nat) : Int) W)
  obtain ⟨rb, hrb⟩ : ∃ rb, rightZ v ((n : Nat) : Int) = rb := ⟨_, rfl⟩
  rw [hrb] at KRT hcc
  have ess : (s == s) = true := by simp
  clear hA hG hn hN hC hk hP hpl hpc hU hUs hUd hUe f1 f2 f3 hv hg hnn hzF hrb KP KR hct hlF
  have hw1 : ∀ {e : Int}, e ≠ 0 → (e == 0) = false := fun h => by simpa using h
  rcases f4 with ⟨rfl, rfl, rfl⟩ | ⟨he, rfl⟩
  focus
    rcases hcc with ⟨rfl, rfl⟩ | ⟨hgne, rfl⟩
    focus
      have hz := (0 : Nat)
    rotate_left 1
    focus
      have hgb := hw1 hgne
  rotate_left 2
  focus
    have heb := hw1 he
    rcases hcc with ⟨rfl, rfl⟩ | ⟨hgne, rfl⟩
    focus
      have hz := (0 : Nat)
    rotate_left 1
    focus
      have hgb := hw1 hgne
  all_goals
    clear hw1
    go_enter Tryz.func5, Tryz.ntmps5
    go_wp2_with fail
    refine HS.out.mono ?_
    rintro e' w1 ⟨rfl, b1⟩
    have B1 := Lib.hid b1
    clear b1
    go_wp2_with fail
    refine (HF.out _ B1.out).mono ?_
    rintro e' w2 ⟨o2, c2, rfl, _, ha2, b2⟩
    have B2 := Lib.hid (B1.out.trans (b2.mono B1.out.size))
    have A2 := Lib.hid ha2
    have G2 := Lib.hid (HG.out.below B2.out)
    clear b2 ha2
    go_wp2_with fail
    refine (KP'.out o2 c2 w2 G2.out A2.out).mono ?_
    rintro e' w3 ⟨rfl, b3⟩
    have B3 := Lib.hid (B2.out.trans (b3.mono B2.out.size))
    have A3 := Lib.hid (A2.out.below b3)
    have G3 := Lib.hid (HG.out.below B3.out)
    clear b3
    go_wp2_with fail
    refine (KU.out o2 c2 w3 G3.out A3.out).mono ?_
    rintro e' w4 ⟨rfl, b4⟩
    have B4 := Lib.hid (B3.out.trans (b4.mono B3.out.size))
    have A4 := Lib.hid (A3.out.below b4)
    have G4 := Lib.hid (HG.out.below B4.out)
    clear b4
    go_wp2_with fail
    refine (HC.out _).mono ?_
    rintro e' w5 ⟨rfl, rfl⟩
    go_wp2_with fail
    refine (KV.out o2 c2 w4 G4.out A4.out).mono ?_
    rintro e' w6 ⟨rfl, b6⟩
    have B6 := Lib.hid (B4.out.trans (b6.mono B4.out.size))
    clear b6
    try
      have HQ : Hid (P (.returned (.bool true)) w6) := by
        rw [← HP.out]
        exact Lib.hid ⟨rfl, B6.out⟩
      go_wp2
      exact HQ.out
  all_goals
    go_wp2_with fail
    refine (KRT.out _).mono ?_
    rintro e' w7 ⟨rfl, b7⟩
    have HQ : Hid (P (.returned (.bool true)) w7) := by
      rw [← HP.out]
      exact Lib.hid ⟨rfl, B6.out.trans (b7.mono B6.out.size)⟩
    clear b7
    go_wp2
    exact HQ.out
end Go.Proofs.YtnpbbmoknlbfaaaGreatDoor
