/- ClassTexts: sets' texts, and sets of texts. -/
import Derived.Test.YtnpbbmoknlbfaaaGreatDoorKRefParse
namespace Go.Proofs.YtnpbbmoknlbfaaaGreatDoor
open Go.RowKit Go.Shelf Go.Maps
attribute [local go_sem] Oper.semAt_some

set_option maxRecDepth 100000 in
set_option maxHeartbeats 4000000 in
theorem texts_anyK (s : Int) (t : ByteArray) (o : Option Addr) (ns : List ByteArray) (cap : Nat) (hn : ns.length ≤ 9223372036854775807) (w : World) (hA : TxtAt w o ns) (hG : KGlob w) :
    Calls Tryz.prog 4 #[.int .i64 s, .string t, .slice o ns.length cap] w fun e w' => e = .returned (.bool true) ∧ Below w.heap.size w w' := by
  have HS := Lib.hid (shownK_any w hG)
  have HF := Lib.hid (fun W (hb : Below w.heap.size w W) => fewT_capK ns hn o cap W (hA.below hb))
  have HG := Lib.hid hG
  have HC := Lib.hid (cutK_any t)
  have hct := cutK_size t
  have hzF : ∀ s ∈ fewTK ns, s.size ≤ 1000 := fun s h => by have := fewT_leK ns s h; omega
  have hlF := fewT_lenK ns
  unfold FewTCK at HF
  obtain ⟨N, hN⟩ : ∃ N, fewTK ns = N := ⟨_, rfl⟩
  rw [hN] at hzF hlF
  simp only [hN] at HF
  obtain ⟨C, hC⟩ : ∃ C, cutK t = C := ⟨_, rfl⟩
  rw [hC] at HC hct
  obtain ⟨k, hk⟩ : ∃ n, ns.length = n := ⟨_, rfl⟩
  simp only [hk] at HF
  rw [hk]
  obtain ⟨P, hP⟩ : ∃ P, (fun (e : Ending) w' => e = .returned (.bool true) ∧ Below w.heap.size w w') = P := ⟨_, rfl⟩
  have HP := Lib.hid hP
  rw [hP]
  have KP : Hid (∀ (o' : Option Addr) (cap' : Nat) W, KGlob W → TxtAt W o' N → Calls Tryz.prog 30 #[.int .i64 s, .slice o' N.length cap'] W fun e w' => e = .returned (.tuple #[strV (printV N s), .int .i64 (printE N s)]) ∧ Below W.heap.size W w') := Lib.hid fun o' cap' W hg ha => Print_anyK o' N cap' s (by omega) hzF W hg ha
  have KQ : Hid (∀ (o' : Option Addr) (cap' : Nat) W, N.length ≤ cap' → TxtAt W o' N → Calls Tryz.prog 31 #[.int .i64 s, .slice o' N.length cap'] W fun e w' => e = .returned (.tuple #[strV (printV N s), .int .i64 (printE N s)]) ∧ Below W.heap.size W w') := Lib.hid fun o' cap' W hg ha => refPrint_any o' N cap' s (by omega) hg hzF W ha
  have KV : Hid (∀ (o' : Option Addr) (cap' : Nat) W, KGlob W → TxtAt W o' N → Calls Tryz.prog 32 #[.string C, .slice o' N.length cap'] W fun e w' => e = .returned (.tuple #[.int .i64 (parseV N C.data.toList), .int .i64 (parseE N C.data.toList)]) ∧ Below W.heap.size W w') := Lib.hid fun o' cap' W hg ha => Parse_anyK o' N cap' C (by omega) (by omega) hzF W hg ha
  have KW : Hid (∀ (o' : Option Addr) (cap' : Nat) W, N.length ≤ cap' → TxtAt W o' N → Calls Tryz.prog 34 #[.string C, .slice o' N.length cap'] W fun e w' => e = .returned (.tuple #[.int .i64 (parseV N C.data.toList), .int .i64 (parseE N C.data.toList)]) ∧ Below W.heap.size W w') := Lib.hid fun o' cap' W hg ha => refParse_any o' N cap' C (by omega) (by omega) hg hzF W ha
  obtain ⟨U, hU⟩ : ∃ U : ByteArray, (⟨(printV N s).toArray⟩ : ByteArray) = U := ⟨_, rfl⟩
  obtain ⟨e, he⟩ : ∃ e, printE N s = e := ⟨_, rfl⟩
  obtain ⟨v, hv⟩ : ∃ v, parseV N C.data.toList = v := ⟨_, rfl⟩
  obtain ⟨g, hg⟩ : ∃ v, parseE N C.data.toList = v := ⟨_, rfl⟩
  obtain ⟨n, hnn⟩ : ∃ n, N.length = n := ⟨_, rfl⟩
  rw [hv, hg] at KV KW
  simp only [strV, hU, he] at KP KQ
  rw [hnn] at KP KQ KV KW hlF
  simp only [hnn] at HF
  have e1 : (e == e) = true := by simp
  have e2 : (v == v) = true := by simp
  have e3 : (g == g) = true := by simp
  clear hA hG hn hN hC hk hP hU he hv hg hnn hzF hct hlF
  go_enter Tryz.func4, Tryz.ntmps4
  go_wp2_with fail
  refine HS.out.mono ?_
  rintro e' w1 ⟨rfl, b1⟩
  have B1 := Lib.hid b1
  clear b1
  go_wp2_with fail
  refine (HF.out _ B1.out).mono ?_
  rintro e' w2 ⟨o2, c2, rfl, hnc, ha2, b2⟩
  have B2 := Lib.hid (B1.out.trans (b2.mono B1.out.size))
  have A2 := Lib.hid ha2
  have G2 := Lib.hid (HG.out.below B2.out)
  have HNC := Lib.hid hnc
  clear b2 ha2 hnc
  go_wp2_with fail
  refine (KP.out o2 c2 w2 G2.out A2.out).mono ?_
  rintro e' w3 ⟨rfl, b3⟩
  have B3 := Lib.hid (B2.out.trans (b3.mono B2.out.size))
  have A3 := Lib.hid (A2.out.below b3)
  clear b3
  go_wp2_with fail
  refine (KQ.out o2 c2 w3 HNC.out A3.out).mono ?_
  rintro e' w4 ⟨rfl, b4⟩
  have B4 := Lib.hid (B3.out.trans (b4.mono B3.out.size))
  have A4 := Lib.hid (A3.out.below b4)
  have G4 := Lib.hid (HG.out.below B4.out)
  clear b4
  go_wp2_with fail
  refine (HC.out _).mono ?_
  rintro e' w5 ⟨rfl, rfl⟩
  go_wp2_with fail
  refine (KV.out o2 c2 w4 G4.out A4.out).mono ?_
  rintro e' w5 ⟨rfl, b5⟩
  have B5 := Lib.hid (B4.out.trans (b5.mono B4.out.size))
  have A5 := Lib.hid (A4.out.below b5)
  clear b5
  go_wp2_with fail
  refine (HC.out _).mono ?_
  rintro e' w6 ⟨rfl, rfl⟩
  go_wp2_with fail
  refine (KW.out o2 c2 w5 HNC.out A5.out).mono ?_
  rintro e' w6 ⟨rfl, b6⟩
  have HQ : Hid (P (.returned (.bool true)) w6) := by
    rw [← HP.out]
    exact Lib.hid ⟨rfl, B5.out.trans (b6.mono B5.out.size)⟩
  clear b6
  go_wp2
  exact HQ.out
end Go.Proofs.YtnpbbmoknlbfaaaGreatDoor
