/- back: what is packed loads as it was. -/
import Derived.Test.YtcnbcaljpgdcpaaDoorBunA16
import Derived.Test.YtcnbcaljpgdcpaaDoorBunA17
namespace Go.Proofs.YtcnbcaljpgdcpaaDoor
open Go.RowKit Go.Shelf Go.Maps
attribute [local go_sem] Oper.semAt_some

set_option maxRecDepth 100000 in
set_option maxHeartbeats 4000000 in
theorem back_anyA (io bo : Option Addr) (t : TrieD) (ic bc : Nat) (hf : fineT t) (w : World) (hG : EGlob w) (hA : TrieT w io bo t) :
    Calls Tryd.prog 27 #[trieV io t.1.length ic bo t.2.length bc] w fun e w' => e = .returned (.bool true) ∧ Below w.heap.size w w' := by
  have hT1 : t.1.length ≤ 1000000 := by rw [hf.1.1]; omega
  have hT2 : t.2.length ≤ 1000000 := by have := hf.2; omega
  have hT3 : ∀ b ∈ t.2, b.length ≤ 1000000 := fun b hb => by have := (hf.1.2.2 b hb).2; omega
  have hpl : packL t = (packB t, 0) := by unfold packL; rw [if_pos hf.1, if_pos hf.2]
  have hld := load_pack hf
  have hps := pack_len hf
  obtain ⟨S, hS⟩ : ∃ S : ByteArray, (⟨(packB t).toArray⟩ : ByteArray) = S := ⟨_, rfl⟩
  have hSl : S.data.toList = packB t := by rw [← hS]
  have hSz : S.size = (packB t).length := by rw [size_list, hSl]
  have hsB : strB (packB t) = .string S := by rw [← hS]
  obtain ⟨n, hn⟩ : ∃ n, t.1.length = n := ⟨_, rfl⟩
  obtain ⟨q, hq⟩ : ∃ n, t.2.length = n := ⟨_, rfl⟩
  have A1 := trie_boxA (w := w) (io := io) (bo := bo) (n := n) (ic := ic) (q := q) (bc := bc) rfl
  obtain ⟨W, hW⟩ : ∃ W, w.alloc (trieO io n ic bo q bc) = W := ⟨_, rfl⟩
  rw [hW] at A1
  obtain ⟨b0, r0⟩ := A1
  have CP := Lib.hid (fun w1 (b : Below W.heap.size W w1) => Pack_any io bo t ic bc hT1 hT2 hT3 w1 ((hG.below b0).below b) ((hA.below b0).below b))
  have CZ := Lib.hid (fun w1 (b : Below W.heap.size W w1) => Size_any io bo t ic bc hT1 hT2 hT3 w1 ((hG.below b0).below b) ((hA.below b0).below b))
  have CL := Lib.hid (fun w1 (b : Below W.heap.size W w1) => Load_any S (by omega) w1 ((hG.below b0).below b))
  have CS := Lib.hid (fun jo co jc cc w1 (b : Below W.heap.size W w1) (h2 : TrieT w1 jo co t) => SameT_any io bo jo co t t ic bc jc cc hT1 hT2 hT3 w1 ((hA.below b0).below b) h2)
  rw [hpl] at CP CZ
  unfold LoadQ at CL
  rw [hSl, hld] at CL
  rw [hn, hq, decide_eq_true rfl] at CS
  rw [hn, hq] at CP CZ CL
  simp only [hsB, ← hSz] at CP CZ
  have HW := Lib.hid hW
  have HR0 := Lib.hid r0
  obtain ⟨k0, k1, _, _, k4⟩ := trieO_cells r0
  obtain ⟨P, hP⟩ : ∃ P, (fun (e : Ending) w' => e = .returned (.bool true) ∧ Below w.heap.size w w') = P := ⟨_, rfl⟩
  have HP := Lib.hid hP
  rw [hn, hq, hP]
  have HB0 := Lib.hid b0
  have hzz : (((S.size : Nat) : Int) == ((S.size : Nat) : Int)) = true := by simp
  have hsz3 : S.size ≤ 600000 := by omega
  clear hG hA hf hT1 hT2 hT3 hpl hld hps hS hSl hSz hsB hn hq b0 r0 hW hP
  go_enter Tryd.func27, Tryd.ntmps27
  go_wp2_with fail
  rw [HW.out]
  refine (CP.out W (Below.refl _ _)).mono ?_
  rintro e w1 ⟨rfl, b1⟩
  have HB1 := Lib.hid b1
  have HR1 := Lib.hid (row_below HR0.out b1)
  clear b1 CP
  go_wp2_with fail
  refine (CL.out w1 HB1.out).mono ?_
  rintro e w2 ⟨jo, jc, co, cc, rfl, b2, hT2⟩
  obtain ⟨w3, hw3⟩ : ∃ w3, w2.alloc (trieO jo n jc co q cc) = w3 := ⟨_, rfl⟩
  obtain ⟨b3, r3⟩ := trie_boxA hw3
  have HB3 : Hid (Below W.heap.size W w3) := Lib.hid (HB1.out.trans ((b2.trans (b3.mono b2.size)).mono HB1.out.size))
  have HT3 := Lib.hid (hT2.below b3)
  have HW3 := Lib.hid hw3
  have HR3 := Lib.hid r3
  have R33 := row_below HR0.out HB3.out
  obtain ⟨m0, m1, _, _, m4⟩ := trieO_cells R33
  obtain ⟨p0, p1, _, _, p4⟩ := trieO_cells (row_below HR0.out (HB1.out.trans (b2.mono HB1.out.size)))
  clear b2 hT2 b3 r3 hw3 CL k0 k1 k4 R33
  go_wp2_with fail
  rw [HW3.out]
  go_wp2_with fail
  refine (CZ.out w3 HB3.out).mono ?_
  rintro e w4 ⟨rfl, b4⟩
  have HB4 := Lib.hid (HB3.out.trans (b4.mono HB3.out.size))
  obtain ⟨l0, l1, _, _, l4⟩ := trieO_cells (row_below HR0.out HB4.out)
  obtain ⟨l5, l6, _, _, l7⟩ := trieO_cells (row_below HR3.out b4)
  have HT4 := Lib.hid (HT3.out.below b4)
  clear b4 m0 m1 m4 p0 p1 p4 CZ
  have CS4 := Lib.hid (CS.out jo co jc cc w4 HB4.out HT4.out)
  clear CS
  go_wp2_with fail
  refine CS4.out.mono ?_
  rintro e w5 ⟨rfl, b5⟩
  have HPP : Hid (P (.returned (.bool true)) w5) := by
    rw [← HP.out]
    have h4 := HB0.out.trans (HB4.out.mono HB0.out.size)
    exact Lib.hid ⟨rfl, h4.trans (b5.mono h4.size)⟩
  clear b5 CS4
  go_wp2
  exact HPP.out
end Go.Proofs.YtcnbcaljpgdcpaaDoor
