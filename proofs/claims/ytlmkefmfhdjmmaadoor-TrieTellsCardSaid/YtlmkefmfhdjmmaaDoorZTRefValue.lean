/- The document's own Value of a trie. -/
import Derived.Test.YtlmkefmfhdjmmaaDoorZTRefRight
import Derived.Test.YtlmkefmfhdjmmaaDoorBunN9
import Derived.StillTailTactics
namespace Go.Proofs.YtlmkefmfhdjmmaaDoor
open Go.RowKit Go.Shelf Go.Maps
attribute [local go_sem] Oper.semAt_some

set_option maxRecDepth 100000 in
set_option maxHeartbeats 2000000 in
theorem refValueT_any (io bo : Option Addr) (t : TrieD) (ic bc : Nat) (r : Int) (hi : t.1.length ≤ 1000000) (hb : t.2.length ≤ 1000000) (w : World) (hA : TrieT w io bo t) :
    Calls Tryd.prog 15 #[trieV io t.1.length ic bo t.2.length bc, .int .i64 r] w fun e w' => e = .returned (.int .i64 (valueT t r)) ∧ Below w.heap.size w w' := by
  have A1 : Below w.heap.size w (w.alloc (trieO io t.1.length ic bo t.2.length bc)) := (Below.refl _ _).alloc (Nat.le_refl _) _
  have C1 := Lib.hid (refRightT_any io bo t ic bc hi hb _ (hA.below A1))
  have r1 : (w.alloc (trieO io t.1.length ic bo t.2.length bc)).heap[w.heap.size]? = some (trieO io t.1.length ic bo t.2.length bc) := heap_alloc_new _ _
  obtain ⟨P, hP⟩ : ∃ P, (fun (e : Ending) w' => e = .returned (.int .i64 (valueT t r)) ∧ Below w.heap.size w w') = P := ⟨_, rfl⟩
  have HP := Lib.hid hP
  rw [hP]
  have HA := Lib.hid hA
  obtain ⟨n, hnn⟩ : ∃ n, t.1.length = n := ⟨_, rfl⟩
  obtain ⟨m, hmm⟩ : ∃ n, t.2.length = n := ⟨_, rfl⟩
  have HN := Lib.hid hnn
  have HM := Lib.hid hmm
  rw [hnn] at hi C1 A1 r1 ⊢
  rw [hmm] at hb C1 A1 r1 ⊢
  have ANS : Hid (∀ v, valueT t r = v → ∀ W, Below w.heap.size w W → P (.returned (.int .i64 v)) W) := by
    rw [← HP.out]
    exact Lib.hid fun b h W hb => ⟨by rw [h], hb⟩
  obtain ⟨q, hq⟩ : ∃ q, decide (rightT t) = q := ⟨_, rfl⟩
  rw [hq] at C1
  have HQ1 := Lib.hid hq
  obtain ⟨W, hW⟩ : ∃ W, w.alloc (trieO io n ic bo m bc) = W := ⟨_, rfl⟩
  rw [hW] at A1 r1 C1
  have HA1 := Lib.hid A1
  have HR1 := Lib.hid r1
  have HWW := Lib.hid hW
  have c0 : W.cell? ⟨w.heap.size, 0, none⟩ = some (.slice io n ic) := by rw [cell_of_row _ _ 0 _ _ _ r1]; rfl
  have c1 : W.cell? ⟨w.heap.size, 1, none⟩ = some (.slice bo m bc) := by rw [cell_of_row _ _ 1 _ _ _ r1]; rfl
  have hw0 : w.heap.size < W.heap.size := (Array.getElem?_eq_some_iff.1 r1).1
  clear hP hA hnn hmm hq hW A1 r1
  go_enter Tryd.func15, Tryd.ntmps15
  by_cases h0 : r < 0
  · have HQ := Lib.hid (ANS.out 0 (by unfold valueT; rw [if_neg (by omega)]) W HA1.out)
    clear ANS
    go_wp2_with fail
    rw [HWW.out]
    exact HQ.out
  · by_cases h1 : r > 1114111
    · have HQ := Lib.hid (ANS.out 0 (by unfold valueT; rw [if_neg (by omega)]) W HA1.out)
      clear ANS
      go_wp2_with fail
      rw [HWW.out]
      exact HQ.out
    · go_wp2_with fail
      rw [HWW.out]
      refine C1.out.mono ?_
      rintro e w1 ⟨rfl, b1⟩
      have B1 := Lib.hid (HA1.out.trans (b1.mono HA1.out.size))
      cases q with
      | false =>
        have HQ := Lib.hid (ANS.out 0 (by unfold valueT; rw [if_neg (fun h => by have := HQ1.out; simp at this; exact this h.2.2)]) w1 B1.out)
        clear ANS b1
        go_wp2_with fail
        exact HQ.out
      | true =>
        have hr : rightT t := of_decide_eq_true HQ1.out
        obtain ⟨rn, rfl⟩ := Int.eq_ofNat_of_zero_le (show 0 ≤ r by omega)
        have hi1 : rn / 256 < 4352 := by omega
        obtain ⟨a, ha⟩ : ∃ a, t.1[rn / 256]? = some a := ⟨_, List.getElem?_eq_getElem (by rw [hr.1]; exact hi1)⟩
        have hab := hr.2.1 a (List.mem_of_getElem? ha)
        obtain ⟨an, rfl⟩ := Int.eq_ofNat_of_zero_le hab.1
        obtain ⟨b, hbk⟩ : ∃ b, t.2[an]? = some b := ⟨_, List.getElem?_eq_getElem (by omega)⟩
        have hbf := hr.2.2 b (List.mem_of_getElem? hbk)
        have hk1 : rn % 256 < 256 := by omega
        obtain ⟨v, hv⟩ : ∃ v, b[rn % 256]? = some v := ⟨_, List.getElem?_eq_getElem (by rw [hbf.2]; exact hk1)⟩
        have hval : valueT t ((rn : Nat) : Int) = v := by
          unfold valueT
          rw [if_pos ⟨by omega, by omega, hr⟩]
          unfold saysT
          rw [show (((rn : Nat) : Int) / 256).toNat = rn / 256 by omega, show (((rn : Nat) : Int) % 256).toNat = rn % 256 by omega]
          simp [List.getD, ha, hbk, hv]
        obtain ⟨gi, oi, rfl, hci⟩ := (HA.out.ix.below B1.out) (by rw [hr.1]; omega)
        obtain ⟨gb, ob, rfl, hcb⟩ := (HA.out.bl.below B1.out) (by omega)
        obtain ⟨so, sc, k1, k2, k3⟩ := hcb an b hbk
        obtain ⟨gs, os, rfl, hcs⟩ := k3 (by rw [hbf.2]; omega)
        have k0 := hci _ _ ha
        have k4 := hcs _ _ hv
        rw [hbf.2] at k1 k2
        have d0 := cell_keepT b1 c0
        have d1 := cell_keepT b1 c1
        have HQ := Lib.hid (fun W hb => ANS.out v hval W hb)
        have hn4 : n = 4352 := by rw [← HN.out]; exact hr.1
        have ham : an < m := by have := hab.2; rw [HM.out] at this; omega
        obtain ⟨i1, hi1'⟩ : ∃ i, rn / 256 = i := ⟨_, rfl⟩
        obtain ⟨i2, hi2'⟩ : ∃ i, rn % 256 = i := ⟨_, rfl⟩
        have q1 : (((rn : Nat) : Int)).tdiv 256 = ((i1 : Nat) : Int) := by rw [← hi1']; rfl
        have q2 : (((rn : Nat) : Int)).tmod 256 = ((i2 : Nat) : Int) := by rw [← hi2']; rfl
        rw [hi1'] at k0 hi1
        rw [hi2'] at k4 hk1
        subst hn4
        clear ANS b1 c0 c1 hr ha hab hbk hbf hv hval hci hcb hcs k2 hi1' hi2'
        go_wp2_with fail
        go_quiet (fail)
        go_wp2
        exact HQ.out _ (B1.out.trans ((below_drewN1 _ _).mono B1.out.size))
end Go.Proofs.YtlmkefmfhdjmmaaDoor
