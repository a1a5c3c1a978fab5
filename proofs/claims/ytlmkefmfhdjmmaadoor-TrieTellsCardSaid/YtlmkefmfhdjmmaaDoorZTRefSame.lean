/- The document's own Same of tries. -/
import Derived.Test.YtlmkefmfhdjmmaaDoorBunA4
namespace Go.Proofs.YtlmkefmfhdjmmaaDoor
open Go.RowKit Go.Shelf Go.Maps
attribute [local go_sem] Oper.semAt_some

set_option maxRecDepth 100000 in
set_option maxHeartbeats 4000000 in
theorem refSameT_any (io bo jo co : Option Addr) (s t : TrieD) (ic bc jc cc : Nat) (hi : s.1.length ≤ 1000000) (hb : s.2.length ≤ 1000000) (hbb : ∀ b ∈ s.2, b.length ≤ 1000000) (w : World) (hA : TrieT w io bo s) (hB : TrieT w jo co t) :
    Calls Tryd.prog 13 #[trieV io s.1.length ic bo s.2.length bc, trieV jo t.1.length jc co t.2.length cc] w fun e w' => e = .returned (.bool (decide (s = t))) ∧ Below w.heap.size w w' := by
  obtain ⟨P, hP⟩ : ∃ P, (fun (e : Ending) w' => e = .returned (.bool (decide (s = t))) ∧ Below w.heap.size w w') = P := ⟨_, rfl⟩
  have HP := Lib.hid hP
  rw [hP]
  obtain ⟨ix, bs⟩ := s
  obtain ⟨jx, ds⟩ := t
  simp only at hi hb hbb ⊢
  obtain ⟨W, hW⟩ : ∃ W, (w.alloc (trieO io ix.length ic bo bs.length bc)).alloc (trieO jo jx.length jc co ds.length cc) = W := ⟨_, rfl⟩
  have A1 : Below w.heap.size w W := by rw [← hW]; exact ((Below.refl _ _).alloc (Nat.le_refl _) _).alloc (by simp) _
  have r2 : W.heap[w.heap.size + 1]? = some (trieO jo jx.length jc co ds.length cc) := by
    rw [← hW]
    have := heap_alloc_new (w.alloc (trieO io ix.length ic bo bs.length bc)) (trieO jo jx.length jc co ds.length cc)
    rwa [World.size_alloc] at this
  have r1 : W.heap[w.heap.size]? = some (trieO io ix.length ic bo bs.length bc) := by
    rw [← hW]
    have b : Below (w.alloc (trieO io ix.length ic bo bs.length bc)).heap.size (w.alloc (trieO io ix.length ic bo bs.length bc)) ((w.alloc (trieO io ix.length ic bo bs.length bc)).alloc (trieO jo jx.length jc co ds.length cc)) := (Below.refl _ _).alloc (Nat.le_refl _) _
    exact (b.block _ (by simp)).trans (heap_alloc_new _ _)
  have hd : ∀ q, Below w.heap.size w (W.drewN q) := fun q => by
    induction q with
    | zero => exact A1
    | succ q ih => exact ih.drew
  have C1 := Lib.hid (fun q => refIntsT_any io jo ix jx ic jc hi (W.drewN q) (hA.ix.below (hd q)) (hB.ix.below (hd q)))
  have HBA := Lib.hid (hA.bl.below A1)
  have HBB := Lib.hid (hB.bl.below A1)
  have HZ := Lib.hid hbb
  obtain ⟨n, hnn⟩ : ∃ n, ix.length = n := ⟨_, rfl⟩
  obtain ⟨n2, hnn2⟩ : ∃ n, jx.length = n := ⟨_, rfl⟩
  obtain ⟨m, hmm⟩ : ∃ n, bs.length = n := ⟨_, rfl⟩
  obtain ⟨m2, hmm2⟩ : ∃ n, ds.length = n := ⟨_, rfl⟩
  have HM := Lib.hid hmm
  have HM2 := Lib.hid hmm2
  rw [hnn, hmm] at hW r1
  rw [hnn2, hmm2] at hW r2
  rw [hnn] at hi C1 ⊢
  rw [hnn2] at C1 ⊢
  rw [hmm] at hb ⊢
  rw [hmm2]
  have HWW := Lib.hid hW
  have c0 : W.cell? ⟨w.heap.size, 0, none⟩ = some (.slice io n ic) := by rw [cell_of_row _ _ 0 _ _ _ r1]; rfl
  have c1 : W.cell? ⟨w.heap.size, 1, none⟩ = some (.slice bo m bc) := by rw [cell_of_row _ _ 1 _ _ _ r1]; rfl
  have d0 : W.cell? ⟨w.heap.size + 1, 0, none⟩ = some (.slice jo n2 jc) := by rw [cell_of_row _ _ 0 _ _ _ r2]; rfl
  have d1 : W.cell? ⟨w.heap.size + 1, 1, none⟩ = some (.slice co m2 cc) := by rw [cell_of_row _ _ 1 _ _ _ r2]; rfl
  have hw0 : w.heap.size + 1 < W.heap.size := (Array.getElem?_eq_some_iff.1 r2).1
  have hw1 : w.heap.size < W.heap.size := by omega
  have ANS : Hid (∀ b, decide (((ix, bs) : TrieD) = (jx, ds)) = b → ∀ q, P (.returned (.bool b)) (W.drewN q)) := by
    rw [← HP.out]
    exact Lib.hid fun b h q => ⟨by rw [h], hd q⟩
  obtain ⟨D, hD⟩ : ∃ D, decide (ix = jx) = D := ⟨_, rfl⟩
  rw [hD] at C1
  have HD := Lib.hid hD
  clear hP hnn hnn2 hmm hmm2 hA hB A1 r1 r2 hbb hW hd hD
  go_enter Tryd.func13, Tryd.ntmps13
  go_wp2_with fail
  rw [HWW.out]
  refine (C1.out 0).mono ?_
  rintro e w1 ⟨rfl, q0, rfl⟩
  rw [World.drewN_drewN]
  cases D with
  | false =>
    have HQ := Lib.hid (ANS.out false (decide_eq_false fun h => by have := HD.out; simp at this; exact this (by injection h)) q0)
    clear ANS
    go_wp2_with fail
    exact HQ.out
  | true =>
    have hix : ix = jx := of_decide_eq_true HD.out
    by_cases hmm : m = m2
    · subst hmm
      have HIX := Lib.hid hix
      clear hix
      go_wp2_with fail
      go_loopg [5] m (fun k v wr => ∃ (j q : Nat), v = .int .i64 (j : Nat) ∧ j ≤ m ∧ k = m - j ∧ Hid (bs.take j = ds.take j) ∧ wr = W.drewN q)
      case atStart => exact ⟨0, q0, rfl, Nat.zero_le _, rfl, Lib.hid rfl, rfl⟩
      case round =>
        obtain ⟨j, q, rfl, hj, rfl, HT, rfl⟩ := hrel
        have hwj : IntKind.i64.wrap (((j : Nat) : Int) + 1) = (j : Nat) + 1 := wrap_id (by omega) (by omega)
        rcases Nat.lt_or_ge j m with hlt | hge
        · have hj1 : j < 1000000 := by omega
          obtain ⟨x, hx⟩ : ∃ x, bs[j]? = some x := ⟨_, List.getElem?_eq_getElem (by rw [HM.out]; exact hlt)⟩
          obtain ⟨y, hy⟩ : ∃ x, ds[j]? = some x := ⟨_, List.getElem?_eq_getElem (by rw [HM2.out]; exact hlt)⟩
          obtain ⟨g, off, rfl, hc⟩ := HBA.out (by rw [HM.out]; omega)
          obtain ⟨g', off', rfl, hc'⟩ := HBB.out (by rw [HM2.out]; omega)
          obtain ⟨so, sc, k0, _, k2⟩ := hc j x hx
          obtain ⟨so', sc', l0, _, l2⟩ := hc' j y hy
          have hg := World.block_lt_of_cell? W _ k0
          have hg' := World.block_lt_of_cell? W _ l0
          have hd : ∀ q, Below W.heap.size W (W.drewN q) := fun q => by
            induction q with
            | zero => exact Below.refl _ _
            | succ q ih => exact ih.drew
          have hints : ∀ z, Calls Tryd.prog 33 #[.slice so x.length sc, .slice so' y.length sc'] (W.drewN (q + z)) fun e w' => e = .returned (.bool (decide (x = y))) ∧ ∃ k, w' = W.drewN (q + k) := fun z =>
            (refIntsT_any so so' x y sc sc' (HZ.out x (List.mem_of_getElem? hx)) (W.drewN (q + z)) (k2.below (hd _)) (l2.below (hd _))).mono fun e w' ⟨h1, k, h2⟩ => ⟨h1, z + k, by rw [h2, World.drewN_drewN, Nat.add_assoc]⟩
          obtain ⟨xl, hxl⟩ : ∃ n, x.length = n := ⟨_, rfl⟩
          obtain ⟨yl, hyl⟩ : ∃ n, y.length = n := ⟨_, rfl⟩
          rw [hxl, hyl] at hints
          rw [hxl] at k0
          rw [hyl] at l0
          by_cases hxy : x = y
          · have HT2 : Hid (bs.take (j + 1) = ds.take (j + 1)) := Lib.hid (by rw [List.take_add_one, List.take_add_one, HT.out, hx, hy, hxy])
            rw [decide_eq_true hxy] at hints
            have HI := Lib.hid hints
            clear hc hc' hx hy ANS hxy hints hd k2 l2 hxl hyl
            go_wp2_with fail
            go_quiet ((exact HI.out _))
            go_wp2
            go_roundg (m - (j + 1))
            case measure => omega
            case rel => exact ⟨j + 1, q + nq, by simp, by omega, rfl, HT2, (World.drewN_drewN W q nq).symm ▸ rfl⟩
          · have HQ := Lib.hid (ANS.out false (decide_eq_false fun h => hxy (by injection h with _ h; rw [h, hy] at hx; exact (Option.some.inj hx).symm)))
            rw [decide_eq_false hxy] at hints
            have HI := Lib.hid hints
            clear hc hc' hx hy ANS hxy hints hd k2 l2 hxl hyl
            go_wp2_with fail
            go_quiet ((exact HI.out _))
            go_wp2
            exact (World.drewN_drewN W q nq).symm ▸ HQ.out (q + nq)
        · obtain rfl : j = m := by omega
          have hT := HT.out
          rw [List.take_of_length_le (by rw [HM.out]; exact Nat.le_refl _), List.take_of_length_le (by rw [HM2.out]; exact Nat.le_refl _)] at hT
          have HQ := Lib.hid (ANS.out true (decide_eq_true (by rw [HIX.out, hT])) q)
          clear hT HT ANS
          go_wp2
          exact HQ.out
    · have HQ := Lib.hid (ANS.out false (decide_eq_false fun h => hmm (by injection h with _ h; rw [← HM.out, h, HM2.out])) q0)
      have hb : (((m : Nat) : Int) != ((m2 : Nat) : Int)) = true := by simp; omega
      clear ANS
      go_wp2_with fail
      exact HQ.out
end Go.Proofs.YtlmkefmfhdjmmaaDoor
