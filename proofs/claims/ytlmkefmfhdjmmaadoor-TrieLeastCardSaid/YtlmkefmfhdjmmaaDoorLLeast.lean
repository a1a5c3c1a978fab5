/- TrieLeast: a map's trie is the least one, and so is that of its ranges. -/
import Derived.Test.YtlmkefmfhdjmmaaDoorBunA13
namespace Go.Proofs.YtlmkefmfhdjmmaaDoor
open Go.RowKit Go.Shelf Go.Maps
attribute [local go_sem] Oper.semAt_some

set_option maxRecDepth 100000 in
set_option maxHeartbeats 4000000 in
theorem least_anyL (o : Option Addr) (l : List Rng) (cap : Nat) (hc : l.length ≤ cap) (w : World) (hA : AtR w o l) {aU aS : Addr} (hG : Glob w aU aS) :
    Calls Tryd.prog 5 #[.slice o l.length cap] w fun e w' => e = .returned (.bool true) ∧ Below w.heap.size w w' := by
  have HS := Lib.hid (shownT_any w hG)
  have F1 := Lib.hid (few20_any o l cap hc)
  have HA := Lib.hid (hA.take 20)
  have la : (l.take 20).length ≤ 20 ∧ (l.take 20).length ≤ cap := by rw [List.length_take]; omega
  obtain ⟨na, hna⟩ : ∃ n, l.length = n := ⟨_, rfl⟩
  rw [hna] at F1 ⊢
  obtain ⟨A, hAA⟩ : ∃ A, l.take 20 = A := ⟨_, rfl⟩
  rw [hAA] at F1 HA la
  have HG := Lib.hid hG
  have CA := Lib.hid (fun W (bb : Below w.heap.size w W) => Build_any o A cap (by omega) la.2 W (HG.out.below bb) (HA.out.below bb))
  obtain ⟨P, hP⟩ : ∃ P, (fun (e : Ending) w' => e = .returned (.bool true) ∧ Below w.heap.size w w') = P := ⟨_, rfl⟩
  have HP := Lib.hid hP
  rw [hP]
  have HLA := Lib.hid la
  clear hA hc hna hAA hG hP la
  go_enter Tryd.func5, Tryd.ntmps5
  go_wp2_with fail
  refine HS.out.mono ?_
  rintro e w1 ⟨rfl, b1⟩
  have B1 := Lib.hid b1
  clear b1 HS
  go_wp2_with fail
  refine (F1.out w1).mono ?_
  rintro e w1' ⟨rfl, rfl⟩
  have CA1 := Lib.hid (CA.out w1 B1.out)
  obtain ⟨ka, hka⟩ : ∃ n, A.length = n := ⟨_, rfl⟩
  rw [hka] at CA1 ⊢
  clear F1 CA
  go_wp2_with fail
  refine CA1.out.mono ?_
  rintro e w2 h
  rcases buildR_of A with ⟨hn, hR⟩ | ⟨rA, T, hTA, hR, hrT, hT1, hT2, hT3⟩
  · rw [hR] at h
    obtain ⟨io, bo, rfl, b2, _⟩ := trie_box h
    simp only [List.length_nil]
    have HPP : Hid (P (.returned (.bool true)) (w2.alloc (trieO io 0 0 bo 0 0))) := by
      rw [← HP.out]
      exact Lib.hid ⟨rfl, (B1.out.trans (b2.mono B1.out.size)).alloc (B1.out.trans (b2.mono B1.out.size)).size _⟩
    clear h b2 hR hn CA1
    go_wp2_with fail
    exact HPP.out
  · rw [hR] at h
    obtain ⟨io, bo, rfl, b2, ht⟩ := trie_box h
    have B2 := Lib.hid (B1.out.trans (b2.mono B1.out.size))
    obtain ⟨n1, h1⟩ : ∃ n, T.1.length = n := ⟨_, rfl⟩
    obtain ⟨n2, h2⟩ : ∃ n, T.2.length = n := ⟨_, rfl⟩
    simp only [h1, h2]
    obtain ⟨w3, hw3⟩ : ∃ w3, w2.alloc (trieO io n1 n1 bo n2 n2) = w3 := ⟨_, rfl⟩
    obtain ⟨b3, u0, u1, u2⟩ := box_at hw3
    have B3 := Lib.hid (B2.out.trans (b3.mono B2.out.size))
    have HT3 := Lib.hid (ht.below b3)
    have HW3 := Lib.hid hw3
    have HRG := Lib.hid (fun W (bb : Below w3.heap.size w3 W) => Ranges_anyT io bo T n1 n2 (by omega) hT2 hT3 W (HG.out.below (B3.out.trans (bb.mono B3.out.size))) (HT3.out.below bb))
    have HLS := Lib.hid (fun W (bb : Below w3.heap.size w3 W) => Least_any io bo T n1 n2 (by omega) hT2 hT3 W (HG.out.below (B3.out.trans (bb.mono B3.out.size))) (HT3.out.below bb))
    have HSM := Lib.hid (fun W (bb : Below w3.heap.size w3 W) (jo co : Option Addr) (jc cc : Nat) (hB : TrieT W jo co T) => SameT_any io bo jo co T T n1 n2 jc cc (by omega) hT2 hT3 W (HT3.out.below bb) hB)
    rw [show rangesT T = (tghF (sayF A) 1114112, 0) from by rw [← hTA]; exact rangesT_build rA.1 (by have := HLA.out; omega)] at HRG
    rw [show leastR T = (T, 0) from by unfold leastR; rw [if_pos hrT, ← hTA, buildT_least]] at HLS
    rw [h1, h2] at HRG HSM HLS
    rw [decide_eq_true rfl] at HSM
    obtain ⟨MA, hMA⟩ : ∃ M, tghF (sayF A) 1114112 = M := ⟨_, rfl⟩
    rw [hMA] at HRG
    have hMAl : MA.length ≤ 600 := by rw [← hMA]; have := tgh_length rA.1; have := HLA.out; omega
    have hMR : rightL MA := ⟨by rw [← hMA]; exact (tghF_lay (sayF_ok rA.1) (Nat.le_refl _)).1, hMAl⟩
    have hBM : buildR MA = (T, 0) := by unfold buildR; rw [if_pos hMR, ← hMA, build_tgh rA.1, hTA]
    have HBM := Lib.hid hBM
    have HHL := Lib.hid hMAl
    have HH1 := Lib.hid h1
    have HH2 := Lib.hid h2
    have CL := Lib.hid (HLS.out w3 (Below.refl _ _))
    have HUU := Lib.hid (show w3.cell? ⟨w2.heap.size, 0, none⟩ = some (.slice io n1 n1) ∧ w3.cell? ⟨w2.heap.size, 1, none⟩ = some (.slice bo n2 n2) from ⟨u0, u1⟩)
    rw [← hw3] at u0 u1 u2
    clear h b2 hw3 hR CA1 hT1 hT2 hT3 h1 h2 b3 ht rA hTA hMA hMAl hrT hMR hBM HLS
    go_wp2_with fail
    rw [HW3.out]
    refine CL.out.mono ?_
    rintro e w4 h
    obtain ⟨io4, bo4, rfl, b4, ht4⟩ := trie_box h
    rw [HH1.out, HH2.out]
    obtain ⟨w5, hw5⟩ : ∃ w5, w4.alloc (trieO io4 n1 n1 bo4 n2 n2) = w5 := ⟨_, rfl⟩
    obtain ⟨b5, v0, v1, v2⟩ := box_at hw5
    have D5 := Lib.hid (b4.trans (b5.mono b4.size))
    have B5 := Lib.hid (B3.out.trans (D5.out.mono B3.out.size))
    clear u0 u1 u2
    have s0 := cell_keepT D5.out HUU.out.1
    have s1 := cell_keepT D5.out HUU.out.2
    have s2 := World.block_lt_of_cell? _ _ s0
    have HT5 := Lib.hid (ht4.below b5)
    have CR1 := Lib.hid (HRG.out w5 D5.out)
    have HW5 := Lib.hid hw5
    have HSS := Lib.hid (show w5.cell? ⟨w2.heap.size, 0, none⟩ = some (.slice io n1 n1) ∧ w5.cell? ⟨w2.heap.size, 1, none⟩ = some (.slice bo n2 n2) ∧ w5.cell? ⟨w4.heap.size, 0, none⟩ = some (.slice io4 n1 n1) ∧ w5.cell? ⟨w4.heap.size, 1, none⟩ = some (.slice bo4 n2 n2) from ⟨s0, s1, v0, v1⟩)
    rw [← hw5] at s0 s1 s2 v0 v1 v2
    clear h b4 hw5 ht4 b5 HRG CL
    go_wp2_with fail
    rw [HW5.out]
    refine CR1.out.mono ?_
    rintro e w6 ⟨o6, rfl, b6, at6⟩
    have B6 := Lib.hid (B5.out.trans (b6.mono B5.out.size))
    have D6 := Lib.hid (D5.out.trans (b6.mono D5.out.size))
    have HT6 := Lib.hid (HT5.out.below b6)
    have CBM := Build_any o6 MA MA.length (by have := HHL.out; omega) (Nat.le_refl _) w6 (HG.out.below B6.out) at6
    rw [HBM.out] at CBM
    clear s0 s1 s2 v0 v1 v2
    obtain ⟨s0, s1, v0, v1⟩ := HSS.out
    have s0' := cell_keepT b6 s0
    have s1' := cell_keepT b6 s1
    have v0' := cell_keepT b6 v0
    have v1' := cell_keepT b6 v1
    obtain ⟨xa, hxa⟩ : ∃ n, MA.length = n := ⟨_, rfl⟩
    rw [hxa] at CBM
    simp only [hxa]
    have HCBM := Lib.hid CBM
    clear b6 at6 hxa CR1 v0 v1 s0 s1 HSS CBM
    go_wp2_with fail
    refine HCBM.out.mono ?_
    rintro e w7 h
    obtain ⟨io7, bo7, rfl, b7, ht7⟩ := trie_box h
    rw [HH1.out, HH2.out]
    obtain ⟨w8, hw8⟩ : ∃ w8, w7.alloc (trieO io7 n1 n1 bo7 n2 n2) = w8 := ⟨_, rfl⟩
    obtain ⟨b8, x0, x1, x2⟩ := box_at hw8
    have D8 := Lib.hid (b7.trans (b8.mono b7.size))
    have B8 := Lib.hid (B6.out.trans (D8.out.mono B6.out.size))
    have E8 := Lib.hid (D6.out.trans (D8.out.mono D6.out.size))
    have s0 := cell_keepT D8.out s0'
    have s1 := cell_keepT D8.out s1'
    have v0 := cell_keepT D8.out v0'
    have v1 := cell_keepT D8.out v1'
    have s2 := World.block_lt_of_cell? _ _ s0
    have v2 := World.block_lt_of_cell? _ _ v0
    have HT8 := Lib.hid (ht7.below b8)
    have CS1 := HSM.out w8 E8.out io4 bo4 n1 n2 (HT6.out.below D8.out)
    have HCS1 := Lib.hid CS1
    have HW8 := Lib.hid hw8
    have HSS := Lib.hid (show w8.cell? ⟨w2.heap.size, 0, none⟩ = some (.slice io n1 n1) ∧ w8.cell? ⟨w2.heap.size, 1, none⟩ = some (.slice bo n2 n2) ∧ w8.cell? ⟨w7.heap.size, 0, none⟩ = some (.slice io7 n1 n1) ∧ w8.cell? ⟨w7.heap.size, 1, none⟩ = some (.slice bo7 n2 n2) from ⟨s0, s1, x0, x1⟩)
    rw [← hw8] at s0 s1 s2 v0 v1 v2 x0 x1 x2
    clear h b7 hw8 ht7 b8 HCBM CS1 s0' s1' v0' v1'
    go_wp2_with fail
    rw [HW8.out]
    refine HCS1.out.mono ?_
    rintro e w9 ⟨rfl, b9⟩
    clear s0 s1 s2 v0 v1 v2 x0 x1 x2
    obtain ⟨s0', s1', x0', x1'⟩ := HSS.out
    have s0 := cell_keepT b9 s0'
    have s1 := cell_keepT b9 s1'
    have x0 := cell_keepT b9 x0'
    have x1 := cell_keepT b9 x1'
    have s2 := World.block_lt_of_cell? _ _ s0
    have x2 := World.block_lt_of_cell? _ _ x0
    have B9 := Lib.hid (B8.out.trans (b9.mono B8.out.size))
    have HCS2 := Lib.hid (HSM.out w9 (E8.out.trans (b9.mono E8.out.size)) io7 bo7 n1 n2 (HT8.out.below b9))
    clear b9 s0' s1' x0' x1' HSS HCS1
    go_wp2_with fail
    refine HCS2.out.mono ?_
    rintro e w10 ⟨rfl, b10⟩
    have HPP : Hid (P (.returned (.bool true)) w10) := by
      rw [← HP.out]
      exact Lib.hid ⟨rfl, B9.out.trans (b10.mono B9.out.size)⟩
    clear b10
    go_wp2_with fail
    exact HPP.out
end Go.Proofs.YtlmkefmfhdjmmaaDoor
