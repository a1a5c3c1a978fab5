/- TrieOver: the trie of one map over another one. -/
import Derived.Test.YtlmkefmfhdjmmaaDoorBunA13
namespace Go.Proofs.YtlmkefmfhdjmmaaDoor
open Go.RowKit Go.Shelf Go.Maps
attribute [local go_sem] Oper.semAt_some

set_option maxRecDepth 100000 in
set_option maxHeartbeats 4000000 in
theorem over_anyL (o o2 : Option Addr) (l l2 : List Rng) (cap cap2 : Nat) (r : Int) (hc : l.length ≤ cap) (hc2 : l2.length ≤ cap2) (w : World) (hA : AtR w o l) (hA2 : AtR w o2 l2) {aU aS : Addr} (hG : Glob w aU aS) (hE : w.cell? ⟨2, 0, none⟩ = some (rtIN 51)) :
    Calls Tryd.prog 7 #[.slice o l.length cap, .slice o2 l2.length cap2, .int .i64 r] w fun e w' => e = .returned (.bool true) ∧ Below w.heap.size w w' := by
  have HS := Lib.hid (shownT_any w hG)
  have F1 := Lib.hid (few20_any o l cap hc)
  have F2 := Lib.hid (few20_any o2 l2 cap2 hc2)
  have HA := Lib.hid (hA.take 20)
  have HA2 := Lib.hid (hA2.take 20)
  have la : (l.take 20).length ≤ 20 ∧ (l.take 20).length ≤ cap := by rw [List.length_take]; omega
  have lb : (l2.take 20).length ≤ 20 ∧ (l2.take 20).length ≤ cap2 := by rw [List.length_take]; omega
  obtain ⟨na, hna⟩ : ∃ n, l.length = n := ⟨_, rfl⟩
  obtain ⟨nb, hnb⟩ : ∃ n, l2.length = n := ⟨_, rfl⟩
  rw [hna] at F1 ⊢
  rw [hnb] at F2 ⊢
  obtain ⟨A, hAA⟩ : ∃ A, l.take 20 = A := ⟨_, rfl⟩
  obtain ⟨B, hBB⟩ : ∃ A, l2.take 20 = A := ⟨_, rfl⟩
  rw [hAA] at F1 HA la
  rw [hBB] at F2 HA2 lb
  have HG := Lib.hid hG
  have ht2 : (turnsL [A, B]).length = 2 * A.length + 2 * B.length := by unfold turnsL; simp [turnsOf_length]
  have CA := Lib.hid (fun W (bb : Below w.heap.size w W) => Build_any o A cap (by omega) la.2 W (HG.out.below bb) (HA.out.below bb))
  have CO := Lib.hid (fun W (bb : Below w.heap.size w W) => Over_any o o2 A B cap cap2 (by omega) (by omega) (by omega) la.2 lb.2 W (HA.out.below bb) (HA2.out.below bb) (cell_keepN bb hE))
  have CF := Lib.hid (fun W (bb : Below w.heap.size w W) => Find_any o2 B cap2 r (by omega) lb.2 W (HA2.out.below bb))
  obtain ⟨P, hP⟩ : ∃ P, (fun (e : Ending) w' => e = .returned (.bool true) ∧ Below w.heap.size w w') = P := ⟨_, rfl⟩
  have HP := Lib.hid hP
  rw [hP]
  have HLA := Lib.hid la
  have HLB := Lib.hid lb
  have HTT := Lib.hid ht2
  obtain ⟨ka, hka⟩ : ∃ n, A.length = n := ⟨_, rfl⟩
  obtain ⟨kb, hkb⟩ : ∃ n, B.length = n := ⟨_, rfl⟩
  rw [hka] at CA CO F1
  rw [hkb] at CO CF F2
  have HKA := Lib.hid hka
  have HKB := Lib.hid hkb
  clear hA hA2 hc hc2 hna hnb hAA hBB hG hP la lb hE ht2 hka hkb
  go_enter Tryd.func7, Tryd.ntmps7
  go_wp2_with fail
  refine HS.out.mono ?_
  rintro e w1 ⟨rfl, b1⟩
  have B1 := Lib.hid b1
  clear b1 HS
  go_wp2_with fail
  refine (F1.out w1).mono ?_
  rintro e w1' ⟨rfl, rfl⟩
  clear F1
  go_wp2_with fail
  refine (F2.out w1).mono ?_
  rintro e w1' ⟨rfl, rfl⟩
  have CO1 := Lib.hid (CO.out w1 B1.out)
  clear F2 CO
  go_wp2_with fail
  refine CO1.out.mono ?_
  rintro e w2 ⟨b2, h⟩
  have B2 := Lib.hid (B1.out.trans (b2.mono B1.out.size))
  rcases h with ⟨_, rfl⟩ | ⟨hr, so, C, hC, hCl, rfl, hat⟩
  · have HPP : Hid (P (.returned (.bool true)) w2) := by
      rw [← HP.out]
      exact Lib.hid ⟨rfl, B2.out⟩
    clear b2 CO1 CA CF
    go_wp2_with fail
    exact HPP.out
  · have hCl2 : C.length ≤ 600 := by have := HTT.out; have := HLA.out; have := HLB.out; omega
    have rC : rightL C := ⟨hC.1, hCl2⟩
    have rA : rightL A := hr A (by simp)
    have CC := Build_any so C C.length (by omega) (Nat.le_refl _) w2 (HG.out.below B2.out) hat
    rcases buildR_of C with ⟨hn, _⟩ | ⟨_, T, hTC, hR, hrT, hT1, hT2, hT3⟩
    · exact absurd rC hn
    rcases buildR_of A with ⟨hn, _⟩ | ⟨_, U, hUA, hRU, hrU, hU1, hU2, hU3⟩
    · exact absurd rA hn
    rw [hR] at CC
    have HVT : Hid (valueT T r = ((findL B r).getD (valueT U r))) := Lib.hid (by
      rw [← hTC, ← hUA, buildT_value rC.1, buildT_value rA.1, hC.2.2 r]
      simp only [saidL, Option.none_or]
      cases findL B r <;> rfl)
    have HCC := Lib.hid CC
    obtain ⟨kc, hkc⟩ : ∃ n, C.length = n := ⟨_, rfl⟩
    rw [hkc] at HCC ⊢
    obtain ⟨n1, h1⟩ : ∃ n, T.1.length = n := ⟨_, rfl⟩
    obtain ⟨n2, h2⟩ : ∃ n, T.2.length = n := ⟨_, rfl⟩
    obtain ⟨m1, h3⟩ : ∃ n, U.1.length = n := ⟨_, rfl⟩
    obtain ⟨m2, h4⟩ : ∃ n, U.2.length = n := ⟨_, rfl⟩
    have HRU := Lib.hid hRU
    have HVV := Lib.hid (fun (W : World) (io bo : Option Addr) (h : TrieT W io bo T) => value_any io bo T n1 n2 r (by omega) hT2 hT3 W h)
    have HVU := Lib.hid (fun (W : World) (io bo : Option Addr) (h : TrieT W io bo U) => value_any io bo U m1 m2 r (by omega) hU2 hU3 W h)
    rw [h1, h2] at HVV
    rw [h3, h4] at HVU
    have HH1 := Lib.hid h1
    have HH2 := Lib.hid h2
    have HH3 := Lib.hid h3
    have HH4 := Lib.hid h4
    obtain ⟨vt, hvt⟩ : ∃ v, valueT T r = v := ⟨_, rfl⟩
    obtain ⟨vu, hvu⟩ : ∃ v, valueT U r = v := ⟨_, rfl⟩
    rw [hvt] at HVV HVT
    rw [hvu] at HVU HVT
    clear hr hC hCl hCl2 rC rA CC hR hrT hT1 hT2 hT3 hRU hrU hU1 hU2 hU3 hkc h1 h2 h3 h4 hvt hvu hTC hUA b2 hat CO1
    go_wp2_with fail
    refine HCC.out.mono ?_
    rintro e w3 h
    obtain ⟨io, bo, rfl, b3, ht⟩ := trie_box h
    rw [HH1.out, HH2.out]
    obtain ⟨w4, hw4⟩ : ∃ w4, w3.alloc (trieO io n1 n1 bo n2 n2) = w4 := ⟨_, rfl⟩
    obtain ⟨b4, u0, u1, u2⟩ := box_at hw4
    have B4 := Lib.hid (B2.out.trans ((b3.trans (b4.mono b3.size)).mono B2.out.size))
    have HT4 := Lib.hid (ht.below b4)
    have CA1 := CA.out w4 B4.out
    rw [HRU.out] at CA1
    have HCA1 := Lib.hid CA1
    have HW4 := Lib.hid hw4
    clear h b3 hw4 b4 ht CA1 CA HCC
    go_wp2_with fail
    rw [HW4.out]
    refine HCA1.out.mono ?_
    rintro e w5 h
    obtain ⟨jo, co, rfl, b5, ht⟩ := trie_box h
    rw [HH3.out, HH4.out]
    obtain ⟨w6, hw6⟩ : ∃ w6, w5.alloc (trieO jo m1 m1 co m2 m2) = w6 := ⟨_, rfl⟩
    obtain ⟨b6, v0, v1, v2⟩ := box_at hw6
    have D6 := Lib.hid (b5.trans (b6.mono b5.size))
    have B6 := Lib.hid (B4.out.trans (D6.out.mono B4.out.size))
    have HU6 := Lib.hid (ht.below b6)
    have HT6 := Lib.hid (HT4.out.below D6.out)
    have s0 := cell_keepT D6.out u0
    have s1 := cell_keepT D6.out u1
    have CF1 := Lib.hid (CF.out w6 B6.out)
    have HW6 := Lib.hid hw6
    clear h b5 hw6 b6 ht HCA1 u0 u1 u2 CF
    go_wp2_with fail
    rw [HW6.out]
    refine CF1.out.mono ?_
    rintro e w7 ⟨rfl, b7⟩
    have B7 := Lib.hid (B6.out.trans (b7.mono B6.out.size))
    have s0' := cell_keepT b7 s0
    have s1' := cell_keepT b7 s1
    have v0' := cell_keepT b7 v0
    have v1' := cell_keepT b7 v1
    have s2' := World.block_lt_of_cell? _ _ s0'
    have v2' := World.block_lt_of_cell? _ _ v0'
    have HU7 := Lib.hid (HU6.out.below b7)
    have HT7 := Lib.hid (HT6.out.below b7)
    clear s0 s1 v0 v1 v2 b7 CF1
    cases hf : findL B r with
    | some v =>
      rw [hf] at HVT
      have hvv : vt = v := HVT.out
      subst hvv
      have CV := Lib.hid (HVV.out w7 io bo HT7.out)
      have hdd : (vt == vt) = true := by simp
      rw [show ansF (some vt) = .tuple #[.int .i64 vt, .bool true] from rfl]
      clear HVV HVU
      go_wp2_with fail
      refine CV.out.mono ?_
      rintro e w8 ⟨rfl, b8⟩
      have HPP : Hid (P (.returned (.bool true)) w8) := by
        rw [← HP.out]
        exact Lib.hid ⟨rfl, B7.out.trans (b8.mono B7.out.size)⟩
      clear b8
      go_wp2_with fail
      exact HPP.out
    | none =>
      rw [hf] at HVT
      have hvv : vt = vu := HVT.out
      subst hvv
      have CU := Lib.hid (HVU.out w7 jo co HU7.out)
      have hdd : (vt == vt) = true := by simp
      rw [show ansF none = .tuple #[.int .i64 0, .bool false] from rfl]
      clear HVU
      go_wp2_with fail
      refine CU.out.mono ?_
      rintro e w8 ⟨rfl, b8⟩
      have CV := Lib.hid (HVV.out w8 io bo (HT7.out.below b8))
      have B8 := Lib.hid (B7.out.trans (b8.mono B7.out.size))
      have s0 := cell_keepT b8 s0'
      have s1 := cell_keepT b8 s1'
      have s2 := World.block_lt_of_cell? _ _ s0
      clear b8 HVV s0' s1' s2' v0' v1' v2'
      go_wp2_with fail
      refine CV.out.mono ?_
      rintro e w9 ⟨rfl, b9⟩
      have HPP : Hid (P (.returned (.bool true)) w9) := by
        rw [← HP.out]
        exact Lib.hid ⟨rfl, B8.out.trans (b9.mono B8.out.size)⟩
      clear b9
      go_wp2_with fail
      exact HPP.out
end Go.Proofs.YtlmkefmfhdjmmaaDoor
