/- TrieSays: a map's trie says what the map says. -/
import Derived.Test.YtlmkefmfhdjmmaaGreatDoorBunA13
import Derived.Test.YtlmkefmfhdjmmaaGreatDoorBunN9
namespace Go.Proofs.YtlmkefmfhdjmmaaGreatDoor
open Go.RowKit Go.Shelf Go.Maps
attribute [local go_sem] Oper.semAt_some
attribute [local go_sem ↓] app_hide

theorem ansF_eq (s : Option Int) : ansF s = .tuple #[.int .i64 (s.getD 0), .bool s.isSome] := by cases s <;> rfl
theorem someL_more {l : List Rng} {j : Nat} {x : Rng} (h : l[j]? = some x) : someL (l.take (j + 1)) = someL (l.take j) ++ (if 0 < x.2.2 then [x] else []) := by
  unfold someL
  rw [List.take_add_one, h, List.filter_append]
  congr 1
  by_cases h0 : 0 < x.2.2
  · simp [h0]
  · simp [h0]
set_option maxRecDepth 100000 in
set_option maxHeartbeats 8000000 in
theorem says_anyL (o : Option Addr) (l : List Rng) (cap : Nat) (r : Int) (hc : l.length ≤ cap) (w : World) (hA : AtR w o l) {aU aS : Addr} (hG : Glob w aU aS) (hE : w.cell? ⟨2, 0, none⟩ = some (rtIN 45)) :
    Calls Tryz.prog 3 #[.slice o l.length cap, .int .i64 r] w fun e w' => e = .returned (.bool true) ∧ Below w.heap.size w w' := by
  have HS := Lib.hid (shownT_any w hG)
  have F1 := Lib.hid (few20_any o l cap hc)
  have HA := Lib.hid (hA.take 20)
  have la : (l.take 20).length ≤ 20 ∧ (l.take 20).length ≤ cap := by rw [List.length_take]; omega
  obtain ⟨na, hna⟩ : ∃ n, l.length = n := ⟨_, rfl⟩
  rw [hna] at F1 ⊢
  obtain ⟨A, hAA⟩ : ∃ A, l.take 20 = A := ⟨_, rfl⟩
  rw [hAA] at F1 HA la
  have HG := Lib.hid hG
  have HEE := Lib.hid hE
  have CA := Lib.hid (fun W (bb : Below w.heap.size w W) => Build_any o A cap (by omega) la.2 W (HG.out.below bb) (HA.out.below bb))
  have CR := Lib.hid (fun W (bb : Below w.heap.size w W) => Right_any o A cap (by omega) la.2 W (HA.out.below bb))
  have CF := Lib.hid (fun W (bb : Below w.heap.size w W) => Find_any o A cap r (by omega) la.2 W (HA.out.below bb))
  obtain ⟨P, hP⟩ : ∃ P, (fun (e : Ending) w' => e = .returned (.bool true) ∧ Below w.heap.size w w') = P := ⟨_, rfl⟩
  have HP := Lib.hid hP
  rw [hP]
  have HLA := Lib.hid la
  obtain ⟨ka, hka⟩ : ∃ n, A.length = n := ⟨_, rfl⟩
  rw [hka] at CA CR CF F1
  have HKA := Lib.hid hka
  have hka20 : ka ≤ 20 := by rw [← hka]; exact la.1
  clear hA hc hna hAA hG hP la hE hka
  go_enter Tryz.func3, Tryz.ntmps3
  go_wp2_with fail
  refine HS.out.mono ?_
  rintro e w1 ⟨rfl, b1⟩
  have B1 := Lib.hid b1
  clear b1 HS
  go_wp2_with fail
  refine (F1.out w1).mono ?_
  rintro e w1' ⟨rfl, rfl⟩
  have CA1 := Lib.hid (CA.out w1 B1.out)
  clear F1 CA
  go_wp2_with fail
  refine CA1.out.mono ?_
  rintro e w2 h
  rcases buildR_of A with ⟨hn, hR⟩ | ⟨rA, T, hTA, hR, hrT, hT1, hT2, hT3⟩
  · rw [hR] at h
    obtain ⟨io, bo, rfl, b2, _⟩ := trie_box h
    have B2 := Lib.hid (B1.out.trans (b2.mono B1.out.size))
    simp only [List.length_nil]
    obtain ⟨w3, hw3⟩ : ∃ w3, w2.alloc (trieO io 0 0 bo 0 0) = w3 := ⟨_, rfl⟩
    obtain ⟨b3, u0, u1, u2⟩ := box_at hw3
    have B3 := Lib.hid (B2.out.trans (b3.mono B2.out.size))
    have CR1 := CR.out w3 B3.out
    rw [decide_eq_false hn] at CR1
    have HCR := Lib.hid CR1
    have HW3 := Lib.hid hw3
    clear h b2 hR hn CA1 b3 hw3 u1 CR1 CR CF
    go_wp2_with fail
    rw [HW3.out]
    refine HCR.out.mono ?_
    rintro e w4 ⟨rfl, b4⟩
    have v0 := cell_keepT b4 u0
    have HPP : Hid (P (.returned (.bool true)) w4) := by
      rw [← HP.out]
      exact Lib.hid ⟨rfl, B3.out.trans (b4.mono B3.out.size)⟩
    clear b4 u0 u2
    go_wp2_with fail
    exact HPP.out
  · rw [hR] at h
    obtain ⟨io, bo, rfl, b2, ht⟩ := trie_box h
    have B2 := Lib.hid (B1.out.trans (b2.mono B1.out.size))
    obtain ⟨n1, h1⟩ : ∃ n, T.1.length = n := ⟨_, rfl⟩
    obtain ⟨n2, h2⟩ : ∃ n, T.2.length = n := ⟨_, rfl⟩
    simp only [h1, h2]
    obtain ⟨w3, hw3⟩ : ∃ w3, w2.alloc (trieO io n1 n1 bo n2 n2) = w3 := ⟨_, rfl⟩
    obtain ⟨b3, u0, u1, u2⟩ := box_at hw3
    have B3 := Lib.hid (B2.out.trans (b3.mono B2.out.size))
    have HT3 := Lib.hid (ht.below b3)
    have HW3 := Lib.hid hw3
    have HRG := Lib.hid (fun W (bb : Below w3.heap.size w3 W) => Ranges_anyT io bo T n1 n2 (by omega) hT2 hT3 W (HG.out.below (B3.out.trans (bb.mono B3.out.size))) (HT3.out.below bb))
    have HRT := Lib.hid (fun W (bb : Below w3.heap.size w3 W) => rightT_any io bo T n1 n2 (by omega) hT2 hT3 W (HT3.out.below bb))
    have HVT := Lib.hid (fun W (bb : Below w3.heap.size w3 W) => value_any io bo T n1 n2 r (by omega) hT2 hT3 W (HT3.out.below bb))
    rw [show rangesT T = (tghF (sayF A) 1114112, 0) from by rw [← hTA]; exact rangesT_build rA.1 (by have := HLA.out; omega)] at HRG
    rw [h1, h2] at HRG HRT HVT
    rw [decide_eq_true hrT] at HRT
    rw [show valueT T r = (findL A r).getD 0 from by rw [← hTA]; exact buildT_value rA.1 r] at HVT
    obtain ⟨MA, hMA⟩ : ∃ M, tghF (sayF A) 1114112 = M := ⟨_, rfl⟩
    rw [hMA] at HRG
    have HMA := Lib.hid hMA
    have HRA := Lib.hid rA
    obtain ⟨v, hv⟩ : ∃ v, (findL A r).getD 0 = v := ⟨_, rfl⟩
    obtain ⟨ok, hok⟩ : ∃ v, (findL A r).isSome = v := ⟨_, rfl⟩
    rw [hv] at HVT
    have CF1 := CF.out w3 B3.out
    rw [ansF_eq, hv, hok] at CF1
    have HCF := Lib.hid CF1
    have HMAl : Hid (MA.length ≤ 1000) := Lib.hid (by rw [← hMA]; have := tgh_length rA.1; have := HLA.out; omega)
    clear h b2 hR CA1 hT1 hT2 hT3 h1 h2 b3 ht rA hTA hMA hrT hw3 CF1 CF CR hv hok
    go_wp2_with fail
    rw [HW3.out]
    refine HCF.out.mono ?_
    rintro e w4 ⟨rfl, b4⟩
    have D4 := Lib.hid b4
    have B4 := Lib.hid (B3.out.trans (b4.mono B3.out.size))
    have HA4 := Lib.hid (HA.out.below B4.out)
    have v0 := cell_keepT b4 u0
    have v1 := cell_keepT b4 u1
    have v2 := World.block_lt_of_cell? _ _ v0
    clear b4 u0 u1 u2 HCF
    go_wp2_with fail
    go_loopg [10, 11] ka (fun d x10 x11 wr => ∃ (j : Nat) (so : Option Addr) (sc : Nat), x11 = .int .i64 (j : Nat) ∧ x10 = .slice so (someL (A.take j)).length sc ∧ j ≤ ka ∧ ka - j = d ∧ Hid (wr.ownsRow w4.heap.size 36 3 (.slice so (someL (A.take j)).length sc) (someL (A.take j)).length (cellsR (someL (A.take j)))) ∧ Hid (Below w4.heap.size w4 wr))
    case atStart => exact ⟨0, none, 0, rfl, rfl, Nat.zero_le _, rfl, Lib.hid (World.ownsRow_nil _ _ _ _), Lib.hid (Below.refl _ _)⟩
    case round =>
      obtain ⟨j, so, sc, rfl, rfl, hj, rfl, HO, HB⟩ := hrel
      have hwj : IntKind.i64.wrap (((j : Nat) : Int) + 1) = (j : Nat) + 1 := wrap_id (by omega) (by omega)
      rcases Nat.lt_or_ge j ka with hlt | hge
      · have hj1 : j < 1000000 := by omega
        obtain ⟨x, hx⟩ : ∃ x, A[j]? = some x := ⟨_, List.getElem?_eq_getElem (by rw [HKA.out]; exact hlt)⟩
        have hmore := someL_more hx
        obtain ⟨g, off, rfl, hcx⟩ := (HA4.out.below HB.out) (by rw [HKA.out]; omega)
        obtain ⟨k0, k1, k2⟩ := hcx j x hx
        have hg := World.block_lt_of_cell? _ _ k0
        obtain ⟨m, hm⟩ : ∃ m, (someL (A.take j)) = m := ⟨_, rfl⟩
        have hml : m.length ≤ 20 := by rw [← hm]; have := someL_length (A.take j); rw [List.length_take] at this; omega
        rw [hm] at hmore HO ⊢
        obtain ⟨ml, hmll⟩ : ∃ ml, m.length = ml := ⟨_, rfl⟩
        by_cases hx0 : 0 < x.2.2
        · rw [if_pos hx0] at hmore
          have bal : Below wr.heap.size wr (wr.alloc (rngO x)) := (Below.refl _ _).alloc (Nat.le_refl _) _
          obtain ⟨g6, cap6, w6, hr, own6, gr6, hat⟩ := rng_own x (own_below HO.out bal) (by omega) (by have := HB.out.size; have := bal.size; omega) (e := wr.heap.size) (heap_alloc_new wr _)
          have HB6 : Hid (Below w4.heap.size w4 w6) := Lib.hid (by
            refine Moves.below (HB.out.trans (bal.mono HB.out.size)) (by have := HB.out.size; have := bal.size; omega) (Moves.of_grownN gr6) (fun k hk => ?_)
            obtain ⟨_, _, h3⟩ := own_rowT HO.out hk.symm
            exact h3)
          have HO6 : Hid (w6.ownsRow w4.heap.size 36 3 (.slice (some ⟨g6, 0, none⟩) (someL (A.take (j + 1))).length cap6) (someL (A.take (j + 1))).length (cellsR (someL (A.take (j + 1))))) := Lib.hid (by
            rw [hmore, cellsR_append, List.length_append]; exact own6)
          have hlen : (someL (A.take (j + 1))).length = ml + 1 := by rw [hmore, List.length_append, hmll]; rfl
          have HLEN := Lib.hid hlen
          obtain ⟨xa, xb, xv⟩ := x
          simp only at k0 k1 k2 hx0
          have hx1 : xv > 0 := hx0
          rw [hmll] at hr ⊢
          clear hmore hcx hx own6 gr6 hat bal hlen hx0 hm hmll hml
          go_wp2_with fail
          go_roundg (ka - (j + 1))
          case measure => omega
          case rel => exact ⟨j + 1, some ⟨g6, 0, none⟩, cap6, by simp, by rw [HLEN.out], by omega, rfl, HO6, HB6⟩
        · rw [if_neg hx0, List.append_nil] at hmore
          have hx1 : ¬ x.2.2 > 0 := hx0
          obtain ⟨xa, xb, xv⟩ := x
          simp only at k0 k1 k2 hx1
          have HMO := Lib.hid hmore
          rw [hmll]
          have HML := Lib.hid hmll
          clear hmore hcx hx hx0 hm hmll hml
          go_wp2_with fail
          go_roundg (ka - (j + 1))
          case measure => omega
          case rel => exact ⟨j + 1, so, sc, by simp, by rw [HMO.out, HML.out], by omega, rfl, by rw [HMO.out]; exact HO, HB⟩
      · obtain rfl : j = ka := by omega
        have hall : A.take j = A := List.take_of_length_le (by rw [HKA.out]; exact Nat.le_refl _)
        rw [hall] at HO ⊢
        have hge2 : ¬ ((j : Nat) : Int) < ((j : Nat) : Int) := by omega
        have B5 := Lib.hid (B4.out.trans (HB.out.mono B4.out.size))
        have D5 := Lib.hid (D4.out.trans (HB.out.mono D4.out.size))
        have HSO := Lib.hid (at_own HO.out)
        have hcapS := own_cap HO.out
        have hsl : (someL A).length ≤ 20 := by have := someL_length A; have := HKA.out; omega
        have HTG := Lib.hid (fun W (bb : Below wr.heap.size wr W) => Tight_any so (someL A) sc (by omega) (by unfold turnsL; simp [turnsOf_length]; omega) hcapS W (HSO.out.below bb) (cell_keepN (B5.out.trans (bb.mono B5.out.size)) HEE.out))
        obtain ⟨S, hS⟩ : ∃ S, someL A = S := ⟨_, rfl⟩
        have HLAY : Hid (∀ m, isLay [S] m → MA = m) := Lib.hid fun m hm => by rw [← HMA.out]; exact tgh_some HRA.out.1 (by rw [hS]; exact hm)
        have HSR : Hid (rightL S) := Lib.hid ⟨by rw [← hS]; exact someL_map HRA.out.1, by rw [← hS]; omega⟩
        rw [hS] at HTG ⊢
        obtain ⟨sl, hsll⟩ : ∃ sl, S.length = sl := ⟨_, rfl⟩
        rw [hsll] at HTG ⊢
        have s0 := cell_keepT HB.out v0
        have s1 := cell_keepT HB.out v1
        have s2 := World.block_lt_of_cell? _ _ s0
        have CRG := Lib.hid (HRG.out wr D5.out)
        clear hall HO HSO hcapS hsl hS hsll HRG v0 v1 v2
        go_wp2_with fail
        refine CRG.out.mono ?_
        rintro e w6 ⟨o6, rfl, b6, at6⟩
        have B6 := Lib.hid (B5.out.trans (b6.mono B5.out.size))
        have D6 := Lib.hid (D5.out.trans (b6.mono D5.out.size))
        have HAT6 := Lib.hid at6
        have CT := Lib.hid (HTG.out w6 b6)
        have p0 := cell_keepT b6 s0
        have p1 := cell_keepT b6 s1
        obtain ⟨ml, hml⟩ : ∃ ml, MA.length = ml := ⟨_, rfl⟩
        simp only [hml]
        have HML := Lib.hid hml
        clear b6 at6 HTG s0 s1 s2 CRG hml
        go_wp2_with fail
        refine CT.out.mono ?_
        rintro e w7 ⟨b7, hL⟩
        rcases hL with ⟨hno, _⟩ | ⟨_, o7, m, hm, _, rfl, hat⟩
        · exact absurd (by intro z hz; rw [List.mem_singleton.1 hz]; exact HSR.out) hno
        · obtain rfl := HLAY.out m hm
          rw [HML.out]
          have B7 := Lib.hid (B6.out.trans (b7.mono B6.out.size))
          have D7 := Lib.hid (D6.out.trans (b7.mono D6.out.size))
          have HAT7 := Lib.hid (HAT6.out.below b7)
          have HAU7 := Lib.hid hat
          have q0 := cell_keepT b7 p0
          have q1 := cell_keepT b7 p1
          have q2 := World.block_lt_of_cell? _ _ q0
          have CRT := Lib.hid (HRT.out w7 D7.out)
          clear b7 hat hm p0 p1 CT HRT
          go_wp2_with fail
          refine CRT.out.mono ?_
          rintro e w8 ⟨rfl, b8⟩
          have B8 := Lib.hid (B7.out.trans (b8.mono B7.out.size))
          have D8 := Lib.hid (D7.out.trans (b8.mono D7.out.size))
          have HAT8 := Lib.hid (HAT7.out.below b8)
          have HAU8 := Lib.hid (HAU7.out.below b8)
          have r0 := cell_keepT b8 q0
          have r1 := cell_keepT b8 q1
          have r2 := World.block_lt_of_cell? _ _ r0
          have CVT := Lib.hid (HVT.out w8 D8.out)
          clear b8 q0 q1 q2 CRT HVT
          go_wp2_with fail
          refine CVT.out.mono ?_
          rintro e w9 ⟨rfl, b9⟩
          have B9 := Lib.hid (B8.out.trans (b9.mono B8.out.size))
          have CS := Same_any o6 o7 MA MA MA.length MA.length (by have := HMAl.out; omega) w9 (HAT8.out.below b9) (HAU8.out.below b9)
          rw [decide_eq_true rfl, HML.out] at CS
          have HCS := Lib.hid CS
          have hvv : (v == v) = true := by simp
          clear b9 r0 r1 r2 CVT CS
          go_wp2_with fail
          refine HCS.out.mono ?_
          rintro e w10 ⟨rfl, b10⟩
          have HPP : Hid (P (.returned (.bool true)) w10) := by
            rw [← HP.out]
            exact Lib.hid ⟨rfl, B9.out.trans (b10.mono B9.out.size)⟩
          clear b10
          go_wp2_with fail
          exact HPP.out
end Go.Proofs.YtlmkefmfhdjmmaaGreatDoor
