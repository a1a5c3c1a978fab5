/- The document's own next and Over, of ranges. -/
import Derived.Test.YtkhniogmogcjlaaDoorNRefTight
import Derived.Test.YtkhniogmogcjlaaDoorNApp
namespace Go.Proofs.YtkhniogmogcjlaaDoor
open Go.RowKit Go.Shelf Go.Maps
attribute [local go_sem] Oper.semAt_some
attribute [local go_sem ↓] app_hide

theorem next_bounds {l : List Rng} (hl : ∀ x ∈ l, okR x) (r : Int) : ∀ (l' : List Rng) (n : Int), (∀ x ∈ l', x ∈ l) → -1 ≤ n → n ≤ 1114111 → -1 ≤ l'.foldl (nextStep r) n ∧ l'.foldl (nextStep r) n ≤ 1114111
  | [], n, _, h1, h2 => ⟨h1, h2⟩
  | x :: t, n, hs, h1, h2 => by
    have hx := hl x (hs x List.mem_cons_self)
    unfold okR at hx
    have h3 : -1 ≤ nextStep r n x := by
      unfold nextStep
      simp only
      split <;> split <;> omega
    exact next_bounds hl r t _ (fun y hy => hs y (List.mem_cons_of_mem _ hy)) h3 (Int.le_trans (nextStep_le r n x) h2)
theorem both_app {W : World} {a b : List Rng} {o1 o2 : Option Addr} (c1 c2 : Nat) (hn : a.length + b.length ≤ 10000) (h1 : AtR W o1 a) (h2 : AtR W o2 b) :
    ∃ p1 q1 w1 p2 q2 w2, (appSem #[22, 22] 22 #[.slice none 0 0, .slice o1 a.length c1]).run Tryd.prog W = .ok (.slice p1 a.length q1) w1 ∧
      (appSem #[22, 22] 22 #[.slice p1 a.length q1, .slice o2 b.length c2]).run Tryd.prog w1 = .ok (.slice p2 (a.length + b.length) q2) w2 ∧
      AtR w2 p2 (a ++ b) ∧ Below W.heap.size W w2 := by
  obtain ⟨p1, q1, w1, r1, own1, g1, b1⟩ := rngs_own (W := W) (base := W.heap.size) a o1 c1 h1 (World.ownsRow_nil W _ _ _) (by omega) (Nat.le_refl _)
  have m1 : Below W.heap.size W w1 := Moves.below (Below.refl _ _) (Nat.le_refl _) (Moves.of_grown g1) (fun k h => by simp [Value.ownBlock] at h)
  obtain ⟨p2, q2, w2, r2, own2, g2, b2⟩ := rngs_own (W := w1) (base := W.heap.size) b o2 c2 (h2.below m1) own1 (by omega) m1.size
  have m2 : Below W.heap.size W w2 := Moves.below m1 m1.size (Moves.of_grown g2) (fun k h => by
    rcases b1 with e | e
    · rw [e] at h; simp [Value.ownBlock] at h
    · rw [e] at h; cases h; exact Nat.le_refl _)
  rw [Nat.zero_add] at r1 r2 own2
  have own3 : w2.ownsRow W.heap.size 38 3 (.slice p2 (a ++ b).length q2) (a ++ b).length (cellsR (a ++ b)) := by
    rw [List.length_append, cellsR_append]
    simpa using own2
  exact ⟨p1, q1, w1, p2, q2, w2, r1, r2, at_own own3, m2⟩
set_option maxRecDepth 100000 in
set_option maxHeartbeats 4000000 in
theorem next_any (o o2 : Option Addr) (a b : List Rng) (cap cap2 : Nat) (r : Int) (ha : rightL a) (hb : rightL b) (w : World) (hA : AtR w o a) (hB : AtR w o2 b) :
    Calls Tryd.prog 37 #[.slice o a.length cap, .slice o2 b.length cap2, .int .i64 r] w fun e w' => e = .returned (.int .i64 (nextL (a ++ b) r)) ∧ Below w.heap.size w w' := by
  obtain ⟨p1, q1, w1, p2, q2, w2, r1, r2, hat, b2⟩ := both_app (o1 := o) (o2 := o2) cap cap2 (by have := ha.2; have := hb.2; omega) hA hB
  have hok : ∀ x ∈ a ++ b, okR x := fun x hx => by
    rcases List.mem_append.1 hx with h | h
    · exact ha.1.1 x h
    · exact hb.1.1 x h
  have hlen : (a ++ b).length = a.length + b.length := List.length_append
  have hsz : a.length + b.length ≤ 1200 := by have := ha.2; have := hb.2; omega
  obtain ⟨l, hl⟩ : ∃ l, a ++ b = l := ⟨_, rfl⟩
  rw [hl] at hat hok hlen ⊢
  rw [← hlen] at r2 hsz
  obtain ⟨P, hP⟩ : ∃ P, (fun (e : Ending) w' => e = .returned (.int .i64 (nextL l r)) ∧ Below w.heap.size w w') = P := ⟨_, rfl⟩
  have HP := Lib.hid hP
  rw [hP]
  have HAT := Lib.hid hat
  have HB2 := Lib.hid b2
  have HOK := Lib.hid hok
  obtain ⟨n, hnn⟩ : ∃ n, l.length = n := ⟨_, rfl⟩
  have HN := Lib.hid hnn
  rw [hnn] at r2 hsz
  obtain ⟨an, han⟩ : ∃ n, a.length = n := ⟨_, rfl⟩
  obtain ⟨bn, hbn⟩ : ∃ n, b.length = n := ⟨_, rfl⟩
  rw [han] at r1 r2 ⊢
  rw [hbn] at r2 ⊢
  clear hP hat b2 hok hlen hl hnn han hbn ha hb hA hB
  go_enter Tryd.func37, Tryd.ntmps37
  go_wp2_with fail
  clear r1 r2
  go_loopg [7, 9] n (fun k s v wr => ∃ (j : Nat) (m : Int), s = .int .i64 m ∧ v = .int .i64 (j : Nat) ∧ j ≤ n ∧ k = n - j ∧ Hid (m = (l.take j).foldl (nextStep r) 1114111) ∧ wr = w2)
  case atStart => exact ⟨0, 1114111, rfl, rfl, Nat.zero_le _, rfl, Lib.hid rfl, rfl⟩
  case round =>
    obtain ⟨j, m, rfl, rfl, hj, rfl, HM, rfl⟩ := hrel
    rcases Nat.lt_or_ge j n with hlt | hge
    · have hj1 : j < 1000000 := by omega
      obtain ⟨x, hx⟩ : ∃ x, l[j]? = some x := ⟨_, List.getElem?_eq_getElem (by rw [HN.out]; exact hlt)⟩
      have hxo := HOK.out x (List.mem_of_getElem? hx)
      obtain ⟨g, off, rfl, hc⟩ := HAT.out (by rw [HN.out]; omega)
      obtain ⟨k0, k1, k2⟩ := hc j x hx
      have hg := World.block_lt_of_cell? wr _ k0
      have HM2 : Hid (nextStep r m x = (l.take (j + 1)).foldl (nextStep r) 1114111) := Lib.hid (by rw [List.take_add_one, hx, List.foldl_append, ← HM.out]; rfl)
      have hmb := next_bounds HOK.out r (l.take j) 1114111 (fun y hy => List.mem_of_mem_take hy) (by omega) (Int.le_refl _)
      rw [← HM.out] at hmb
      have HX := Lib.hid hx
      obtain ⟨F, hF⟩ : ∃ F, (l.take (j + 1)).foldl (nextStep r) 1114111 = F := ⟨_, rfl⟩
      rw [hF] at HM2
      have HF := Lib.hid hF
      clear hF
      have hM2 := HM2.out
      unfold nextStep at hM2
      simp only at hM2
      obtain ⟨xa, xb, xv⟩ := x
      unfold okR at hxo
      simp only at k0 k1 k2 hM2 hxo
      have hw1 : IntKind.i64.wrap (xa - 1) = xa - 1 := wrap_id (by omega) (by omega)
      clear hc hx HM HM2
      by_cases h1 : r < xa
      · rw [if_pos h1] at hM2
        by_cases h2 : r ≤ xb
        · rw [if_pos h2] at hM2
          have HM2 := Lib.hid hM2
          clear hM2
          go_wp2_with fail
          go_roundg (n - (j + 1))
          case measure => omega
          case rel => exact ⟨j + 1, _, rfl, by simp, by omega, rfl, Lib.hid (by have := HM2.out; rw [HF.out]; omega), rfl⟩
        · exfalso; omega
      · rw [if_neg h1] at hM2
        by_cases h2 : r ≤ xb
        · rw [if_pos h2] at hM2
          have HM2 := Lib.hid hM2
          clear hM2
          go_wp2_with fail
          go_roundg (n - (j + 1))
          case measure => omega
          case rel => exact ⟨j + 1, _, rfl, by simp, by omega, rfl, Lib.hid (by have := HM2.out; rw [HF.out]; omega), rfl⟩
        · rw [if_neg h2] at hM2
          have HM2 := Lib.hid hM2
          clear hM2
          go_wp2_with fail
          go_roundg (n - (j + 1))
          case measure => omega
          case rel => exact ⟨j + 1, _, rfl, by simp, by omega, rfl, Lib.hid (by have := HM2.out; rw [HF.out]; omega), rfl⟩
    · obtain rfl : j = n := by omega
      have HPP : Hid (P (.returned (.int .i64 m)) wr) := by
        rw [← HP.out]
        refine Lib.hid ⟨?_, HB2.out⟩
        rw [HM.out, List.take_of_length_le (by rw [HN.out]; exact Nat.le_refl _)]
        rfl
      clear HM
      go_wp2_with fail
      exact HPP.out
set_option maxRecDepth 100000 in
set_option maxHeartbeats 4000000 in
theorem refOver_any (o o2 : Option Addr) (a b : List Rng) (cap cap2 : Nat) (hn : a.length ≤ 140) (hn2 : b.length ≤ 140) (w : World) (hA : AtR w o a) (hB : AtR w o2 b) :
    Calls Tryd.prog 25 #[.slice o a.length cap, .slice o2 b.length cap2] w (LaidQ [a, b] w) := by
  have HR := Lib.hid (refRight_any o a cap (by omega) w hA)
  have HR2 := Lib.hid (fun W (bb : Below w.heap.size w W) => refRight_any o2 b cap2 (by omega) W (hB.below bb))
  have FA := Lib.hid (fun W (bb : Below w.heap.size w W) (r : Int) => refFind_any o a cap r (by omega) W (hA.below bb))
  have FB := Lib.hid (fun W (bb : Below w.heap.size w W) (r : Int) => refFind_any o2 b cap2 r (by omega) W (hB.below bb))
  have NX := Lib.hid (fun W (bb : Below w.heap.size w W) (r : Int) (ha : rightL a) (hb : rightL b) => next_any o o2 a b cap cap2 r ha hb W (hA.below bb) (hB.below bb))
  have htl : (turnsL [a, b]).length ≤ 560 := by
    unfold turnsL
    simp only [List.flatMap_cons, List.flatMap_nil, List.append_nil, List.length_append, turnsOf_length]
    omega
  obtain ⟨an, han⟩ : ∃ n, a.length = n := ⟨_, rfl⟩
  obtain ⟨bn, hbn⟩ : ∃ n, b.length = n := ⟨_, rfl⟩
  rw [han] at HR FA NX ⊢
  rw [hbn] at HR2 FB NX ⊢
  obtain ⟨P, hP⟩ : ∃ P, LaidQ [a, b] w = P := ⟨_, rfl⟩
  have HP := Lib.hid hP
  rw [hP]
  clear hP hA hB han hbn hn hn2
  go_enter Tryd.func25, Tryd.ntmps25
  go_wp2_with fail
  refine HR.out.mono ?_
  rintro e w1 ⟨rfl, b1⟩
  have B1 := Lib.hid b1
  clear b1 HR
  by_cases hra : rightL a
  · have HRA := Lib.hid hra
    rw [decide_eq_true hra]
    have R2 := Lib.hid (HR2.out w1 B1.out)
    clear hra HR2
    go_wp2_with fail
    refine R2.out.mono ?_
    rintro e w2 ⟨rfl, b2⟩
    have B2 := Lib.hid (B1.out.trans (b2.mono B1.out.size))
    clear b2 R2
    by_cases hrb : rightL b
    · have HRB := Lib.hid hrb
      rw [decide_eq_true hrb]
      clear hrb
      go_wp2_with fail
      go_loopg [6, 7] 1114112 (fun k s v wr => ∃ (m : List Rng) (mo : Option Addr) (mc : Nat) (r : Int), s = .slice mo m.length mc ∧ v = .int .i64 r ∧ k = (1114112 - r).toNat ∧ 0 ≤ r ∧ r ≤ 1114112 ∧ Hid (wr.ownsRow w2.heap.size 38 3 (.slice mo m.length mc) m.length (cellsR m)) ∧ Hid (OverAt a b m r) ∧ Hid (Below w2.heap.size w2 wr))
      case atStart => exact ⟨[], none, 0, 0, rfl, rfl, rfl, Int.le_refl _, by omega, Lib.hid (World.ownsRow_nil w2 _ _ _), Lib.hid (OverAt.begin HRA.out.1 HRB.out.1), Lib.hid (Below.refl _ _)⟩
      case round =>
        obtain ⟨m, mo, mc, r, rfl, rfl, rfl, hr0, hr1, HO, HM, HB⟩ := hrel
        have BW := Lib.hid (B2.out.trans (HB.out.mono B2.out.size))
        have hml : m.length ≤ 560 := Nat.le_trans HM.out.len (Nat.le_trans (below_le _ _) htl)
        by_cases hr : r ≤ 1114111
        · obtain ⟨n1, n2, _, _⟩ := next_turn HRA.out.1 HRB.out.1 hr0 hr
          have HM2 := Lib.hid (HM.out.next HRA.out.1 HRB.out.1 hr)
          have N1 := Lib.hid (NX.out wr BW.out r HRA.out HRB.out)
          obtain ⟨q, hq⟩ : ∃ q, nextL (a ++ b) r = q := ⟨_, rfl⟩
          rw [hq] at n1 n2 HM2 N1
          have hwq : IntKind.i64.wrap (q + 1) = q + 1 := wrap_id (by omega) (by omega)
          have HEND := ends_ok HM.out.upto.1
          have HEND := Lib.hid HEND
          clear hq
          clear HM
          obtain ⟨mn0, hmn0⟩ : ∃ n, m.length = n := ⟨_, rfl⟩
          have HMN0 := Lib.hid hmn0
          rw [hmn0]
          clear hmn0
          go_wp2_with fail
          refine N1.out.mono ?_
          rintro e w3 ⟨rfl, b3⟩
          have HO3 := Lib.hid (own_below HO.out b3)
          have HB3 := Lib.hid (HB.out.trans (b3.mono HB.out.size))
          have BW3 := Lib.hid (BW.out.trans (b3.mono BW.out.size))
          have F2 := Lib.hid (FB.out w3 BW3.out r)
          have F1 := Lib.hid (FA.out w3 BW3.out r)
          clear b3 N1
          rw [← HMN0.out]
          cases hfb : findL b r with
          | some v =>
            rw [hfb] at F2
            have HSV : Hid (saidL [a, b] r = some v) := Lib.hid (by simp only [saidL, Option.none_or, hfb]; rfl)
            clear hfb F1
            unfold ansF at F2
            simp only at F2
            rw [HMN0.out]
            go_wp2_with fail
            refine F2.out.mono ?_
            rintro e w3' ⟨rfl, rfl⟩
            rw [← HMN0.out]
            clear F2
            have HM3 : Hid (OverAt a b (joinL m (r, q, v)) (q + 1)) := by
              have h := HM2.out
              unfold layStep at h
              rw [show saidL [a, b] r = some v from HSV.out] at h
              simp only [Int.add_sub_cancel] at h
              exact Lib.hid h
            have HJ := Lib.hid (refAdd_any (o := mo) (cap := mc) (base := w2.heap.size) (r, q, v) w3 HO3.out HEND.out (by omega) HB3.out.size)
            have HB4 := Lib.hid (fun (w' : World) (h : Moves (fun k => (Value.slice mo m.length mc).ownBlock = some k) w3 w') => Moves.join_below HB3.out HB3.out.size h HO3.out)
            obtain ⟨mn, hmn⟩ : ∃ n, m.length = n := ⟨_, rfl⟩
            rw [hmn] at HJ HB4 hml ⊢
            clear hmn
            go_wp2_with fail
            refine HJ.out.mono ?_
            rintro e w4 ⟨g2, cap2', rfl, own2, mv2, _⟩
            have HO2 := Lib.hid own2
            have HB5 := Lib.hid (HB4.out _ mv2)
            clear own2 mv2 HJ HB4
            go_wp2
            go_roundg ((1114112 - (q + 1)).toNat)
            case measure => omega
            case rel => exact ⟨_, _, _, q + 1, rfl, rfl, rfl, by omega, by omega, HO2, HM3, HB5⟩
          | none =>
            cases hfa : findL a r with
            | some v =>
              rw [hfb] at F2
              rw [hfa] at F1
              have HSV : Hid (saidL [a, b] r = some v) := Lib.hid (by simp only [saidL, Option.none_or, hfb, hfa])
              clear hfb hfa
              unfold ansF at F1 F2
              simp only at F1 F2
              rw [HMN0.out]
              go_wp2_with fail
              refine F2.out.mono ?_
              rintro e w3' ⟨rfl, rfl⟩
              go_wp2_with fail
              refine F1.out.mono ?_
              rintro e w3' ⟨rfl, rfl⟩
              rw [← HMN0.out]
              clear F1 F2
              have HM3 : Hid (OverAt a b (joinL m (r, q, v)) (q + 1)) := by
                have h := HM2.out
                unfold layStep at h
                rw [show saidL [a, b] r = some v from HSV.out] at h
                simp only [Int.add_sub_cancel] at h
                exact Lib.hid h
              have HJ := Lib.hid (refAdd_any (o := mo) (cap := mc) (base := w2.heap.size) (r, q, v) w3 HO3.out HEND.out (by omega) HB3.out.size)
              have HB4 := Lib.hid (fun (w' : World) (h : Moves (fun k => (Value.slice mo m.length mc).ownBlock = some k) w3 w') => Moves.join_below HB3.out HB3.out.size h HO3.out)
              obtain ⟨mn, hmn⟩ : ∃ n, m.length = n := ⟨_, rfl⟩
              rw [hmn] at HJ HB4 hml ⊢
              clear hmn
              go_wp2_with fail
              refine HJ.out.mono ?_
              rintro e w4 ⟨g2, cap2', rfl, own2, mv2, _⟩
              have HO2 := Lib.hid own2
              have HB5 := Lib.hid (HB4.out _ mv2)
              clear own2 mv2 HJ HB4
              go_wp2
              go_roundg ((1114112 - (q + 1)).toNat)
              case measure => omega
              case rel => exact ⟨_, _, _, q + 1, rfl, rfl, rfl, by omega, by omega, HO2, HM3, HB5⟩
            | none =>
              rw [hfb] at F2
              rw [hfa] at F1
              have HM3 : Hid (OverAt a b m (q + 1)) := by
                have h := HM2.out
                unfold layStep at h
                rw [show saidL [a, b] r = none by simp only [saidL, Option.none_or, hfb, hfa]] at h
                exact Lib.hid h
              clear hfb hfa
              unfold ansF at F1 F2
              simp only at F1 F2
              obtain ⟨mn, hmn⟩ : ∃ n, m.length = n := ⟨_, rfl⟩
              have HMN := Lib.hid hmn
              rw [hmn]
              clear hmn
              go_wp2_with fail
              refine F2.out.mono ?_
              rintro e w3' ⟨rfl, rfl⟩
              go_wp2_with fail
              refine F1.out.mono ?_
              rintro e w3' ⟨rfl, rfl⟩
              clear F1 F2
              go_wp2
              go_roundg ((1114112 - (q + 1)).toNat)
              case measure => omega
              case rel => exact ⟨m, mo, mc, q + 1, by rw [HMN.out], rfl, rfl, by omega, by omega, HO3, HM3, HB3⟩
        · have HPP : Hid (P (.returned (.tuple #[.slice mo m.length mc, .int .i64 0])) wr) := by
            rw [← HP.out]
            obtain ⟨h1, h2⟩ := HM.out.all HRA.out.1 HRB.out.1 (by omega)
            exact Lib.hid ⟨BW.out, .inr ⟨by simpa using ⟨HRA.out, HRB.out⟩, mo, m, mc, h1, h2, rfl, at_own HO.out⟩⟩
          obtain ⟨mn, hmn⟩ : ∃ n, m.length = n := ⟨_, rfl⟩
          rw [hmn] at HPP hml ⊢
          clear hmn
          go_wp2_with fail
          exact HPP.out
    · have HPP : Hid (P (.returned (.tuple #[.slice none 0 0, .int .i64 22])) w2) := by
        rw [← HP.out]
        exact Lib.hid ⟨B2.out, .inl ⟨fun h => hrb (h b (by simp)), rfl⟩⟩
      rw [decide_eq_false hrb]
      clear hrb
      go_wp2_with fail
      exact HPP.out
  · have HPP : Hid (P (.returned (.tuple #[.slice none 0 0, .int .i64 22])) w1) := by
      rw [← HP.out]
      exact Lib.hid ⟨B1.out, .inl ⟨fun h => hra (h a (by simp)), rfl⟩⟩
    rw [decide_eq_false hra]
    clear hra
    go_wp2_with fail
    exact HPP.out
end Go.Proofs.YtkhniogmogcjlaaDoor
