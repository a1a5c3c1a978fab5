/- SpanTurns: in whatever order ranges are sorted, they are one map. -/
import Derived.Test.YtkhniogmogcjlaaDoorNShown
import Derived.Test.YtkhniogmogcjlaaDoorNFew
import Derived.Test.YtkhniogmogcjlaaDoorNLawMath
import Derived.Test.YtkhniogmogcjlaaDoorNApp
namespace Go.Proofs.YtkhniogmogcjlaaDoor
open Go.RowKit Go.Shelf Go.Maps
attribute [local go_sem] Oper.semAt_some
attribute [local go_sem ↓] app_hide

theorem AtR.drop {w : World} {o : Option Addr} {l : List Rng} (h : AtR w o l) (n : Nat) (g off : Nat) (ho : o = some ⟨g, off, none⟩) : AtR w (some ⟨g, off + n * 3, none⟩) (l.drop n) := fun hn => by
  rw [List.length_drop] at hn
  obtain ⟨g', off', ho', hc⟩ := h (by omega)
  rw [ho] at ho'
  cases ho'
  refine ⟨g, off + n * 3, rfl, fun j x hx => ?_⟩
  rw [List.getElem?_drop] at hx
  have := hc (n + j) x hx
  rw [show off + (n + j) * 3 = off + n * 3 + j * 3 from by omega] at this
  exact this
theorem turned_perm (l : List Rng) (k : Nat) : (l.drop k ++ l.take k).Perm l := by
  have h : (l.take k ++ l.drop k).Perm l := by rw [List.take_append_drop]
  exact List.perm_append_comm.trans h
/-- The two appends. -/
theorem turned_apps {W : World} {l : List Rng} {k : Nat} {o1 o2 : Option Addr} (c1 c2 : Nat) (hk : k ≤ l.length) (hn : l.length ≤ 1000) (h1 : AtR W o1 (l.drop k)) (h2 : AtR W o2 (l.take k)) :
    ∃ p1 q1 w1 p2 q2 w2, (appSem #[22, 22] 22 #[.slice none 0 0, .slice o1 (l.length - k) c1]).run Tryd.prog W = .ok (.slice p1 (l.length - k) q1) w1 ∧
      (appSem #[22, 22] 22 #[.slice p1 (l.length - k) q1, .slice o2 k c2]).run Tryd.prog w1 = .ok (.slice p2 l.length q2) w2 ∧
      l.length ≤ q2 ∧ AtR w2 p2 (l.drop k ++ l.take k) ∧ Below W.heap.size W w2 := by
  obtain ⟨p1, q1, w1, r1, own1, g1, b1⟩ := rngs_own (W := W) (base := W.heap.size) (l.drop k) o1 c1 h1 (World.ownsRow_nil W _ _ _) (by rw [List.length_drop]; omega) (Nat.le_refl _)
  have m1 : Below W.heap.size W w1 := Moves.below (Below.refl _ _) (Nat.le_refl _) (Moves.of_grown g1) (fun k h => by simp [Value.ownBlock] at h)
  obtain ⟨p2, q2, w2, r2, own2, g2, b2⟩ := rngs_own (W := w1) (base := W.heap.size) (l.take k) o2 c2 (h2.below m1) own1 (by rw [List.length_drop, List.length_take]; omega) m1.size
  have m2 : Below W.heap.size W w2 := Moves.below m1 m1.size (Moves.of_grown g2) (fun k h => by
    rcases b1 with e | e
    · rw [e] at h; simp [Value.ownBlock] at h
    · rw [e] at h; cases h; exact Nat.le_refl _)
  have e1 : 0 + (l.drop k).length = l.length - k := by rw [List.length_drop]; omega
  have e3 : (l.take k).length = k := by rw [List.length_take]; omega
  have e2 : l.length - k + k = l.length := by omega
  rw [e1] at r1 r2 own2
  rw [e3, e2] at r2 own2
  rw [List.length_drop] at r1
  have e4 : (l.drop k ++ l.take k).length = l.length := (turned_perm l k).length_eq
  have own3 : w2.ownsRow W.heap.size 38 3 (.slice p2 (l.drop k ++ l.take k).length q2) (l.drop k ++ l.take k).length (cellsR (l.drop k ++ l.take k)) := by
    rw [e4, cellsR_append]
    simpa using own2
  have hc := own_capR own3
  rw [e4] at hc
  exact ⟨p1, q1, w1, p2, q2, w2, r1, r2, hc, at_own own3, m2⟩
set_option maxRecDepth 100000 in
set_option maxHeartbeats 4000000 in
theorem turns_law_any (o : Option Addr) (l : List Rng) (cap : Nat) (n : Int) (hc : l.length ≤ cap) (w : World) (hA : AtR w o l) (hG : w.cell? ⟨0, 0, none⟩ = some (rtI 48)) :
    Calls Tryd.prog 7 #[.slice o l.length cap, .int .i64 n] w fun e w' => e = .returned (.bool true) ∧ Below w.heap.size w w' := by
  have HS := Lib.hid (shown_any w hG)
  have F1 := Lib.hid (few_any o l cap hc)
  have HA := Lib.hid (hA.take 40)
  have la : (l.take 40).length ≤ 40 ∧ (l.take 40).length ≤ cap := by rw [List.length_take]; omega
  obtain ⟨na, hna⟩ : ∃ n, l.length = n := ⟨_, rfl⟩
  rw [hna] at F1 ⊢
  obtain ⟨A, hAA⟩ : ∃ A, l.take 40 = A := ⟨_, rfl⟩
  rw [hAA] at F1 HA la
  have HG := Lib.hid hG
  obtain ⟨P, hP⟩ : ∃ P, (fun (e : Ending) w' => e = .returned (.bool true) ∧ Below w.heap.size w w') = P := ⟨_, rfl⟩
  have HP := Lib.hid hP
  rw [hP]
  obtain ⟨k, hk, hkn⟩ : ∃ k : Nat, min (max n 0) ((A.length : Nat) : Int) = (k : Nat) ∧ k ≤ A.length := ⟨(min (max n 0) ((A.length : Nat) : Int)).toNat, by omega, by omega⟩
  clear hA hc hna hAA hG hP
  obtain ⟨an, han⟩ : ∃ n, A.length = n := ⟨_, rfl⟩
  have HN := Lib.hid han
  rw [han] at F1 hk hkn la
  clear han
  go_enter Tryd.func7, Tryd.ntmps7
  go_wp2_with fail
  refine HS.out.mono ?_
  rintro e w1 ⟨rfl, b1⟩
  have B1 := Lib.hid b1
  clear b1
  go_wp2_with fail
  refine (F1.out w1).mono ?_
  rintro e w1' ⟨rfl, rfl⟩
  clear HS F1
  go_wp2_with fail
  have HAW := Lib.hid (HA.out.below (show Below w.heap.size w w1.drew from B1.out.drew))
  have hPQ : ∀ (o1 o2 : Option Addr), AtR w1.drew o1 (A.drop k) → AtR w1.drew o2 (A.take k) → _ := fun o1 o2 h1 h2 => turned_apps (W := w1.drew) (l := A) (k := k) (o1 := o1) (o2 := o2) (cap - k) cap (by rw [HN.out]; exact hkn) (by rw [HN.out]; omega) h1 h2
  rw [HN.out] at hPQ
  have S1 := Lib.hid (fun W (bb : Below w.heap.size w W) => Sort_any o A cap (by rw [HN.out]; omega) (by rw [HN.out]; exact la.2) W (HA.out.below bb) (cell_keep bb HG.out))
  obtain ⟨M, hM⟩ : ∃ M, A.drop k ++ A.take k = M := ⟨_, rfl⟩
  have HMP : Hid (M.Perm A) := Lib.hid (by rw [← hM]; exact turned_perm A k)
  have hml : M.length = an := HMP.out.length_eq.trans HN.out
  have S2 := Lib.hid (fun p q W (bb : Below w.heap.size w W) (hq : M.length ≤ q) (hat : AtR W p M) => Sort_any p M q (by rw [hml]; omega) hq W hat (cell_keep bb HG.out))
  have SM := Lib.hid (fun (W : World) (p q : Option Addr) (a : List Rng) (hl : a.length ≤ 1000) (h1 : AtR W p a) (h2 : AtR W q a) => (Same_any p q a a a.length a.length (by omega) W h1 h2).mono fun e w' h => (⟨h.1.trans (by simp), h.2⟩ : e = .returned (.bool true) ∧ Below W.heap.size W w'))
  have HL := Lib.hid (fun (a : List Rng) (c : Int) (h : SortC A a c) => (show a.length ≤ 1000 ∧ (c = 0 → a.length = an) from by
    rcases h with ⟨rfl, rfl, _⟩ | ⟨rfl, rfl, _⟩ | ⟨_, _, _, h4⟩
    · exact ⟨by simp, fun h => by cases h⟩
    · exact ⟨by simp, fun h => by cases h⟩
    · rw [h4.length_eq, HN.out]; exact ⟨by omega, fun _ => rfl⟩))
  have HC := Lib.hid (fun (a : List Rng) (c : Int) (h : SortC A a c) => (show c = 22 ∨ c = 30 ∨ c = 0 from by
    rcases h with ⟨h, _⟩ | ⟨h, _⟩ | ⟨h, _⟩
    · exact .inl h
    · exact .inr (.inl h)
    · exact .inr (.inr h)))
  rw [HN.out] at S1
  rw [hml] at S2
  rw [hM] at hPQ
  have HPQ := Lib.hid hPQ
  clear hPQ hM hml
  have HBW := Lib.hid (show Below w.heap.size w w1.drew from B1.out.drew)
  rcases o with _ | ⟨g, off, spot⟩
  focus
    have hA0 : an = 0 := by
      rcases Nat.eq_zero_or_pos an with h | h
      · exact h
      · obtain ⟨g, off, e, _⟩ := HAW.out (by rw [HN.out]; exact h)
        cases e
    obtain ⟨p1, q1, w2, p2, q2, w3, r1, r2, hq, hat, b3⟩ := HPQ.out none none (fun h => by rw [List.length_drop, HN.out] at h; omega) (fun h => by rw [List.length_take, HN.out] at h; omega)
    have HAT := Lib.hid hat
    have HB3 := Lib.hid b3
    clear hat b3 hA0 HPQ
    go_region
  rotate_left 1
  rcases Nat.eq_zero_or_pos an with h0 | hpos
  focus
    obtain rfl : k = 0 := by omega
    obtain ⟨p1, q1, w2, p2, q2, w3, r1, r2, hq, hat, b3⟩ := HPQ.out (some ⟨g, off, spot⟩) (some ⟨g, off, spot⟩) (fun h => by rw [List.length_drop, HN.out] at h; omega) (fun h => by rw [List.length_take, HN.out] at h; omega)
    have HAT := Lib.hid hat
    have HB3 := Lib.hid b3
    clear hat b3 HPQ
    subst h0
    simp only [Nat.sub_zero, Nat.sub_self] at r1 r2
    go_region
  rotate_left 1
  focus
    obtain ⟨g', off', e, hc⟩ := HAW.out (by rw [HN.out]; exact hpos)
    cases e
    obtain ⟨Q, hQ⟩ : ∃ Q, (if cap = k then some ⟨g, off, none⟩ else some (⟨g, off + k * 3, none⟩ : Addr)) = Q := ⟨_, rfl⟩
    obtain ⟨p1, q1, w2, p2, q2, w3, r1, r2, hq, hat, b3⟩ := HPQ.out Q (some ⟨g, off, none⟩) (by
      rw [← hQ]
      split
      · exact fun h => by rw [List.length_drop, HN.out] at h; omega
      · exact HAW.out.drop k g off rfl) (HAW.out.take k)
    have HAT := Lib.hid hat
    have HB3 := Lib.hid b3
    clear hat b3 HPQ hc
    go_region
    clear hQ
  all_goals
    clear r1 r2
    have B3 := Lib.hid (HBW.out.trans (HB3.out.mono HBW.out.size))
    clear HB3 HBW
    go_wp2_with fail
    refine (S1.out w3 B3.out).mono ?_
    rintro e w4 hs
    have B4 := Lib.hid (B3.out.trans (hs.1.mono B3.out.size))
    have HAT4 := HAT.out.below hs.1
    obtain ⟨so, a, i, c, rfl, hat, hc⟩ := sort_c hs
    have T2 := Lib.hid (S2.out p2 q2 w4 B4.out hq HAT4)
    have HSC := Lib.hid hc
    have HAT5 := Lib.hid hat
    clear hs hat hc HAT4 HAT S1 S2 hq B3
    obtain ⟨x, hx⟩ : ∃ n, a.length = n := ⟨_, rfl⟩
    have HXL := Lib.hid hx
    rw [hx]
    clear hx
    go_wp2_with fail
    refine T2.out.mono ?_
    rintro e w5 hs
    have B5 := Lib.hid (B4.out.trans (hs.1.mono B4.out.size))
    have at5 := HAT5.out.below hs.1
    obtain ⟨so2, b, i2, c2, rfl, hat2, hc2⟩ := sort_c hs
    obtain ⟨rfl, rfl⟩ := sort_c_perm HMP.out HSC.out hc2
    have h6 := SM.out w5 so so2 a (HL.out a c HSC.out).1 at5 hat2
    rw [HXL.out] at h6 ⊢
    have S6 := Lib.hid h6
    have hcs := HC.out a c HSC.out
    have hca := (HL.out a c HSC.out).2
    rw [HXL.out] at hca
    clear hs hat2 hc2 at5 HAT5 T2 SM HL HC HSC HXL h6 B4 HMP
    rcases hcs with rfl | rfl | rfl
    · clear hca
      go_wp2_with fail
      refine S6.out.mono ?_
      rintro e w6 ⟨rfl, b6⟩
      have HPP : Hid (P (.returned (.bool true)) w6) := by
        rw [← HP.out]
        exact Lib.hid ⟨rfl, B5.out.trans (b6.mono B5.out.size)⟩
      clear b6
      go_wp2
      exact HPP.out
    · clear hca
      go_wp2_with fail
      refine S6.out.mono ?_
      rintro e w6 ⟨rfl, b6⟩
      have HPP : Hid (P (.returned (.bool true)) w6) := by
        rw [← HP.out]
        exact Lib.hid ⟨rfl, B5.out.trans (b6.mono B5.out.size)⟩
      clear b6
      go_wp2
      exact HPP.out
    · obtain rfl := hca rfl
      clear hca
      go_wp2_with fail
      refine S6.out.mono ?_
      rintro e w6 ⟨rfl, b6⟩
      have HPP : Hid (P (.returned (.bool true)) w6) := by
        rw [← HP.out]
        exact Lib.hid ⟨rfl, B5.out.trans (b6.mono B5.out.size)⟩
      clear b6
      go_wp2
      exact HPP.out
end Go.Proofs.YtkhniogmogcjlaaDoor
