/- PackBack: what is packed loads as it was: of built tries, and of right ones. -/
import Derived.Test.YtcnbcaljpgdcpaaDoorZABack
import Derived.Test.YtcnbcaljpgdcpaaDoorZAFewB
import Derived.Test.YtcnbcaljpgdcpaaDoorBunA16
import Derived.Test.YtcnbcaljpgdcpaaDoorBunA6
namespace Go.Proofs.YtcnbcaljpgdcpaaDoor
open Go.RowKit Go.Shelf Go.Maps
attribute [local go_sem] Oper.semAt_some

theorem tableA_le (t : TrieD) : (tableT t).1.length ≤ 1000000 ∧ (tableT t).2.length ≤ 300 ∧ ∀ b ∈ (tableT t).2, b.length ≤ 1000000 := by
  unfold tableT
  simp only [List.length_take, List.length_map]
  refine ⟨by omega, by omega, fun b hb => ?_⟩
  obtain ⟨c, _, rfl⟩ := List.mem_map.1 hb
  rw [List.length_take]
  omega
set_option maxRecDepth 100000 in
set_option maxHeartbeats 8000000 in
theorem backL_any (o : Option Addr) (l : List Rng) (cap : Nat) (io bo : Option Addr) (t : TrieD) (ic bc : Nat) (hc : l.length ≤ cap) (hic : t.1.length ≤ ic) (w : World) (hA : AtR w o l) (hT : TrieT w io bo t) {aU aS : Addr} (hG : Glob w aU aS) (hE : EGlob w) :
    Calls Tryd.prog 5 #[.slice o l.length cap, trieV io t.1.length ic bo t.2.length bc] w fun e w' => e = .returned (.bool true) ∧ Below w.heap.size w w' := by
  obtain ⟨P, hP⟩ : ∃ P, (fun (e : Ending) w' => e = .returned (.bool true) ∧ Below w.heap.size w w') = P := ⟨_, rfl⟩
  have HP := Lib.hid hP
  rw [hP]
  obtain ⟨n, hn⟩ : ∃ n, t.1.length = n := ⟨_, rfl⟩
  obtain ⟨q, hq⟩ : ∃ n, t.2.length = n := ⟨_, rfl⟩
  have A1 := trie_boxA (w := w) (io := io) (bo := bo) (n := n) (ic := ic) (q := q) (bc := bc) rfl
  obtain ⟨W, hW⟩ : ∃ W, w.alloc (trieO io n ic bo q bc) = W := ⟨_, rfl⟩
  rw [hW] at A1
  obtain ⟨b0, r0⟩ := A1
  have HS := Lib.hid (shownA_any W (hE.below b0))
  have HTB := Lib.hid (fun (W1 : World) (bb : Below w.heap.size w W1) => table_any io bo t ic bc hic W1 (hT.below bb))
  have HF := Lib.hid (few20_any o l cap hc)
  have la : (l.take 20).length ≤ 20 ∧ (l.take 20).length ≤ cap := by rw [List.length_take]; omega
  have HB := Lib.hid (fun (W1 : World) (bb : Below w.heap.size w W1) => Build_any o (l.take 20) cap (by omega) la.2 W1 (hG.below bb) ((hA.take 20).below bb))
  have HFN := Lib.hid (buildR_fine la.1)
  obtain ⟨R, hR⟩ : ∃ R, buildR (l.take 20) = R := ⟨_, rfl⟩
  rw [hR] at HFN HB
  obtain ⟨T, c⟩ := R
  have hUle := tableA_le t
  obtain ⟨U, hU⟩ : ∃ U, tableT t = U := ⟨_, rfl⟩
  rw [hU] at HTB hUle
  obtain ⟨hU1, hU2, hU3⟩ := hUle
  obtain ⟨n', hu1⟩ : ∃ n, U.1.length = n := ⟨_, rfl⟩
  obtain ⟨m', hu2⟩ : ∃ n, U.2.length = n := ⟨_, rfl⟩
  obtain ⟨a, ht1⟩ : ∃ n, T.1.length = n := ⟨_, rfl⟩
  obtain ⟨b, ht2⟩ : ∃ n, T.2.length = n := ⟨_, rfl⟩
  obtain ⟨ln, hln⟩ : ∃ n, l.length = n := ⟨_, rfl⟩
  obtain ⟨lk, hlk⟩ : ∃ n, (l.take 20).length = n := ⟨_, rfl⟩
  rw [hn, hq, hu1, hu2] at HTB
  rw [hln, hlk] at HF
  rw [hlk] at HB
  rw [hn, hq, hln]
  have CRT := Lib.hid (fun (bo' : Option Addr) (bc' : Nat) (W1 : World) (h : TrieT W1 io bo' U) => rightT_any io bo' U ic bc' hU1 (by omega) hU3 W1 h)
  rw [hu1, hu2] at CRT
  have CBU := Lib.hid (fun (hr : rightT U) (bo' : Option Addr) (bc' : Nat) (W1 : World) (bb : Below w.heap.size w W1) (h : TrieT W1 io bo' U) => back_anyA io bo' U ic bc' ⟨hr, hU2⟩ W1 (hE.below bb) h)
  rw [hu1, hu2] at CBU
  have CBT := Lib.hid (fun (hf : fineT T) (jo co : Option Addr) (W1 : World) (bb : Below w.heap.size w W1) (h : TrieT W1 jo co T) => back_anyA jo co T T.1.length T.2.length hf W1 (hE.below bb) h)
  rw [ht1, ht2] at CBT
  have HB0 := Lib.hid b0
  have HR0 := Lib.hid r0
  have HW := Lib.hid hW
  have HT1 := Lib.hid ht1
  have HT2 := Lib.hid ht2
  obtain ⟨c0, c1, _, _, cl⟩ := trieO_cells r0
  clear hP hn hq hW b0 r0 hA hG hE hU hT hR hU1 hU2 hU3 hu1 hu2 ht1 ht2 hln hlk la hc hic
  go_enter Tryd.func5, Tryd.ntmps5
  go_wp2_with fail
  rw [HW.out]
  refine HS.out.mono ?_
  rintro e w1 ⟨rfl, b1⟩
  have HB1 := Lib.hid (HB0.out.trans (b1.mono HB0.out.size))
  have HR1 := Lib.hid (row_below HR0.out b1)
  clear b1 HS c0 c1 cl
  go_wp2_with fail
  refine (HF.out w1).mono ?_
  rintro e w1' ⟨rfl, rfl⟩
  have CB1 := Lib.hid (HB.out w1 HB1.out)
  clear HF HB
  go_wp2_with fail
  refine CB1.out.mono ?_
  rintro e w2 h
  obtain ⟨v, rfl, b2, jo, co, rfl, hTK⟩ := h
  have ht := hTK w2 (Moves.refl _ _)
  have HZ1 := (Array.getElem?_eq_some_iff.1 HR1.out).1
  simp only [HT1.out, HT2.out]
  obtain ⟨w3, hw3⟩ : ∃ w3, w2.alloc (trieO jo a a co b b) = w3 := ⟨_, rfl⟩
  obtain ⟨b3, r3⟩ := trie_boxA hw3
  have HB3 := Lib.hid (HB1.out.trans ((b2.trans (b3.mono b2.size)).mono HB1.out.size))
  have HR3 := Lib.hid (row_below HR1.out (b2.trans (b3.mono b2.size)))
  have HS3 := Lib.hid r3
  have HT3 := Lib.hid (ht.below b3)
  have HW3 := Lib.hid hw3
  have CTB := Lib.hid (HTB.out w3 HB3.out)
  have HZ2 : Hid (w.heap.size < w2.heap.size) := Lib.hid (Nat.lt_of_lt_of_le (Array.getElem?_eq_some_iff.1 HR1.out).1 b2.size)
  obtain ⟨d0, d1, _, _, dl⟩ := trieO_cells (row_below HR1.out b2)
  obtain ⟨f0, f1, _, _, fl⟩ := trieO_cells HR3.out
  clear b2 ht hw3 r3 CB1 HTB HR1
  go_wp2_with fail
  rw [HW3.out]
  refine CTB.out.mono ?_
  rintro e w4 ⟨bo', bc', rfl, b4, hU4⟩
  have R4 := row_below HR3.out b4
  obtain ⟨e0, e1, e2, e3, e4⟩ := trieO_cells R4
  obtain ⟨R5, m5⟩ := trie_set (.slice io n' ic) (.slice bo' m' bc') R4
  obtain ⟨w5, hw5⟩ : ∃ w5, (w4.setCell ⟨w.heap.size, 0, none⟩ (.slice io n' ic)).setCell ⟨w.heap.size, 1, none⟩ (.slice bo' m' bc') = w5 := ⟨_, rfl⟩
  rw [hw5] at R5 m5
  have HZ := HZ2.out
  have B4 := HB3.out.trans (b4.mono HB3.out.size)
  have HB5 := Lib.hid (Moves.below B4 B4.size m5 (fun k hk => by omega))
  have HU5 := Lib.hid (hU4.1.box R4 (fun k hk e => by have := hU4.2 k hk; have := HB3.out.size; have := (Array.getElem?_eq_some_iff.1 HR3.out).1; omega) m5)
  have HT5 : Hid (TrieT w5 jo co T) := Lib.hid (hTK w5 ((Moves.of_below (b3.trans (b4.mono b3.size))).trans (m5.mono fun k hk => by omega)))
  have HR5 := Lib.hid R5
  have HS5 : Hid (w5.heap[w2.heap.size]? = some (trieO jo a a co b b)) := Lib.hid (row_keep (row_below HS3.out b4) m5 (fun h => by omega))
  obtain ⟨g0, g1, _, _, gl⟩ := trieO_cells R5
  obtain ⟨u0, u1, _, _, ul⟩ := trieO_cells HS5.out
  have HW5 := Lib.hid hw5
  clear hw5 R4 R5 m5 b4 hU4 B4 CTB HZ HR3 d0 d1 dl f0 f1 fl
  by_cases hr : rightT U
  · rcases HFN.out with ⟨hc0, hf⟩ | hc0
    · have hc0 : c = 0 := hc0
      have hf : fineT T := hf
      subst hc0
      have CB5 := Lib.hid (CBT.out hf jo co w5 HB5.out HT5.out)
      have v0 := u0
      have v1 := u1
      have vl := ul
      rw [← HW5.out] at v0 v1 vl
      clear CBT hf
      go_wp2_with fail
      rw [HW5.out]
      go_wp2_with fail
      refine CB5.out.mono ?_
      rintro e w6 ⟨rfl, b6⟩
      have HB6 := Lib.hid (HB5.out.trans (b6.mono HB5.out.size))
      have HUW := Lib.hid (HU5.out.below b6)
      have q0 := cell_keepT b6 g0
      have q1 := cell_keepT b6 g1
      have ql := World.block_lt_of_cell? _ _ q0
      clear b6 g0 g1 gl u0 u1 ul v0 v1 vl CB5
      have CR1 := Lib.hid (CRT.out bo' bc' w6 HUW.out)
      rw [decide_eq_true hr] at CR1
      clear CRT
      go_wp2_with fail
      refine CR1.out.mono ?_
      rintro e w7 ⟨rfl, b7⟩
      have HB7 := Lib.hid (HB6.out.trans (b7.mono HB6.out.size))
      have CB7 := Lib.hid (CBU.out hr bo' bc' w7 HB7.out (HUW.out.below b7))
      have p0 := cell_keepT b7 q0
      have p1 := cell_keepT b7 q1
      have pl := World.block_lt_of_cell? _ _ p0
      clear b7 CR1 CBU q0 q1 ql
      go_wp2_with fail
      refine CB7.out.mono ?_
      rintro e w8 ⟨rfl, b8⟩
      have HPP : Hid (P (.returned (.bool true)) w8) := by
        rw [← HP.out]
        exact Lib.hid ⟨rfl, HB7.out.trans (b8.mono HB7.out.size)⟩
      clear b8 CB7 p0 p1 pl
      go_wp2
      exact HPP.out
    · have hc1 : c = 22 := congrArg Prod.snd hc0
      subst hc1
      have HUW := HU5
      have q0 := g0
      have q1 := g1
      have ql := gl
      clear CBT hc0 u0 u1 ul
      go_wp2_with fail
      rw [HW5.out]
      have CR1 := Lib.hid (CRT.out bo' bc' w5 HUW.out)
      rw [decide_eq_true hr] at CR1
      clear CRT
      go_wp2_with fail
      refine CR1.out.mono ?_
      rintro e w7 ⟨rfl, b7⟩
      have HB7 := Lib.hid (HB5.out.trans (b7.mono HB5.out.size))
      have CB7 := Lib.hid (CBU.out hr bo' bc' w7 HB7.out (HUW.out.below b7))
      have p0 := cell_keepT b7 q0
      have p1 := cell_keepT b7 q1
      have pl := World.block_lt_of_cell? _ _ p0
      clear b7 CR1 CBU q0 q1 ql
      go_wp2_with fail
      refine CB7.out.mono ?_
      rintro e w8 ⟨rfl, b8⟩
      have HPP : Hid (P (.returned (.bool true)) w8) := by
        rw [← HP.out]
        exact Lib.hid ⟨rfl, HB7.out.trans (b8.mono HB7.out.size)⟩
      clear b8 CB7 p0 p1 pl
      go_wp2
      exact HPP.out
  · rcases HFN.out with ⟨hc0, hf⟩ | hc0
    · have hc0 : c = 0 := hc0
      have hf : fineT T := hf
      subst hc0
      have CB5 := Lib.hid (CBT.out hf jo co w5 HB5.out HT5.out)
      have v0 := u0
      have v1 := u1
      have vl := ul
      rw [← HW5.out] at v0 v1 vl
      clear CBT hf
      go_wp2_with fail
      rw [HW5.out]
      go_wp2_with fail
      refine CB5.out.mono ?_
      rintro e w6 ⟨rfl, b6⟩
      have HB6 := Lib.hid (HB5.out.trans (b6.mono HB5.out.size))
      have HUW := Lib.hid (HU5.out.below b6)
      have q0 := cell_keepT b6 g0
      have q1 := cell_keepT b6 g1
      have ql := World.block_lt_of_cell? _ _ q0
      clear b6 g0 g1 gl u0 u1 ul v0 v1 vl CB5
      have CR1 := Lib.hid (CRT.out bo' bc' w6 HUW.out)
      rw [decide_eq_false hr] at CR1
      clear CRT
      go_wp2_with fail
      refine CR1.out.mono ?_
      rintro e w7 ⟨rfl, b7⟩
      have HB7 := Lib.hid (HB6.out.trans (b7.mono HB6.out.size))
      have HPP : Hid (P (.returned (.bool true)) w7) := by
        rw [← HP.out]
        exact Lib.hid ⟨rfl, HB7.out⟩
      clear b7 CR1 CBU q0 q1 ql
      go_wp2
      exact HPP.out
    · have hc1 : c = 22 := congrArg Prod.snd hc0
      subst hc1
      have HUW := HU5
      have q0 := g0
      have q1 := g1
      have ql := gl
      clear CBT hc0 u0 u1 ul
      go_wp2_with fail
      rw [HW5.out]
      have CR1 := Lib.hid (CRT.out bo' bc' w5 HUW.out)
      rw [decide_eq_false hr] at CR1
      clear CRT
      go_wp2_with fail
      refine CR1.out.mono ?_
      rintro e w7 ⟨rfl, b7⟩
      have HB7 := Lib.hid (HB5.out.trans (b7.mono HB5.out.size))
      have HPP : Hid (P (.returned (.bool true)) w7) := by
        rw [← HP.out]
        exact Lib.hid ⟨rfl, HB7.out⟩
      clear b7 CR1 CBU q0 q1 ql
      go_wp2
      exact HPP.out
end Go.Proofs.YtcnbcaljpgdcpaaDoor
