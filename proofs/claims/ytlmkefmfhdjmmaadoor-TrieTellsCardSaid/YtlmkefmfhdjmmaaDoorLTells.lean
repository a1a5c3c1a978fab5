/- TrieTells: which tries are right, what they say, their maps, the least ones. -/
import Derived.Test.YtlmkefmfhdjmmaaDoorLBuilds
import Derived.Test.YtlmkefmfhdjmmaaDoorZTRefLeast
import Derived.Test.YtlmkefmfhdjmmaaDoorZTRefRanges
import Derived.Test.YtlmkefmfhdjmmaaDoorZTTable
import Derived.Deep.RegionHeld3
namespace Go.Proofs.YtlmkefmfhdjmmaaDoor
open Go.RowKit Go.Shelf Go.Maps
attribute [local go_sem] Oper.semAt_some

theorem keep6 {w9 W W' : World} {a0 a1 a2 a3 a4 a5 : Addr} {v0 v1 v2 v3 v4 v5 : Value} (hb : Below W.heap.size W W') (h0 : W.cell? a0 = some v0) (h1 : W.cell? a1 = some v1) (h2 : W.cell? a2 = some v2) (h3 : W.cell? a3 = some v3) (h4 : W.cell? a4 = some v4) (h5 : W.cell? a5 = some v5) (h6 : Below w9.heap.size w9 W) :
    W'.cell? a0 = some v0 ∧ W'.cell? a1 = some v1 ∧ W'.cell? a2 = some v2 ∧ W'.cell? a3 = some v3 ∧ W'.cell? a4 = some v4 ∧ W'.cell? a5 = some v5 ∧ Below w9.heap.size w9 W' :=
  ⟨cell_keepT hb h0, cell_keepT hb h1, cell_keepT hb h2, cell_keepT hb h3, cell_keepT hb h4, cell_keepT hb h5, h6.trans (hb.mono h6.size)⟩
theorem tableT_le (t : TrieD) : (tableT t).1.length ≤ 1000000 ∧ (tableT t).2.length ≤ 1000000 ∧ ∀ b ∈ (tableT t).2, b.length ≤ 1000000 := by
  unfold tableT
  simp only [List.length_take, List.length_map]
  refine ⟨by omega, by omega, fun b hb => ?_⟩
  obtain ⟨c, _, rfl⟩ := List.mem_map.1 hb
  rw [List.length_take]
  omega
theorem leastR_le (t : TrieD) : (leastR t).1.1.length ≤ 1000000 ∧ (leastR t).1.2.length ≤ 1000000 ∧ ∀ b ∈ (leastR t).1.2, b.length ≤ 1000000 := by
  unfold leastR
  split
  · rename_i ht
    have hl : (rowsT t).length = 4352 := by unfold rowsT; rw [List.length_map, ht.1]
    refine ⟨?_, ?_, fun b hb => ?_⟩
    · show (leastT (rowsT t)).1.length ≤ _
      rw [(leastT_of _).len, hl]; omega
    · have := leastT_le (rowsT t)
      show (leastT (rowsT t)).2.length ≤ _
      omega
    · have h1 := (leastT_of (rowsT t)).mem b hb
      rw [(rowsT_fits ht b h1).2]; omega
  · exact ⟨by simp, by simp, fun b hb => by simp at hb⟩
set_option maxRecDepth 100000 in
set_option maxHeartbeats 16000000 in
theorem tells_anyL (io bo : Option Addr) (t : TrieD) (ic bc : Nat) (r : Int) (hic : t.1.length ≤ ic) (w : World) (hA : TrieT w io bo t) {aU aS : Addr} (hG : Glob w aU aS) :
    Calls Tryd.prog 4 #[trieV io t.1.length ic bo t.2.length bc, .int .i64 r] w fun e w' => e = .returned (.bool true) ∧ Below w.heap.size w w' := by
  obtain ⟨P, hP⟩ : ∃ P, (fun (e : Ending) w' => e = .returned (.bool true) ∧ Below w.heap.size w w') = P := ⟨_, rfl⟩
  have HP := Lib.hid hP
  rw [hP]
  obtain ⟨n, hn⟩ : ∃ n, t.1.length = n := ⟨_, rfl⟩
  obtain ⟨q, hq⟩ : ∃ n, t.2.length = n := ⟨_, rfl⟩
  obtain ⟨W, hW⟩ : ∃ W, w.alloc (trieO io n ic bo q bc) = W := ⟨_, rfl⟩
  have A1 : Below w.heap.size w W := by rw [← hW]; exact (Below.refl _ _).alloc (Nat.le_refl _) _
  have r0 : W.heap[w.heap.size]? = some (trieO io n ic bo q bc) := by rw [← hW]; exact heap_alloc_new _ _
  have HS := Lib.hid (shownT_any W (hG.below A1))
  have HTB := Lib.hid (fun (W1 : World) (bb : Below w.heap.size w W1) => table_any io bo t ic bc hic W1 (hA.below bb))
  rw [hn, hq] at HTB ⊢
  have hUle := tableT_le t
  obtain ⟨U, hU⟩ : ∃ U, tableT t = U := ⟨_, rfl⟩
  rw [hU] at HTB hUle
  obtain ⟨hU1, hU2, hU3⟩ := hUle
  have hVle := leastR_le U
  obtain ⟨L, hL⟩ : ∃ L, leastR U = L := ⟨_, rfl⟩
  obtain ⟨V, c⟩ := L
  rw [hL] at hVle
  obtain ⟨hV1, hV2, hV3⟩ := hVle
  simp only at hV1 hV2 hV3
  obtain ⟨R, hR⟩ : ∃ R, rangesT U = R := ⟨_, rfl⟩
  have hRl : R.1.length ≤ 1000000 := by rw [← hR]; have := rangesT_len U; omega
  obtain ⟨n', hu1⟩ : ∃ n, U.1.length = n := ⟨_, rfl⟩
  obtain ⟨m', hu2⟩ : ∃ n, U.2.length = n := ⟨_, rfl⟩
  obtain ⟨a, hv1⟩ : ∃ n, V.1.length = n := ⟨_, rfl⟩
  obtain ⟨b, hv2⟩ : ∃ n, V.2.length = n := ⟨_, rfl⟩
  obtain ⟨rl, hrl⟩ : ∃ n, R.1.length = n := ⟨_, rfl⟩
  obtain ⟨rc, hrc⟩ : ∃ n, R.2 = n := ⟨_, rfl⟩
  rw [hu1, hu2] at HTB
  have CRG := Lib.hid (fun (bo' : Option Addr) (bc' : Nat) (W1 : World) (bb : Below w.heap.size w W1) (h : TrieT W1 io bo' U) => Ranges_anyT io bo' U ic bc' hU1 hU2 hU3 W1 (hG.below bb) h)
  have CRR := Lib.hid (fun (bo' : Option Addr) (bc' : Nat) (W1 : World) (h : TrieT W1 io bo' U) => refRangesT_any io bo' U ic bc' hU1 hU2 W1 h)
  have CLS := Lib.hid (fun (bo' : Option Addr) (bc' : Nat) (W1 : World) (bb : Below w.heap.size w W1) (h : TrieT W1 io bo' U) => Least_any io bo' U ic bc' hU1 hU2 hU3 W1 (hG.below bb) h)
  have CRL := Lib.hid (fun (bo' : Option Addr) (bc' : Nat) (W1 : World) (h : TrieT W1 io bo' U) => refLeast_any io bo' U ic bc' hU1 hU2 W1 h)
  rw [hu1, hu2] at CRG CRR CLS CRL
  rw [hR] at CRG CRR
  rw [hL] at CLS CRL
  have HA1 := Lib.hid A1
  have HR0 := Lib.hid r0
  have HW := Lib.hid hW
  obtain ⟨c0, c1, _, _, cl⟩ := trie_cells r0
  clear hP hn hq hW A1 r0 hA hG hU
  go_enter Tryd.func4, Tryd.ntmps4
  go_wp2_with fail
  rw [HW.out]
  refine HS.out.mono ?_
  rintro e w1 ⟨rfl, b1⟩
  have B1 := Lib.hid (HA1.out.trans (b1.mono HA1.out.size))
  have HR1 := Lib.hid (row_below HR0.out b1)
  have d0 := cell_keepT b1 c0
  have d1' := cell_keepT b1 c1
  have dl := World.block_lt_of_cell? _ _ d0
  have CTB := Lib.hid (HTB.out w1 B1.out)
  clear b1 c0 c1 cl HS HTB
  go_wp2_with fail
  refine CTB.out.mono ?_
  rintro e w2 ⟨bo', bc', rfl, b2, ht2⟩
  have R2 := row_below HR1.out b2
  obtain ⟨e0, e1, e2, e3, e4⟩ := trie_cells R2
  obtain ⟨R3, m3⟩ := trie_set (.slice io n' ic) (.slice bo' m' bc') R2
  obtain ⟨w3, hw3⟩ : ∃ w3, (w2.setCell ⟨w.heap.size, 0, none⟩ (.slice io n' ic)).setCell ⟨w.heap.size, 1, none⟩ (.slice bo' m' bc') = w3 := ⟨_, rfl⟩
  rw [hw3] at R3 m3
  have B2 := B1.out.trans (b2.mono B1.out.size)
  have B3 := Lib.hid (Moves.below B2 B2.size m3 (fun k hk => by omega))
  have H3 := Lib.hid (ht2.1.box R2 (fun k hk e => by have := ht2.2 k hk; omega) m3)
  obtain ⟨f0, f1, _, _, f2⟩ := trie_cells R3
  have CG1 := Lib.hid (CRG.out bo' bc' w3 B3.out H3.out)
  have HW3 := Lib.hid hw3
  clear hw3 B2 m3 R3 R2 ht2 b2 CTB CRG d0 d1' dl HR0 HA1 HW
  go_wp2_with fail
  rw [HW3.out]
  refine CG1.out.mono ?_
  rintro e w4 ⟨o4, rfl, b4, ha4⟩
  simp only [hrl, hrc]
  have g0 := cell_keepT b4 f0
  have g1 := cell_keepT b4 f1
  have g2 := World.block_lt_of_cell? _ _ g0
  have B4 := Lib.hid (B3.out.trans (b4.mono B3.out.size))
  have H4 := Lib.hid (H3.out.below b4)
  have HA4' := Lib.hid ha4
  have CR1 := Lib.hid (CRR.out bo' bc' w4 H4.out)
  clear b4 ha4 CG1 e0 e1 e2 e3 e4 f0 f1 f2 HW3 CRR
  go_wp2_with fail
  refine CR1.out.mono ?_
  rintro e w5 ⟨o5, cap5, rfl, b5, ha5⟩
  simp only [hrl, hrc]
  have f0 := cell_keepT b5 g0
  have f1 := cell_keepT b5 g1
  have f2 := World.block_lt_of_cell? _ _ f0
  have B5 := Lib.hid (B4.out.trans (b5.mono B4.out.size))
  have H5 := Lib.hid (H4.out.below b5)
  have HA4'' := Lib.hid (HA4'.out.below b5)
  have HA5' := Lib.hid ha5
  have CL1 := Lib.hid (CLS.out bo' bc' w5 B5.out H5.out)
  clear b5 ha5 CR1 g0 g1 g2 HA4' CLS
  go_wp2_with fail
  refine CL1.out.mono ?_
  rintro e w6 h
  obtain ⟨lo, mo, rfl, b6, ht6⟩ := trie_box h
  simp only [hv1, hv2]
  have B6 := Lib.hid (B5.out.trans (b6.mono B5.out.size))
  have k0 := cell_keepT b6 f0
  have k1 := cell_keepT b6 f1
  have k2 : w.heap.size < w6.heap.size := World.block_lt_of_cell? _ _ k0
  have k3 : w.heap.size ≠ w6.heap.size := by omega
  obtain ⟨w7, hw7⟩ : ∃ w7, w6.alloc (trieO lo a a mo b b) = w7 := ⟨_, rfl⟩
  obtain ⟨b7, u0, u1, u2⟩ := box_at hw7
  have D7 := b6.trans (b7.mono b6.size)
  have g0 := cell_keepT D7 f0
  have g1 := cell_keepT D7 f1
  have g2 := World.block_lt_of_cell? _ _ g0
  have B7 := Lib.hid (B5.out.trans (D7.mono B5.out.size))
  have H7 := Lib.hid (H5.out.below D7)
  have HA47 := Lib.hid (HA4''.out.below D7)
  have HA57 := Lib.hid (HA5'.out.below D7)
  have HV7 := Lib.hid (ht6.below b7)
  have CL2 := Lib.hid (CRL.out bo' bc' w7 H7.out)
  have HW7 := Lib.hid hw7
  clear h b6 b7 D7 hw7 ht6 f0 f1 f2 CL1 CRL B6 HA4'' HA5' H5 H4 H3 B3 B4 B5 HR1 B1
  go_wp2_with fail
  rw [HW7.out]
  refine CL2.out.mono ?_
  rintro e w8 ⟨lo', lc', mo', mc', rfl, b8, ht8⟩
  simp only [hv1, hv2]
  obtain ⟨w9, hw9⟩ : ∃ w9, w8.alloc (trieO lo' a lc' mo' b mc') = w9 := ⟨_, rfl⟩
  have r9 : w9.heap[w8.heap.size]? = some (trieO lo' a lc' mo' b mc') := by rw [← hw9]; exact heap_alloc_new _ _
  have b9 : Below w8.heap.size w8 w9 := by rw [← hw9]; exact (Below.refl _ _).alloc (Nat.le_refl _) _
  obtain ⟨x0, x1, _, _, x2⟩ := trie_cells r9
  have D9 := b8.trans (b9.mono b8.size)
  have f0 := cell_keepT D9 g0
  have f1 := cell_keepT D9 g1
  have f2 := World.block_lt_of_cell? _ _ f0
  have y0 := cell_keepT D9 u0
  have y1 := cell_keepT D9 u1
  have y2 := World.block_lt_of_cell? _ _ y0
  have B9 := Lib.hid (B7.out.trans (D9.mono B7.out.size))
  have HU9 := Lib.hid (H7.out.below D9)
  have HA4 := Lib.hid (HA47.out.below D9)
  have HA5 := Lib.hid (HA57.out.below D9)
  have HV9 := Lib.hid (HV7.out.below D9)
  have HX9 := Lib.hid (ht8.below b9)
  obtain ⟨d1, hd1⟩ : ∃ d, decide (rightT U) = d := ⟨_, rfl⟩
  obtain ⟨d2, hd2⟩ : ∃ d, decide (U = V) = d := ⟨_, rfl⟩
  obtain ⟨v, hv⟩ : ∃ v, valueT U r = v := ⟨_, rfl⟩
  have K1 : Hid (∀ W, W.cell? ⟨w.heap.size, 0, none⟩ = some (.slice io n' ic) ∧ W.cell? ⟨w.heap.size, 1, none⟩ = some (.slice bo' m' bc') ∧ W.cell? ⟨w6.heap.size, 0, none⟩ = some (.slice lo a a) ∧ W.cell? ⟨w6.heap.size, 1, none⟩ = some (.slice mo b b) ∧ W.cell? ⟨w8.heap.size, 0, none⟩ = some (.slice lo' a lc') ∧ W.cell? ⟨w8.heap.size, 1, none⟩ = some (.slice mo' b mc') ∧ Below w9.heap.size w9 W → Calls Tryd.prog 21 #[trieV io n' ic bo' m' bc'] W fun e W' => e = .returned (.bool d1) ∧ W'.cell? ⟨w.heap.size, 0, none⟩ = some (.slice io n' ic) ∧ W'.cell? ⟨w.heap.size, 1, none⟩ = some (.slice bo' m' bc') ∧ W'.cell? ⟨w6.heap.size, 0, none⟩ = some (.slice lo a a) ∧ W'.cell? ⟨w6.heap.size, 1, none⟩ = some (.slice mo b b) ∧ W'.cell? ⟨w8.heap.size, 0, none⟩ = some (.slice lo' a lc') ∧ W'.cell? ⟨w8.heap.size, 1, none⟩ = some (.slice mo' b mc') ∧ Below w9.heap.size w9 W') := Lib.hid fun W hW => by
    obtain ⟨p0, p1, p2, p3, p4, p5, p6⟩ := hW
    have := rightT_any io bo' U ic bc' hU1 hU2 hU3 W (HU9.out.below p6)
    rw [hu1, hu2, hd1] at this
    exact this.mono fun e W' h => ⟨h.1, keep6 h.2 p0 p1 p2 p3 p4 p5 p6⟩
  have K2 : Hid (∀ W, W.cell? ⟨w.heap.size, 0, none⟩ = some (.slice io n' ic) ∧ W.cell? ⟨w.heap.size, 1, none⟩ = some (.slice bo' m' bc') ∧ W.cell? ⟨w6.heap.size, 0, none⟩ = some (.slice lo a a) ∧ W.cell? ⟨w6.heap.size, 1, none⟩ = some (.slice mo b b) ∧ W.cell? ⟨w8.heap.size, 0, none⟩ = some (.slice lo' a lc') ∧ W.cell? ⟨w8.heap.size, 1, none⟩ = some (.slice mo' b mc') ∧ Below w9.heap.size w9 W → Calls Tryd.prog 22 #[trieV io n' ic bo' m' bc'] W fun e W' => e = .returned (.bool d1) ∧ W'.cell? ⟨w.heap.size, 0, none⟩ = some (.slice io n' ic) ∧ W'.cell? ⟨w.heap.size, 1, none⟩ = some (.slice bo' m' bc') ∧ W'.cell? ⟨w6.heap.size, 0, none⟩ = some (.slice lo a a) ∧ W'.cell? ⟨w6.heap.size, 1, none⟩ = some (.slice mo b b) ∧ W'.cell? ⟨w8.heap.size, 0, none⟩ = some (.slice lo' a lc') ∧ W'.cell? ⟨w8.heap.size, 1, none⟩ = some (.slice mo' b mc') ∧ Below w9.heap.size w9 W') := Lib.hid fun W hW => by
    obtain ⟨p0, p1, p2, p3, p4, p5, p6⟩ := hW
    have := refRightT_any io bo' U ic bc' hU1 hU2 W (HU9.out.below p6)
    rw [hu1, hu2, hd1] at this
    exact this.mono fun e W' h => ⟨h.1, keep6 h.2 p0 p1 p2 p3 p4 p5 p6⟩
  have K3 : Hid (∀ W, W.cell? ⟨w.heap.size, 0, none⟩ = some (.slice io n' ic) ∧ W.cell? ⟨w.heap.size, 1, none⟩ = some (.slice bo' m' bc') ∧ W.cell? ⟨w6.heap.size, 0, none⟩ = some (.slice lo a a) ∧ W.cell? ⟨w6.heap.size, 1, none⟩ = some (.slice mo b b) ∧ W.cell? ⟨w8.heap.size, 0, none⟩ = some (.slice lo' a lc') ∧ W.cell? ⟨w8.heap.size, 1, none⟩ = some (.slice mo' b mc') ∧ Below w9.heap.size w9 W → Calls Tryd.prog 14 #[trieV io n' ic bo' m' bc', .int .i64 r] W fun e W' => e = .returned (.int .i64 v) ∧ W'.cell? ⟨w.heap.size, 0, none⟩ = some (.slice io n' ic) ∧ W'.cell? ⟨w.heap.size, 1, none⟩ = some (.slice bo' m' bc') ∧ W'.cell? ⟨w6.heap.size, 0, none⟩ = some (.slice lo a a) ∧ W'.cell? ⟨w6.heap.size, 1, none⟩ = some (.slice mo b b) ∧ W'.cell? ⟨w8.heap.size, 0, none⟩ = some (.slice lo' a lc') ∧ W'.cell? ⟨w8.heap.size, 1, none⟩ = some (.slice mo' b mc') ∧ Below w9.heap.size w9 W') := Lib.hid fun W hW => by
    obtain ⟨p0, p1, p2, p3, p4, p5, p6⟩ := hW
    have := value_any io bo' U ic bc' r hU1 hU2 hU3 W (HU9.out.below p6)
    rw [hu1, hu2, hv] at this
    exact this.mono fun e W' h => ⟨h.1, keep6 h.2 p0 p1 p2 p3 p4 p5 p6⟩
  have K4 : Hid (∀ W, W.cell? ⟨w.heap.size, 0, none⟩ = some (.slice io n' ic) ∧ W.cell? ⟨w.heap.size, 1, none⟩ = some (.slice bo' m' bc') ∧ W.cell? ⟨w6.heap.size, 0, none⟩ = some (.slice lo a a) ∧ W.cell? ⟨w6.heap.size, 1, none⟩ = some (.slice mo b b) ∧ W.cell? ⟨w8.heap.size, 0, none⟩ = some (.slice lo' a lc') ∧ W.cell? ⟨w8.heap.size, 1, none⟩ = some (.slice mo' b mc') ∧ Below w9.heap.size w9 W → Calls Tryd.prog 15 #[trieV io n' ic bo' m' bc', .int .i64 r] W fun e W' => e = .returned (.int .i64 v) ∧ W'.cell? ⟨w.heap.size, 0, none⟩ = some (.slice io n' ic) ∧ W'.cell? ⟨w.heap.size, 1, none⟩ = some (.slice bo' m' bc') ∧ W'.cell? ⟨w6.heap.size, 0, none⟩ = some (.slice lo a a) ∧ W'.cell? ⟨w6.heap.size, 1, none⟩ = some (.slice mo b b) ∧ W'.cell? ⟨w8.heap.size, 0, none⟩ = some (.slice lo' a lc') ∧ W'.cell? ⟨w8.heap.size, 1, none⟩ = some (.slice mo' b mc') ∧ Below w9.heap.size w9 W') := Lib.hid fun W hW => by
    obtain ⟨p0, p1, p2, p3, p4, p5, p6⟩ := hW
    have := refValueT_any io bo' U ic bc' r hU1 hU2 W (HU9.out.below p6)
    rw [hu1, hu2, hv] at this
    exact this.mono fun e W' h => ⟨h.1, keep6 h.2 p0 p1 p2 p3 p4 p5 p6⟩
  have K5 : Hid (∀ W, W.cell? ⟨w.heap.size, 0, none⟩ = some (.slice io n' ic) ∧ W.cell? ⟨w.heap.size, 1, none⟩ = some (.slice bo' m' bc') ∧ W.cell? ⟨w6.heap.size, 0, none⟩ = some (.slice lo a a) ∧ W.cell? ⟨w6.heap.size, 1, none⟩ = some (.slice mo b b) ∧ W.cell? ⟨w8.heap.size, 0, none⟩ = some (.slice lo' a lc') ∧ W.cell? ⟨w8.heap.size, 1, none⟩ = some (.slice mo' b mc') ∧ Below w9.heap.size w9 W → Calls Tryd.prog 23 #[.slice o4 rl rl, .slice o5 rl cap5] W fun e W' => e = .returned (.bool true) ∧ W'.cell? ⟨w.heap.size, 0, none⟩ = some (.slice io n' ic) ∧ W'.cell? ⟨w.heap.size, 1, none⟩ = some (.slice bo' m' bc') ∧ W'.cell? ⟨w6.heap.size, 0, none⟩ = some (.slice lo a a) ∧ W'.cell? ⟨w6.heap.size, 1, none⟩ = some (.slice mo b b) ∧ W'.cell? ⟨w8.heap.size, 0, none⟩ = some (.slice lo' a lc') ∧ W'.cell? ⟨w8.heap.size, 1, none⟩ = some (.slice mo' b mc') ∧ Below w9.heap.size w9 W') := Lib.hid fun W hW => by
    obtain ⟨p0, p1, p2, p3, p4, p5, p6⟩ := hW
    have := refSame_any o4 o5 R.1 R.1 R.1.length cap5 hRl W (HA4.out.below p6) (HA5.out.below p6)
    rw [hrl] at this
    replace this := this.mono fun e W' (h : _ ∧ _) => (⟨h.1.trans (by simp), h.2⟩ : e = .returned (.bool true) ∧ Below W.heap.size W W')
    exact this.mono fun e W' h => ⟨h.1, keep6 h.2 p0 p1 p2 p3 p4 p5 p6⟩
  have K6 : Hid (∀ W, W.cell? ⟨w.heap.size, 0, none⟩ = some (.slice io n' ic) ∧ W.cell? ⟨w.heap.size, 1, none⟩ = some (.slice bo' m' bc') ∧ W.cell? ⟨w6.heap.size, 0, none⟩ = some (.slice lo a a) ∧ W.cell? ⟨w6.heap.size, 1, none⟩ = some (.slice mo b b) ∧ W.cell? ⟨w8.heap.size, 0, none⟩ = some (.slice lo' a lc') ∧ W.cell? ⟨w8.heap.size, 1, none⟩ = some (.slice mo' b mc') ∧ Below w9.heap.size w9 W → Calls Tryd.prog 13 #[trieV lo a a mo b b, trieV lo' a lc' mo' b mc'] W fun e W' => e = .returned (.bool true) ∧ W'.cell? ⟨w.heap.size, 0, none⟩ = some (.slice io n' ic) ∧ W'.cell? ⟨w.heap.size, 1, none⟩ = some (.slice bo' m' bc') ∧ W'.cell? ⟨w6.heap.size, 0, none⟩ = some (.slice lo a a) ∧ W'.cell? ⟨w6.heap.size, 1, none⟩ = some (.slice mo b b) ∧ W'.cell? ⟨w8.heap.size, 0, none⟩ = some (.slice lo' a lc') ∧ W'.cell? ⟨w8.heap.size, 1, none⟩ = some (.slice mo' b mc') ∧ Below w9.heap.size w9 W') := Lib.hid fun W hW => by
    obtain ⟨p0, p1, p2, p3, p4, p5, p6⟩ := hW
    have := refSameT_any lo mo lo' mo' V V a b lc' mc' hV1 hV2 hV3 W (HV9.out.below p6) (HX9.out.below p6)
    rw [hv1, hv2, decide_eq_true rfl] at this
    exact this.mono fun e W' h => ⟨h.1, keep6 h.2 p0 p1 p2 p3 p4 p5 p6⟩
  have K7 : Hid (∀ W, W.cell? ⟨w.heap.size, 0, none⟩ = some (.slice io n' ic) ∧ W.cell? ⟨w.heap.size, 1, none⟩ = some (.slice bo' m' bc') ∧ W.cell? ⟨w6.heap.size, 0, none⟩ = some (.slice lo a a) ∧ W.cell? ⟨w6.heap.size, 1, none⟩ = some (.slice mo b b) ∧ W.cell? ⟨w8.heap.size, 0, none⟩ = some (.slice lo' a lc') ∧ W.cell? ⟨w8.heap.size, 1, none⟩ = some (.slice mo' b mc') ∧ Below w9.heap.size w9 W → Calls Tryd.prog 24 #[trieV io n' ic bo' m' bc', trieV lo a a mo b b] W fun e W' => e = .returned (.bool d2) ∧ W'.cell? ⟨w.heap.size, 0, none⟩ = some (.slice io n' ic) ∧ W'.cell? ⟨w.heap.size, 1, none⟩ = some (.slice bo' m' bc') ∧ W'.cell? ⟨w6.heap.size, 0, none⟩ = some (.slice lo a a) ∧ W'.cell? ⟨w6.heap.size, 1, none⟩ = some (.slice mo b b) ∧ W'.cell? ⟨w8.heap.size, 0, none⟩ = some (.slice lo' a lc') ∧ W'.cell? ⟨w8.heap.size, 1, none⟩ = some (.slice mo' b mc') ∧ Below w9.heap.size w9 W') := Lib.hid fun W hW => by
    obtain ⟨p0, p1, p2, p3, p4, p5, p6⟩ := hW
    have := SameT_any io bo' lo mo U V ic bc' a b hU1 hU2 hU3 W (HU9.out.below p6) (HV9.out.below p6)
    rw [hu1, hu2, hv1, hv2, hd2] at this
    exact this.mono fun e W' h => ⟨h.1, keep6 h.2 p0 p1 p2 p3 p4 p5 p6⟩
  have K8 : Hid (∀ W, W.cell? ⟨w.heap.size, 0, none⟩ = some (.slice io n' ic) ∧ W.cell? ⟨w.heap.size, 1, none⟩ = some (.slice bo' m' bc') ∧ W.cell? ⟨w6.heap.size, 0, none⟩ = some (.slice lo a a) ∧ W.cell? ⟨w6.heap.size, 1, none⟩ = some (.slice mo b b) ∧ W.cell? ⟨w8.heap.size, 0, none⟩ = some (.slice lo' a lc') ∧ W.cell? ⟨w8.heap.size, 1, none⟩ = some (.slice mo' b mc') ∧ Below w9.heap.size w9 W → Calls Tryd.prog 13 #[trieV io n' ic bo' m' bc', trieV lo a a mo b b] W fun e W' => e = .returned (.bool d2) ∧ W'.cell? ⟨w.heap.size, 0, none⟩ = some (.slice io n' ic) ∧ W'.cell? ⟨w.heap.size, 1, none⟩ = some (.slice bo' m' bc') ∧ W'.cell? ⟨w6.heap.size, 0, none⟩ = some (.slice lo a a) ∧ W'.cell? ⟨w6.heap.size, 1, none⟩ = some (.slice mo b b) ∧ W'.cell? ⟨w8.heap.size, 0, none⟩ = some (.slice lo' a lc') ∧ W'.cell? ⟨w8.heap.size, 1, none⟩ = some (.slice mo' b mc') ∧ Below w9.heap.size w9 W') := Lib.hid fun W hW => by
    obtain ⟨p0, p1, p2, p3, p4, p5, p6⟩ := hW
    have := refSameT_any io bo' lo mo U V ic bc' a b hU1 hU2 hU3 W (HU9.out.below p6) (HV9.out.below p6)
    rw [hu1, hu2, hv1, hv2, hd2] at this
    exact this.mono fun e W' h => ⟨h.1, keep6 h.2 p0 p1 p2 p3 p4 p5 p6⟩
  have HPQ : Hid (∀ W, Below w9.heap.size w9 W → P (.returned (.bool true)) W) := by
    rw [← HP.out]
    exact Lib.hid fun W h => ⟨rfl, B9.out.trans (h.mono B9.out.size)⟩
  have HD : w9.drew.cell? ⟨w.heap.size, 0, none⟩ = some (.slice io n' ic) ∧ w9.drew.cell? ⟨w.heap.size, 1, none⟩ = some (.slice bo' m' bc') ∧ w9.drew.cell? ⟨w6.heap.size, 0, none⟩ = some (.slice lo a a) ∧ w9.drew.cell? ⟨w6.heap.size, 1, none⟩ = some (.slice mo b b) ∧ w9.drew.cell? ⟨w8.heap.size, 0, none⟩ = some (.slice lo' a lc') ∧ w9.drew.cell? ⟨w8.heap.size, 1, none⟩ = some (.slice mo' b mc') ∧ Below w9.heap.size w9 w9.drew := keep6 (Below.refl _ _).drew f0 f1 y0 y1 x0 x1 (Below.refl _ _)
  have hvv : (v == v) = true := by simp
  have hcc : (c == c) = true := by simp
  have hrr : (rc == rc) = true := by simp
  have hd11 : (d1 == d1) = true := by simp
  have hd22 : (d2 == d2) = true := by simp
  have hfol : Tryd.prog.follows .mixedOrders = true := by kernel_rfl
  have HW9 := Lib.hid hw9
  clear hw9 r9 b9 D9 b8 ht8 hv hd1 hd2 hu1 hu2 hv1 hv2 hrl hrc hR hL hU1 hU2 hU3 hV1 hV2 hV3 hRl CL2 HW7 g0 g1 g2 u0 u1 u2 H7 B7 HA47 HA57 HV7
  go_wp2_with fail
  rw [HW9.out]
  try go_wp2_with fail
  go_region_held3 (fun W => W.cell? ⟨w.heap.size, 0, none⟩ = some (.slice io n' ic) ∧ W.cell? ⟨w.heap.size, 1, none⟩ = some (.slice bo' m' bc') ∧ W.cell? ⟨w6.heap.size, 0, none⟩ = some (.slice lo a a) ∧ W.cell? ⟨w6.heap.size, 1, none⟩ = some (.slice mo b b) ∧ W.cell? ⟨w8.heap.size, 0, none⟩ = some (.slice lo' a lc') ∧ W.cell? ⟨w8.heap.size, 1, none⟩ = some (.slice mo' b mc') ∧ Below w9.heap.size w9 W) (first | assumption | exact HD | go_keep) (first | (go_at_call 21; refine (K1.out _ (by first | assumption | exact HD | exact hg)).mono ?_; rintro e w' ⟨rfl, hg⟩) | (go_at_call 22; refine (K2.out _ (by first | assumption | exact HD | exact hg)).mono ?_; rintro e w' ⟨rfl, hg⟩) | (go_at_call 14; refine (K3.out _ (by first | assumption | exact HD | exact hg)).mono ?_; rintro e w' ⟨rfl, hg⟩) | (go_at_call 15; refine (K4.out _ (by first | assumption | exact HD | exact hg)).mono ?_; rintro e w' ⟨rfl, hg⟩) | (go_at_call 23; refine (K5.out _ (by first | assumption | exact HD | exact hg)).mono ?_; rintro e w' ⟨rfl, hg⟩) | (go_at_call 24; refine (K7.out _ (by first | assumption | exact HD | exact hg)).mono ?_; rintro e w' ⟨rfl, hg⟩) | (go_at_call 13; (first | with_reducible refine (K6.out _ (by first | assumption | exact HD | exact hg)).mono ?_ | with_reducible refine (K8.out _ (by first | assumption | exact HD | exact hg)).mono ?_); rintro e w' ⟨rfl, hg⟩))
  go_wp2
  exact HPQ.out _ hg.2.2.2.2.2.2
end Go.Proofs.YtlmkefmfhdjmmaaDoor
