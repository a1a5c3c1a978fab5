/- The document's Least. -/
import Derived.Test.YtlmkefmfhdjmmaaDoorZTRefBuild
import Derived.Test.YtlmkefmfhdjmmaaDoorZTRefRight
import Derived.StillTailTactics
namespace Go.Proofs.YtlmkefmfhdjmmaaDoor
open Go.RowKit Go.Shelf Go.Maps
attribute [local go_sem] Oper.semAt_some

set_option maxRecDepth 100000 in
set_option maxHeartbeats 4000000 in
theorem refLeast_any (xo yo : Option Addr) (t : TrieD) (xc yc : Nat) (hi : t.1.length ≤ 1000000) (hb : t.2.length ≤ 1000000) (w : World) (hA : TrieT w xo yo t) :
    Calls Tryd.prog 20 #[trieV xo t.1.length xc yo t.2.length yc] w (TrieS (leastR t) w) := by
  obtain ⟨P, hP⟩ : ∃ P, TrieS (leastR t) w = P := ⟨_, rfl⟩
  have HP := Lib.hid hP
  rw [hP]
  obtain ⟨W, hW⟩ : ∃ W, (w.alloc (trieO xo t.1.length xc yo t.2.length yc)).alloc (trieO none 0 0 none 0 0) = W := ⟨_, rfl⟩
  have A1 : Below w.heap.size w W := by rw [← hW]; exact ((Below.refl _ _).alloc (Nat.le_refl _) _).alloc (by simp) _
  have z1 : W.heap.size = w.heap.size + 2 := by rw [← hW]; simp
  have r0 : W.heap[w.heap.size]? = some (trieO xo t.1.length xc yo t.2.length yc) := by rw [← hW, Below.heap_alloc _ _ _ (by simp)]; exact heap_alloc_new _ _
  have r1 : W.heap[w.heap.size + 1]? = some (trieO none 0 0 none 0 0) := by
    rw [← hW]
    have := heap_alloc_new (w.alloc (trieO xo t.1.length xc yo t.2.length yc)) (trieO none 0 0 none 0 0)
    rwa [World.size_alloc] at this
  have HC1 := Lib.hid (refRightT_any xo yo t xc yc hi hb W (hA.below A1))
  obtain ⟨D, hD⟩ : ∃ D, decide (rightT t) = D := ⟨_, rfl⟩
  rw [hD] at HC1
  have HDD := Lib.hid hD
  obtain ⟨n, hn⟩ : ∃ n, t.1.length = n := ⟨_, rfl⟩
  obtain ⟨q, hq⟩ : ∃ n, t.2.length = n := ⟨_, rfl⟩
  rw [hn, hq] at HC1 r0 hW ⊢
  have HN := Lib.hid hn
  have HQ := Lib.hid hq
  obtain ⟨c0, c1, _, _, _⟩ := trie_cells r0
  have HA1 := Lib.hid A1
  have HR0 := Lib.hid r0
  have HR1 := Lib.hid r1
  have HW := Lib.hid hW
  obtain ⟨W0, hW0⟩ : ∃ W0, w.alloc (trieO xo n xc yo q yc) = W0 := ⟨_, rfl⟩
  have b0 : Below w.heap.size w W0 := by rw [← hW0]; exact (Below.refl _ _).alloc (Nat.le_refl _) _
  have z0 : W0.heap.size = w.heap.size + 1 := by rw [← hW0]; simp
  have HB0 : Hid (Below W0.heap.size W0 W) := Lib.hid (by rw [← hW, hW0]; exact (Below.refl _ _).alloc (Nat.le_refl _) _)
  have HA := Lib.hid (hA.below b0)
  have HZ0 := Lib.hid z0
  have HBW := Lib.hid b0
  have HR00 : Hid (W0.heap[w.heap.size]? = some (trieO xo n xc yo q yc)) := Lib.hid (by rw [← hW0]; exact heap_alloc_new _ _)
  clear hP hW A1 r0 r1 hD hn hq hA hb hi hW0 b0 z0
  go_enter Tryd.func20, Tryd.ntmps20
  go_wp2_with fail
  rw [HW.out]
  refine HC1.out.mono ?_
  rintro e w1 ⟨rfl, b1⟩
  have HB1 := Lib.hid (HA1.out.trans (b1.mono HA1.out.size))
  have HB10 := Lib.hid (HB0.out.trans (b1.mono HB0.out.size))
  have HR2 := Lib.hid (row_below HR1.out b1)
  clear b1 HC1 c0 c1
  cases D with
  | false =>
    have hno : ¬ rightT t := of_decide_eq_false HDD.out
    obtain ⟨t0, t1, f0, f1, hw0⟩ := trie_cells HR2.out
    obtain ⟨r3, m3⟩ := trie_set (.slice none 0 0) (.slice none 0 0) HR2.out
    obtain ⟨w3, hw3⟩ : ∃ w3, (w1.setCell ⟨w.heap.size + 1, 0, none⟩ (.slice none 0 0)).setCell ⟨w.heap.size + 1, 1, none⟩ (.slice none 0 0) = w3 := ⟨_, rfl⟩
    rw [hw3] at r3 m3
    have HPP : Hid (P (.returned (.tuple #[trieV none 0 0 none 0 0, .int .i64 50])) w3) := by
      rw [← HP.out]
      unfold leastR
      rw [if_neg hno]
      exact Lib.hid ⟨none, 0, none, 0, rfl, Moves.below HB1.out HB1.out.size m3 (fun k hk => by omega), ⟨fun h => absurd h (Nat.lt_irrefl 0), fun h => absurd h (Nat.lt_irrefl 0)⟩⟩
    have HW3 := Lib.hid hw3
    have HR4 := Lib.hid r3
    clear hno hw3 r3 m3
    go_wp2_with fail
    rw [HW3.out]
    exact bodyPost_ret (v := .tuple #[trieV none 0 0 none 0 0, .int .i64 50]) (results_cell_tmpT rfl _ _ (w.heap.size + 1) _ _ _ _ _ rfl rfl HR4.out Tryd.underlying28 rfl (by kernel_rfl)) rfl HPP.out
  | true =>
    have hr : rightT t := of_decide_eq_true HDD.out
    have HRR := Lib.hid hr
    obtain ⟨W2, hW2⟩ : ∃ W2, w1.alloc (trieO none 0 0 none 0 0) = W2 := ⟨_, rfl⟩
    have b2 : Below w1.heap.size w1 W2 := by rw [← hW2]; exact (Below.refl _ _).alloc (Nat.le_refl _) _
    have z2 : w1.heap.size < W2.heap.size := by rw [← hW2]; simp
    have hw0 : w.heap.size + 1 < w1.heap.size := (Array.getElem?_eq_some_iff.1 HR2.out).1
    have HI0 : Hid (BldR W0 (w.heap.size + 1) w1.heap.size W2.heap.size none 0 none 0 (leastT ((rowsT t).take 0)) W2) := Lib.hid ⟨by rw [← hW2]; exact heap_alloc_new _ _, ⟨World.ownsRow_nil _ _ _ _, [], World.ownsRow_nil _ _ _ _, fun j b h => by simp [leastT] at h⟩, HB10.out.trans (b2.mono HB10.out.size), ⟨Nat.le_refl _, z2, by rw [HZ0.out]; exact Nat.le_refl _, hw0⟩, row_below HR2.out b2, fun c h => by simp [leastT] at h⟩
    have HW2 := Lib.hid hW2
    have hn4 : n = 4352 := by rw [← HN.out]; exact hr.1
    subst hn4
    have hrl : (rowsT t).length = 4352 := by unfold rowsT; rw [List.length_map, HN.out]
    have HRL := Lib.hid hrl
    clear hW2 b2 hr hrl
    go_wp2_with fail
    rw [HW2.out]
    go_loopg [5] 4352 (fun d v wr => ∃ (i : Nat) (io : Option Addr) (ic : Nat) (bo : Option Addr) (bc : Nat), v = .int .i64 (i : Nat) ∧ i ≤ 4352 ∧ 4352 - i = d ∧ Hid (BldR W0 (w.heap.size + 1) w1.heap.size W2.heap.size io ic bo bc (leastT ((rowsT t).take i)) wr))
    case atStart => exact ⟨0, none, 0, none, 0, rfl, Nat.zero_le _, rfl, HI0⟩
    case round =>
      obtain ⟨i, io, ic, bo, bc, rfl, hi, rfl, HI⟩ := hrel
      have hwi : IntKind.i64.wrap (((i : Nat) : Int) + 1) = ((i + 1 : Nat) : Int) := by rw [show ((i : Nat) : Int) + 1 = ((i + 1 : Nat) : Int) from by omega]; exact wrap_id (by omega) (by omega)
      rcases Nat.lt_or_ge i 4352 with hlt | hge
      · have hlt2 : ((i : Nat) : Int) < 4352 := by omega
        obtain ⟨a', ha⟩ : ∃ a, t.1[i]? = some a := ⟨_, List.getElem?_eq_getElem (by rw [HN.out]; exact hlt)⟩
        have hra := HRR.out.2.1 a' (List.mem_of_getElem? ha)
        obtain ⟨a, rfl⟩ := Int.eq_ofNat_of_zero_le hra.1
        have ha1 : a < q := by have := hra.2; have := HQ.out; omega
        have ha2 : ((a : Nat) : Int) < ((q : Nat) : Int) := by omega
        obtain ⟨b, hbb⟩ : ∃ b, t.2[a]? = some b := ⟨_, List.getElem?_eq_getElem (by rw [HQ.out]; exact ha1)⟩
        have hfit := HRR.out.2.2 b (List.mem_of_getElem? hbb)
        have hrow : (rowsT t)[i]? = some b := by unfold rowsT; rw [List.getElem?_map, ha]; simp [List.getD, hbb]
        have hnext := rows_take hrow
        obtain ⟨s, hs⟩ : ∃ s, leastT ((rowsT t).take i) = s := ⟨_, rfl⟩
        have hl1 : s.1.length ≤ 1000000 := by rw [← hs, (leastT_of _).len, List.length_take]; omega
        have hl2 : s.2.length ≤ 1000000 := by rw [← hs]; have := leastT_le ((rowsT t).take i); rw [List.length_take] at this; omega
        rw [hs] at hnext HI
        have hI := HI.out
        obtain ⟨e0, e1, e2, e3, e4⟩ := trie_cells hI.row
        obtain ⟨x0, x1, x2, x3, x4⟩ := trie_cells ((hI.kept.block w.heap.size (by rw [HZ0.out]; omega)).trans HR00.out)
        obtain ⟨p, hp⟩ : ∃ p, s.1.length = p := ⟨_, rfl⟩
        obtain ⟨m, hm⟩ : ∃ p, s.2.length = p := ⟨_, rfl⟩
        have hAr := HA.out.below hI.kept
        obtain ⟨g, off, rfl, hx⟩ := hAr.ix (by rw [HN.out]; omega)
        have k0 := hx i _ ha
        obtain ⟨g2, off2, rfl, hy⟩ := hAr.bl (by rw [HQ.out]; omega)
        obtain ⟨so, sc, k1, hsc, hbt⟩ := hy a b hbb
        have hbl : b.length = 256 := hfit.2
        obtain ⟨g2', off2', hE2, hyw⟩ := HA.out.bl (by rw [HQ.out]; omega)
        obtain ⟨so', sc', kw1, _, hbw⟩ := hyw a b hbb
        have hsame : so' = so := by
          have h1 := cell_keepT hI.kept kw1
          cases hE2
          rw [k1] at h1
          injection h1 with h1
          injection h1 with h1 _ _
          exact h1.symm
        rw [hsame] at hbw
        obtain ⟨g3, off3, hE3, hz⟩ := hbw (by omega)
        have hz0 := World.block_lt_of_cell? _ _ (hz 0 _ (List.getElem?_eq_getElem (by omega)))
        rw [hbl] at k1
        have hkg := World.block_lt_of_cell? _ _ k0
        have hkg2 := World.block_lt_of_cell? _ _ k1
        have bd : Below wr.heap.size wr wr.drew := (Below.refl _ _).drew
        have hbs := hI.base
        have CP := put_step (hI.below bd) hl1 hl2 so sc b hbl (hbt.below bd) (fun k hk hk2 => by
          obtain ⟨c, hc, rfl⟩ := hk
          rw [hE3] at hc
          cases hc
          obtain ⟨c, rfl, hc2⟩ := hk2
          obtain ⟨_, _, h3⟩ := own_rowT hI.own.ix (show (Value.slice (some c) s.1.length ic).ownBlock = some c.block from rfl)
          simp only at hc2 hz0
          have := HZ0.out
          omega)
        rw [hp, hm] at CP
        have HCP : Hid (Calls Tryd.prog 31 #[trieV io p ic bo m bc, .slice so 256 sc] wr.drew fun e w' => ∃ (jo : Option Addr) (n' jc : Nat) (co : Option Addr) (m' cc : Nat), e = .returned (trieV jo n' jc co m' cc) ∧
              w'.cell? ⟨w1.heap.size, 0, none⟩ = some (.slice io p ic) ∧ w'.cell? ⟨w1.heap.size, 1, none⟩ = some (.slice bo m bc) ∧ w'.frozen? ⟨w1.heap.size, 0, none⟩ = false ∧ w'.frozen? ⟨w1.heap.size, 1, none⟩ = false ∧ w1.heap.size < w'.heap.size ∧
              Hid (BldR W0 (w.heap.size + 1) w1.heap.size W2.heap.size jo jc co cc (leastT ((rowsT t).take (i + 1))) ((w'.setCell ⟨w1.heap.size, 0, none⟩ (.slice jo n' jc)).setCell ⟨w1.heap.size, 1, none⟩ (.slice co m' cc)))) := by
          rw [hnext]
          exact Lib.hid (CP.mono fun e w' ⟨jo, n', jc, co, m', cc, h0, h1, h2, h3, h4, h5, h6⟩ => ⟨jo, n', jc, co, m', cc, h0, h1, h2, h3, h4, h5, Lib.hid h6⟩)
        rw [hp] at e0
        rw [hm] at e1
        clear hI hs hl1 hl2 hrow hnext hp hm hx hy hbt hyw hbw hz hz0 hAr kw1 hbb hfit hra ha CP bd hbs hE2 hE3 hsame hsc hbl
        go_wp2_with fail
        go_still_tail 10, (by kernel_rfl)
        change wpList _ _ _ _ _ wr.drew
        go_wp2_with fail
        refine HCP.out.mono ?_
        rintro e w' ⟨jo, n', jc, co, m', cc, rfl, k0, k1, k2, k3, k4, HB'⟩
        go_wp2_with fail
        go_roundg (4352 - (i + 1))
        case measure => omega
        case rel => exact ⟨i + 1, jo, jc, co, cc, rfl, by omega, rfl, HB'⟩
      · obtain rfl : i = 4352 := by omega
        have hall : (rowsT t).take 4352 = rowsT t := List.take_of_length_le (by rw [HRL.out]; exact Nat.le_refl _)
        rw [hall] at HI
        obtain ⟨T, hT⟩ : ∃ T, leastT (rowsT t) = T := ⟨_, rfl⟩
        rw [hT] at HI
        have hI := HI.out
        obtain ⟨e0, e1, e2, e3, e4⟩ := trie_cells hI.row
        obtain ⟨t0, t1, f0, f1, hw0'⟩ := trie_cells hI.tb
        obtain ⟨r5, m5⟩ := trie_set (.slice io T.1.length ic) (.slice bo T.2.length bc) hI.tb
        obtain ⟨w5, hw5⟩ : ∃ w5, (wr.setCell ⟨w.heap.size + 1, 0, none⟩ (.slice io T.1.length ic)).setCell ⟨w.heap.size + 1, 1, none⟩ (.slice bo T.2.length bc) = w5 := ⟨_, rfl⟩
        rw [hw5] at r5 m5
        obtain ⟨p, hp⟩ : ∃ p, T.1.length = p := ⟨_, rfl⟩
        obtain ⟨m, hm⟩ : ∃ p, T.2.length = p := ⟨_, rfl⟩
        have HPP : Hid (P (.returned (.tuple #[trieV io p ic bo m bc, .int .i64 0])) w5) := by
          rw [← HP.out]
          unfold leastR
          rw [if_pos HRR.out, hT]
          have hk := HBW.out.trans (hI.kept.mono HBW.out.size)
          exact Lib.hid ⟨io, ic, bo, bc, by rw [hp, hm], Moves.below hk hk.size m5 (fun k hk => by omega), (hI.own.turn m5 (fun k hk => by have := hI.base; omega)).trie hI.fits⟩
        rw [hp, hm] at hw5 r5
        rw [hp] at e0
        rw [hm] at e1
        have HW5 := Lib.hid hw5
        have HR5 := Lib.hid r5
        have hge2 : ¬ ((4352 : Nat) : Int) < 4352 := by omega
        clear hI hT hall r5 m5 hw5 hp hm
        go_wp2_with fail
        rw [HW5.out]
        exact bodyPost_ret (v := .tuple #[trieV io p ic bo m bc, .int .i64 0]) (results_cell_tmpT rfl _ _ (w.heap.size + 1) _ _ _ _ _ rfl rfl HR5.out Tryd.underlying28 rfl (by kernel_rfl)) rfl HPP.out
end Go.Proofs.YtlmkefmfhdjmmaaDoor
