/- PatternWider. -/
import Derived.Test.YtcgljfmknggdoaaGreatDoorBunA19
namespace Go.Proofs.YtcgljfmknggdoaaGreatDoor
open Go.RowKit Go.Shelf Go.Maps
attribute [local go_sem] Oper.semAt_some
attribute [local go_sem ↓] app_hide

/-- The items with more in their sets. -/
def wideP (s : Int) (xs : List ItemP) : List ItemP := xs.map fun x => (bits .or .i64 x.1 s, x.2)
theorem orQ {x y : Nat} (hx : x < 2 ^ 32) (hy : y < 2 ^ 32) : bits .or .i64 ((x : Nat) : Int) ((y : Nat) : Int) = ((x ||| y : Nat) : Int) :=
  (bits_nat .i64 32 (by decide) (fun n h0 h1 => by rw [IntKind.wrap_i64]; omega) x y hx hy).2
theorem wide_fits {xs : List ItemP} {l : List Int} {s : Int} (hs : 0 ≤ s ∧ s < 4294967296) (h : fitsA xs l = true) : fitsA (wideP s xs) l = true := by
  unfold fitsA at h ⊢
  obtain ⟨hr, hf⟩ := Bool.and_eq_true_iff.1 h
  obtain ⟨_, hl, hall⟩ := rightB_parts hr
  obtain ⟨t, rfl⟩ := Int.eq_ofNat_of_zero_le hs.1
  have ht : t < 2 ^ 32 := by have : (2 : Nat) ^ 32 = 4294967296 := by decide
                             omega
  have hx : ∀ x ∈ xs, ∃ a : Nat, x.1 = ((a : Nat) : Int) ∧ a < 2 ^ 32 ∧ bits .or .i64 x.1 ((t : Nat) : Int) = ((a ||| t : Nat) : Int) ∧ a ||| t < 2 ^ 32 := fun x hm => by
    obtain ⟨a, n, h1, h2, _, _, h5⟩ := rightZ_of (hall x hm).1
    obtain rfl : 32 = n := by omega
    exact ⟨a, h1, h5, by rw [h1]; exact orQ h5 ht, Nat.or_lt_two_pow h5 ht⟩
  have hr2 : rightB (wideP ((t : Nat) : Int) xs) 32 = true := rightB_of (by decide) (by unfold wideP; rw [List.length_map]; exact hl) fun y hy => by
    obtain ⟨x, hm, rfl⟩ := List.mem_map.1 hy
    obtain ⟨a, _, _, h3, h4⟩ := hx x hm
    simp only
    rw [h3]
    exact ⟨rightZ_32 (Nat.le_refl _) h4, (hall x hm).2⟩
  rw [hr2, Bool.true_and]
  rw [fitsB_iff (rightB_how hr2)]
  rw [fitsB_iff (rightB_how hr)] at hf
  refine fitsP_wider (by unfold wideP; rw [List.length_map]) (fun i x y h1 h2 => ?_) hf
  unfold wideP at h2
  rw [List.getElem?_map, h1] at h2
  obtain rfl : (bits .or .i64 x.1 ((t : Nat) : Int), x.2) = y := by simpa using h2
  refine ⟨rfl, fun c hc => ?_⟩
  obtain ⟨a, e1, e2, e3, e4⟩ := hx x (List.mem_of_getElem? h1)
  simp only
  rw [e3, hasZ_nat e4]
  rw [e1, hasZ_nat e2] at hc
  rw [Bool.and_eq_true] at hc ⊢
  exact ⟨hc.1, by rw [Nat.testBit_or, hc.2]; rfl⟩
/-- Where one has come to. -/
def WideI (s : Int) (st : Bool) (o : Option Addr) (k cap : Nat) (X : List ItemP) (w : World) (b : Nat) (j : Nat) (wr : World) : Prop :=
  ∃ (ov : Option Addr) (cv : Nat), wr.heap[w.heap.size]? = some (patO st o k cap) ∧ wr.heap[b]? = some (patO false ov j cv) ∧ wr.ownsRow (b + 1) 44 2 (.slice ov j cv) j (cellsI (wideP s (X.take j))) ∧ Below w.heap.size w wr
set_option maxRecDepth 100000 in
set_option maxHeartbeats 40000000 in
theorem wider_anyL (st : Bool) (xs : List ItemP) (o : Option Addr) (cap : Nat) (l : List Int) (lo : Option Addr) (lcap : Nat) (s : Int) (hxc : xs.length ≤ cap) (hlc : l.length ≤ lcap) (w : World) (aU aS : Addr) (hQ : GlobQ w aU aS) (hG : KGlob w) (hX : ItsInQ w o xs) (hL : NumsInQ w lo l ∧ (lo = none → lcap = 0) ∧ ∀ p, lo = some p → 0 < lcap → p.spot = none) :
    Calls Tryz.prog 8 #[patV st o xs.length cap, .slice lo l.length lcap, .int .i64 s] w fun e w' => e = .returned (.bool true) ∧ Below w.heap.size w w' := by
  obtain ⟨wa, hwa⟩ : ∃ wa, w.alloc (patO st o xs.length cap) = wa := ⟨_, rfl⟩
  have ba : Below w.heap.size w wa := by rw [← hwa]; exact (Below.refl _ _).alloc (Nat.le_refl _) _
  have ra : wa.heap[w.heap.size]? = some (patO st o xs.length cap) := by rw [← hwa]; exact heap_alloc_new _ _
  have HSH := Lib.hid (shownQ_any wa aU aS (hQ.below ba) (hG.below ba))
  have HCU := Lib.hid (fun W => cutP_any st o xs cap hxc W)
  have HFE := Lib.hid (fun W => fewL_any lo l lcap hlc W)
  obtain ⟨L, hLL⟩ : ∃ L, l.take 40 = L := ⟨_, rfl⟩
  obtain ⟨X, hXX⟩ : ∃ X, xs.take 12 = X := ⟨_, rfl⟩
  have h40 : L.length ≤ 40 := by rw [← hLL, List.length_take]; omega
  have h12 : X.length ≤ 12 := by rw [← hXX, List.length_take]; omega
  have HAX : Hid (∀ W, Below w.heap.size w W → AtI W o X) := Lib.hid fun W hb => by rw [← hXX]; exact (hX.1.below hb).take 12
  have HLT : Hid (∀ W, Below w.heap.size w W → NumsAt W lo L) := Lib.hid fun W hb => by
    rw [← hLL]
    refine (fun hn => ?_ : NumsAt W lo (l.take 40))
    obtain ⟨g, off, ho, hc⟩ := (hL.1.1.below hb) (by rw [List.length_take] at hn; omega)
    refine ⟨g, off, ho, fun j x hx => hc j x ?_⟩
    rw [List.getElem?_take] at hx
    split at hx
    · exact hx
    · cases hx
  rw [hLL] at HFE
  rw [hXX] at HCU
  have HFI : Hid (∀ (st' : Bool) (o' : Option Addr) (Y : List ItemP) (c' : Nat) W, Y.length ≤ 12 → Below w.heap.size w W → AtI W o' Y → Calls Tryz.prog 15 #[patV st' o' Y.length c', .slice lo L.length lcap] W fun e w' => e = .returned (.bool (fitsA Y L)) ∧ Below W.heap.size W w') := Lib.hid fun st' o' Y c' W hy hb ha =>
    Fits_anyQ st' o' lo Y L c' lcap (by omega) (by omega) W ha (HLT.out W hb)
  obtain ⟨n, hn⟩ : ∃ n, L.length = n := ⟨_, rfl⟩
  obtain ⟨m, hm⟩ : ∃ m, l.length = m := ⟨_, rfl⟩
  obtain ⟨k, hk⟩ : ∃ k, X.length = k := ⟨_, rfl⟩
  obtain ⟨q, hq⟩ : ∃ q, xs.length = q := ⟨_, rfl⟩
  have hkc : k ≤ cap := by rw [← hk, ← hXX, List.length_take]; omega
  have HK := Lib.hid hk
  rw [hn, hm] at HFE
  rw [hk, hq] at HCU
  rw [hn] at HFI
  rw [hk] at h12
  rw [hq] at ra hwa hxc ⊢
  rw [hm]
  have HBA := Lib.hid ba
  have HRA := Lib.hid ra
  have HWA := Lib.hid hwa
  clear hQ hG hX hL hLL hXX hn hm hk hq ba ra hwa hlc hxc HLT h40
  go_enter Tryz.func8, Tryz.ntmps8
  go_wp2_with fail
  rw [HWA.out]
  refine HSH.out.mono ?_
  rintro e w1 ⟨rfl, b1⟩
  have HB1 := Lib.hid (HBA.out.trans (b1.mono HBA.out.size))
  have HR1 := Lib.hid (row_below HRA.out b1)
  obtain ⟨p0, p1⟩ := pat_cells HR1.out
  clear b1
  go_wp2_with fail
  refine (HCU.out w1).mono ?_
  rintro e w2 ⟨rfl, b2⟩
  have B2 := HB1.out.trans (b2.mono HB1.out.size)
  have r2 := row_below HR1.out b2
  obtain ⟨t0, t1⟩ := pat_cells r2
  have f0 := frozen_of_row w2 w.heap.size 0 _ _ r2
  have f1 := frozen_of_row w2 w.heap.size 1 _ _ r2
  obtain ⟨r3, m3⟩ := two_set (.bool st) (.slice o k cap) r2
  obtain ⟨w3, hw3⟩ : ∃ w3, (w2.setCell ⟨w.heap.size, 0, none⟩ (.bool st)).setCell ⟨w.heap.size, 1, none⟩ (.slice o k cap) = w3 := ⟨_, rfl⟩
  rw [hw3] at r3 m3
  have HB3 := Lib.hid (Moves.below B2 B2.size m3 (fun k hk => by omega))
  have HR3 := Lib.hid r3
  have HW3 := Lib.hid hw3
  clear b2 B2 r2 r3 m3 hw3 p0 p1
  go_wp2_with fail
  rw [HW3.out]
  refine (HFE.out w3).mono ?_
  rintro e _ ⟨rfl, rfl⟩
  obtain ⟨w4, hw4⟩ : ∃ w4, w3.alloc (patO false none 0 0) = w4 := ⟨_, rfl⟩
  have b4 : Below w3.heap.size w3 w4 := by rw [← hw4]; exact (Below.refl _ _).alloc (Nat.le_refl _) _
  have HST : Hid (WideI s st o k cap X w w3.heap.size 0 w4) := Lib.hid ⟨none, 0, row_below HR3.out b4, by rw [← hw4]; exact heap_alloc_new _ _, World.ownsRow_nil _ _ _ _, HB3.out.trans (b4.mono HB3.out.size)⟩
  have HLT3 := Lib.hid (Array.getElem?_eq_some_iff.1 HR3.out).1
  have HW4 := Lib.hid hw4
  clear b4 hw4 t0 t1 f0 f1
  go_wp2_with fail
  rw [HW4.out]
  go_loopg [9] (k) (fun k' v9 wr => ∃ (j : Nat), v9 = .int .i64 (j : Nat) ∧ j ≤ k ∧ k - j = k' ∧ Hid (WideI s st o k cap X w w3.heap.size j wr))
  case atStart => exact ⟨0, rfl, Nat.zero_le _, rfl, HST⟩
  case round =>
    obtain ⟨j, rfl, hj, rfl, HI⟩ := hrel
    obtain ⟨ov, cv, r0, r1, hown, hb⟩ := HI.out
    have hj6 : j < 1000000 := by omega
    obtain ⟨p0, p1⟩ := pat_cells r0
    obtain ⟨q0, q1⟩ := pat_cells r1
    have hlt3 := HLT3.out
    have hltw := (Array.getElem?_eq_some_iff.1 r1).1
    rcases Nat.lt_or_ge j k with hlt | hge
    · obtain ⟨x, hx⟩ : ∃ x, X[j]? = some x := ⟨_, List.getElem?_eq_getElem (by rw [HK.out]; exact hlt)⟩
      obtain ⟨o', ho'⟩ : ∃ o', o = o' := ⟨_, rfl⟩
      obtain ⟨g, off, hoo, hc⟩ := (HAX.out wr hb) (by rw [HK.out]; omega)
      subst ho'
      rw [hoo] at p1
      have HOO := Lib.hid hoo
      obtain ⟨k0, k1⟩ := hc j x hx
      obtain ⟨y, hy⟩ : ∃ y, bits .or .i64 x.1 s = y := ⟨_, rfl⟩
      have hf1 := frozen_of_row wr w3.heap.size 1 _ _ r1
      obtain ⟨g6, c6, w6, hrun, own6, hgr, _⟩ := it_own (W := (wr.alloc (itO (y, x.2))).drew) (y, x.2) (World.ownsRow.drew (own_below hown ((Below.refl _ _).alloc (Nat.le_refl _) _))) (by omega) (by simp; omega) (heap_alloc_new wr _)
      have hstep : wideP s (X.take (j + 1)) = wideP s (X.take j) ++ [(y, x.2)] := by
        unfold wideP
        rw [List.take_add_one, hx, ← hy]
        simp
      have bw6 : Moves (fun k => w3.heap.size + 1 ≤ k) wr w6 := by
        refine Moves.trans (b := (wr.alloc (itO (y, x.2))).drew) (Moves.drew (Moves.of_below ((Below.refl _ _).alloc (Nat.le_refl _) _))) ?_
        exact Moves.mono (S := fun k => (Value.slice ov j cv).ownBlock = some k) ⟨hgr.os, hgr.tape, hgr.output, hgr.size, fun k hk hn => hgr.block k hk (fun e => hn e.symm)⟩ fun k hk => own_geR hown hk
      have u0 := row_keep r0 bw6 (by omega)
      have u1 := row_keep r1 bw6 (by omega)
      obtain ⟨z0, z1⟩ := pat_cells u1
      have hf6 := frozen_of_row w6 w3.heap.size 1 _ _ u1
      obtain ⟨w7, hw7⟩ : ∃ w7, w6.setCell ⟨w3.heap.size, 1, none⟩ (.slice (some ⟨g6, 0, none⟩) (j + 1) c6) = w7 := ⟨_, rfl⟩
      have m7 : Moves (fun k => k = w3.heap.size) w6 w7 := by rw [← hw7]; exact Moves.setCell rfl
      have v1 : w7.heap[w3.heap.size]? = some (patO false (some ⟨g6, 0, none⟩) (j + 1) c6) := by rw [← hw7, heap_setCell_same _ _ _ _ _ _ u1]; rfl
      have HNEW : Hid (WideI s st o k cap X w w3.heap.size (j + 1) w7) := by
        refine Lib.hid ⟨some ⟨g6, 0, none⟩, c6, row_keep u0 m7 (by omega), v1, ?_, ?_⟩
        · rw [hstep, cellsI_append]
          exact own_moves own6 m7 (fun k hk he => by omega)
        · exact Moves.below (Moves.below hb hb.size bw6 (fun k hk => by omega)) (Nat.le_trans hb.size bw6.size) m7 (fun k hk => by omega)
      have HW7 := Lib.hid hw7
      clear hoo hc hx u0 u1 bw6 own6 hgr hown r0 r1 hstep hw7 m7 v1 hb
      go_wp2_with fail
      go_region
      all_goals
        go_wp2
        rw [HW7.out]
        go_roundg (k - (j + 1))
        case measure => omega
        case rel => exact ⟨j + 1, by simp, by omega, rfl, HNEW⟩
    · obtain rfl : j = k := by omega
      rw [List.take_of_length_le (by rw [HK.out]; exact Nat.le_refl _)] at hown
      have hwl : (wideP s X).length = j := by unfold wideP; rw [List.length_map]; exact HK.out
      have HAW : Hid (AtI wr ov (wideP s X)) := Lib.hid (at_ownI (cap := cv) (base := w3.heap.size + 1) (by rw [hwl]; exact hown))
      have HB := Lib.hid hb
      have R0 := Lib.hid r0
      have R1 := Lib.hid r1
      have HWL := Lib.hid hwl
      clear r0 r1 hown hb hwl HST hltw
      by_cases hs1 : s < 0
      · clear HAW HWL
        go_wp2
        first | exact ⟨rfl, HB.out⟩ | (go_ret; exact ⟨rfl, HB.out⟩)
      by_cases hs2 : 4294967296 ≤ s
      · clear HAW HWL
        go_wp2
        first | exact ⟨rfl, HB.out⟩ | (go_ret; exact ⟨rfl, HB.out⟩)
      have hs1' : 0 ≤ s := by omega
      have hs2' : s < 4294967296 := by omega
      have HF1 := Lib.hid (HFI.out st o X cap wr (by rw [HK.out]; exact h12) HB.out (HAX.out wr HB.out))
      rw [HK.out] at HF1
      cases hf : fitsA X L with
      | false =>
        rw [hf] at HF1
        clear HAW HWL hf
        go_wp2_with fail
        refine HF1.out.mono ?_
        rintro e w8 ⟨rfl, b8⟩
        have HB8 := Lib.hid (HB.out.trans (b8.mono HB.out.size))
        clear b8
        go_wp2
        first | exact ⟨rfl, HB8.out⟩ | (go_ret; exact ⟨rfl, HB8.out⟩)
      | true =>
        have hf2 := wide_fits ⟨hs1', hs2'⟩ hf
        rw [hf] at HF1
        have HF2 : Hid (∀ W, Below wr.heap.size wr W → Calls Tryz.prog 15 #[patV false ov j cv, .slice lo n lcap] W fun e w' => e = .returned (.bool true) ∧ Below W.heap.size W w') := Lib.hid fun W hb => by
          have := HFI.out false ov (wideP s X) cv W (by rw [HWL.out]; exact h12) (HB.out.trans (hb.mono HB.out.size)) (HAW.out.below hb)
          rw [HWL.out, hf2] at this
          exact this
        clear HAW HWL hf hf2
        go_wp2_with fail
        refine HF1.out.mono ?_
        rintro e w8 ⟨rfl, b8⟩
        have HB8 := Lib.hid (HB.out.trans (b8.mono HB.out.size))
        have HG2 := Lib.hid (HF2.out w8 b8)
        obtain ⟨y0, y1⟩ := pat_cells (row_below R1.out b8)
        clear b8 p0 p1 q0 q1
        go_wp2_with fail
        refine HG2.out.mono ?_
        rintro e w9 ⟨rfl, b9⟩
        have HB9 := Lib.hid (HB8.out.trans (b9.mono HB8.out.size))
        clear b9
        go_wp2
        first | exact ⟨rfl, HB9.out⟩ | (go_ret; exact ⟨rfl, HB9.out⟩)
end Go.Proofs.YtcgljfmknggdoaaGreatDoor
