/- PatternJoins. -/
import Derived.Test.YtcgljfmknggdoaaGreatDoorBunA19
namespace Go.Proofs.YtcgljfmknggdoaaGreatDoor
open Go.RowKit Go.Shelf Go.Maps
attribute [local go_sem] Oper.semAt_some
attribute [local go_sem ↓] app_hide

/-- Do some of the first numbers fit the one, and the rest the other? -/
def partB (X Y : List ItemP) (L : List Int) (j : Nat) : Bool := (List.range j).any fun i => fitsA X (L.take i) && fitsA Y (L.drop i)
theorem partB_more (X Y : List ItemP) (L : List Int) (j : Nat) : partB X Y L (j + 1) = (partB X Y L j || (fitsA X (L.take j) && fitsA Y (L.drop j))) := by
  unfold partB
  rw [List.range_succ, List.any_append]
  simp
theorem fitsA_iff {xs : List ItemP} {l : List Int} : fitsA xs l = true ↔ rightB xs 32 = true ∧ fitsP xs l := by
  unfold fitsA
  rw [Bool.and_eq_true]
  constructor
  · rintro ⟨h1, h2⟩; exact ⟨h1, (fitsB_iff (rightB_how h1) l).1 h2⟩
  · rintro ⟨h1, h2⟩; exact ⟨h1, (fitsB_iff (rightB_how h1) l).2 h2⟩
theorem joins_all {X Y : List ItemP} (hx : X.length ≤ 5) (hy : Y.length ≤ 5) (L : List Int) : partB X Y L (L.length + 1) = fitsA (X ++ Y) L := by
  rw [Bool.eq_iff_iff, fitsA_iff]
  unfold partB
  rw [List.any_eq_true]
  constructor
  · rintro ⟨i, hi, h⟩
    rw [Bool.and_eq_true, fitsA_iff, fitsA_iff] at h
    obtain ⟨⟨h1, h2⟩, h3, h4⟩ := h
    obtain ⟨_, _, a1⟩ := rightB_parts h1
    obtain ⟨_, _, a2⟩ := rightB_parts h3
    refine ⟨rightB_of (by decide) (by rw [List.length_append]; omega) fun x hm => ?_, (fitsP_append X Y L).2 ⟨_, _, (List.take_append_drop i L).symm, h2, h4⟩⟩
    rcases List.mem_append.1 hm with hm | hm
    · exact a1 x hm
    · exact a2 x hm
  · rintro ⟨h1, h2⟩
    obtain ⟨_, _, a1⟩ := rightB_parts h1
    obtain ⟨a, b, rfl, h3, h4⟩ := (fitsP_append X Y L).1 h2
    refine ⟨a.length, List.mem_range.2 (by rw [List.length_append]; omega), ?_⟩
    rw [Bool.and_eq_true, fitsA_iff, fitsA_iff, List.take_left, List.drop_left]
    exact ⟨⟨rightB_of (by decide) (by omega) fun x hm => a1 x (List.mem_append_left _ hm), h3⟩, rightB_of (by decide) (by omega) fun x hm => a1 x (List.mem_append_right _ hm), h4⟩
theorem fits_none (L : List Int) : fitsA [] L = decide (L.length = 0) := by
  rw [Bool.eq_iff_iff, fitsA_iff, decide_eq_true_eq]
  constructor
  · rintro ⟨_, h⟩
    rw [show L = [] from h]; rfl
  · intro h
    exact ⟨by decide, List.eq_nil_of_length_eq_zero h⟩
/-- A list's cut, as the call makes it. -/
theorem num_take {W : World} {lo : Option Addr} {l : List Int} (h : NumsAt W lo l) (n : Nat) : NumsAt W lo (l.take n) := fun hn => by
  obtain ⟨g, off, ho, hc⟩ := h (by rw [List.length_take] at hn; omega)
  refine ⟨g, off, ho, fun j x hx => hc j x ?_⟩
  rw [List.getElem?_take] at hx
  split at hx
  · exact hx
  · cases hx
theorem keepJ {W w' w7 : World} {a b c d : Addr} {p q r s : Value} (h : W.cell? a = some p ∧ W.cell? b = some q ∧ W.cell? c = some r ∧ W.cell? d = some s ∧ Below w7.heap.size w7 W) (hb : Below W.heap.size W w') : w'.cell? a = some p ∧ w'.cell? b = some q ∧ w'.cell? c = some r ∧ w'.cell? d = some s ∧ Below w7.heap.size w7 w' :=
  ⟨cell_keepQ hb h.1, cell_keepQ hb h.2.1, cell_keepQ hb h.2.2.1, cell_keepQ hb h.2.2.2.1, h.2.2.2.2.trans (hb.mono h.2.2.2.2.size)⟩
set_option maxRecDepth 100000 in
set_option maxHeartbeats 40000000 in
theorem joins_anyL (st : Bool) (xs : List ItemP) (o : Option Addr) (cap : Nat) (st2 : Bool) (ys : List ItemP) (o2 : Option Addr) (cap2 : Nat) (l : List Int) (lo : Option Addr) (lcap : Nat) (hxc : xs.length ≤ cap) (hyc : ys.length ≤ cap2) (hlc : l.length ≤ lcap) (w : World) (aU aS : Addr) (hQ : GlobQ w aU aS) (hG : KGlob w) (hX : ItsInQ w o xs) (hY : ItsInQ w o2 ys) (hL : NumsInQ w lo l ∧ (lo = none → lcap = 0) ∧ ∀ p, lo = some p → 0 < lcap → p.spot = none) :
    Calls Tryz.prog 7 #[patV st o xs.length cap, patV st2 o2 ys.length cap2, .slice lo l.length lcap] w fun e w' => e = .returned (.bool true) ∧ Below w.heap.size w w' := by
  obtain ⟨wb, hwb⟩ : ∃ wb, w.alloc (patO st o xs.length cap) = wb := ⟨_, rfl⟩
  have bb : Below w.heap.size w wb := by rw [← hwb]; exact (Below.refl _ _).alloc (Nat.le_refl _) _
  have zb : wb.heap.size = w.heap.size + 1 := by rw [← hwb]; simp
  obtain ⟨wa, hwa⟩ : ∃ wa, wb.alloc (patO st2 o2 ys.length cap2) = wa := ⟨_, rfl⟩
  have ba' : Below wb.heap.size wb wa := by rw [← hwa]; exact (Below.refl _ _).alloc (Nat.le_refl _) _
  have ba : Below w.heap.size w wa := bb.trans (ba'.mono bb.size)
  have ra : wa.heap[w.heap.size]? = some (patO st o xs.length cap) := row_below (by rw [← hwb]; exact heap_alloc_new _ _) ba'
  have ra2 : wa.heap[w.heap.size + 1]? = some (patO st2 o2 ys.length cap2) := by rw [← hwa, ← zb]; exact heap_alloc_new _ _
  have HSH := Lib.hid (shownQ_any wa aU aS (hQ.below ba) (hG.below ba))
  obtain ⟨L, hLL⟩ : ∃ L, l.take 20 = L := ⟨_, rfl⟩
  obtain ⟨X, hXX⟩ : ∃ X, xs.take 5 = X := ⟨_, rfl⟩
  obtain ⟨Y, hYY⟩ : ∃ Y, ys.take 5 = Y := ⟨_, rfl⟩
  have hln : L.length = min l.length 20 := by rw [← hLL, List.length_take]; omega
  have hxn : X.length = min xs.length 5 := by rw [← hXX, List.length_take]; omega
  have hyn : Y.length = min ys.length 5 := by rw [← hYY, List.length_take]; omega
  have HAX : Hid (∀ W, Below w.heap.size w W → AtI W o X) := Lib.hid fun W hb => by rw [← hXX]; exact (hX.1.below hb).take 5
  have HAY : Hid (∀ W, Below w.heap.size w W → AtI W o2 Y) := Lib.hid fun W hb => by rw [← hYY]; exact (hY.1.below hb).take 5
  have HLT : Hid (∀ W, Below w.heap.size w W → NumsAt W lo L) := Lib.hid fun W hb => by
    rw [← hLL]
    exact num_take (hL.1.1.below hb) 20
  have HSP := Lib.hid hL.2
  have HFT : Hid (∀ (st' : Bool) (o' : Option Addr) (Z : List ItemP) (c' j : Nat) W, Z.length ≤ 12 → j ≤ L.length → Below w.heap.size w W → AtI W o' Z → Calls Tryz.prog 15 #[patV st' o' Z.length c', .slice lo j lcap] W fun e w' => e = .returned (.bool (fitsA Z (L.take j))) ∧ Below W.heap.size W w') := Lib.hid fun st' o' Z c' j W hz hj hb ha => by
    have := Fits_anyQ st' o' lo Z (L.take j) c' lcap (by omega) (by rw [List.length_take]; omega) W ha (num_take (HLT.out W hb) j)
    rw [List.length_take, show min j L.length = j from by omega] at this
    exact this
  have HFD : Hid (∀ (st' : Bool) (o' : Option Addr) (Z : List ItemP) (c' j : Nat) W, Z.length ≤ 12 → j ≤ L.length → Below w.heap.size w W → AtI W o' Z → Calls Tryz.prog 15 #[patV st' o' Z.length c', .slice (dropO lo lcap j) (L.length - j) (lcap - j)] W fun e w' => e = .returned (.bool (fitsA Z (L.drop j))) ∧ Below W.heap.size W w') := Lib.hid fun st' o' Z c' j W hz hj hb ha => by
    have := Fits_anyQ st' o' (dropO lo lcap j) Z (L.drop j) c' (lcap - j) (by omega) (by rw [List.length_drop]; omega) W ha ((HLT.out W hb).dropQ (by omega) j)
    rw [List.length_drop] at this
    exact this
  have HALL := Lib.hid (joins_all (X := X) (Y := Y) (by omega) (by omega) L)
  have HNIL := Lib.hid (fits_none L)
  have HN0 : Hid (∀ W, Below w.heap.size w W → Calls Tryz.prog 15 #[patV false none 0 0, .slice none 0 0] W fun e w' => e = .returned (.bool true) ∧ Below W.heap.size W w') := Lib.hid fun W hb =>
    Fits_anyQ false none none [] [] 0 0 (by simp) (by simp) W (fun h => by simp at h) (fun h => by simp at h)
  have hxl : X.length ≤ 5 := by omega
  have hyl : Y.length ≤ 5 := by omega
  have hll : L.length ≤ 20 := by omega
  have hlcap : L.length ≤ lcap := by omega
  obtain ⟨n, hn⟩ : ∃ n, L.length = n := ⟨_, rfl⟩
  obtain ⟨m, hm⟩ : ∃ m, l.length = m := ⟨_, rfl⟩
  obtain ⟨k, hk⟩ : ∃ k, X.length = k := ⟨_, rfl⟩
  obtain ⟨q, hq⟩ : ∃ q, xs.length = q := ⟨_, rfl⟩
  obtain ⟨k2, hk2⟩ : ∃ k2, Y.length = k2 := ⟨_, rfl⟩
  obtain ⟨q2, hq2⟩ : ∃ q2, ys.length = q2 := ⟨_, rfl⟩
  rw [hn] at hln HFT HFD HALL HNIL hll hlcap
  rw [hm] at hln
  rw [hk] at hxn hxl
  rw [hq] at hxn ra hwb hxc
  rw [hk2] at hyn hyl
  rw [hq2] at hyn ra2 hwa hyc
  rw [hq, hq2, hm]
  have HK := Lib.hid hk
  have HK2 := Lib.hid hk2
  have HN := Lib.hid hn
  have i1 : min ((q : Nat) : Int) 5 = ((k : Nat) : Int) := by omega
  have i2 : min ((q2 : Nat) : Int) 5 = ((k2 : Nat) : Int) := by omega
  have i3 : min ((m : Nat) : Int) 20 = ((n : Nat) : Int) := by omega
  have g1 : k ≤ cap := by omega
  have g2 : k2 ≤ cap2 := by omega
  have HBA := Lib.hid ba
  have HRA := Lib.hid ra
  have HRA2 := Lib.hid ra2
  have HWA := Lib.hid hwa
  have HWB := Lib.hid hwb
  clear hQ hG hX hY hL hLL hXX hYY hn hm hk hq hk2 hq2 bb zb ba' ba ra ra2 hwa hwb hlc hxc hyc hln hxn hyn HLT
  go_enter Tryz.func7, Tryz.ntmps7
  go_wp2_with fail
  rw [HWB.out, HWA.out]
  refine HSH.out.mono ?_
  rintro e w1 ⟨rfl, b1⟩
  have B1 := HBA.out.trans (b1.mono HBA.out.size)
  have r1 := row_below HRA.out b1
  have s1 := row_below HRA2.out b1
  obtain ⟨p0, p1⟩ := pat_cells r1
  obtain ⟨q0, q1⟩ := pat_cells s1
  have f0 := frozen_of_row w1 w.heap.size 0 _ _ r1
  have f1 := frozen_of_row w1 w.heap.size 1 _ _ r1
  have e0 := frozen_of_row w1 (w.heap.size + 1) 0 _ _ s1
  have e1 := frozen_of_row w1 (w.heap.size + 1) 1 _ _ s1
  obtain ⟨r2, m2⟩ := two_set (.bool false) (.slice o k cap) r1
  obtain ⟨w2, hw2⟩ : ∃ w2, (w1.setCell ⟨w.heap.size, 0, none⟩ (.bool false)).setCell ⟨w.heap.size, 1, none⟩ (.slice o k cap) = w2 := ⟨_, rfl⟩
  rw [hw2] at r2 m2
  have s2 := row_keep s1 m2 (by omega)
  obtain ⟨s3, m3⟩ := two_set (.bool false) (.slice o2 k2 cap2) s2
  obtain ⟨w3, hw3⟩ : ∃ w3, (w2.setCell ⟨w.heap.size + 1, 0, none⟩ (.bool false)).setCell ⟨w.heap.size + 1, 1, none⟩ (.slice o2 k2 cap2) = w3 := ⟨_, rfl⟩
  rw [hw3] at s3 m3
  have r3 := row_keep r2 m3 (by omega)
  have B2 := Moves.below B1 B1.size m2 (fun k hk => by omega)
  have B3 := Moves.below B2 B2.size m3 (fun k hk => by omega)
  have HB3 := Lib.hid B3
  have HR3 := Lib.hid r3
  have HS3 := Lib.hid s3
  have HW2 := Lib.hid hw2
  have HW3 := Lib.hid hw3
  clear b1 B1 r1 s1 r2 m2 hw2 s2 s3 m3 hw3 r3 B2 B3
  go_wp2_with fail
  rw [HW2.out, HW3.out]
  obtain ⟨o6, c6, w6, hrun1, own6, hg6, _⟩ := its_own (W := w3.drew) X o cap (HAX.out w3 HB3.out) (World.ownsRow_nil w3.drew w3.heap.size 44 2) (by rw [HK.out]; omega) (Nat.le_refl _)
  have b6 : Below w3.heap.size w3 w6 := ⟨hg6.os, hg6.tape, hg6.output, hg6.size, fun i hi => hg6.block i hi (by simp [Value.ownBlock])⟩
  obtain ⟨o7, c7, w7, hrun2, own7, hg7, _⟩ := its_own (W := w6) Y o2 cap2 ((HAY.out w3 HB3.out).below b6) own6 (by rw [HK.out, HK2.out]; omega) b6.size
  rw [HK.out, Nat.zero_add] at hrun1 hrun2 own7
  rw [HK2.out] at hrun2 own7
  have m7 : Moves (fun g => w3.heap.size ≤ g) w6 w7 := Moves.mono (S := fun g => (Value.slice o6 (0 + X.length) c6).ownBlock = some g) ⟨hg7.os, hg7.tape, hg7.output, hg7.size, fun g hg hn => hg7.block g hg (fun e => hn e.symm)⟩ fun g hg => own_geR own6 hg
  have B7 : Below w3.heap.size w3 w7 := Moves.below b6 b6.size m7 (fun g hg => hg)
  have HB7 := Lib.hid (HB3.out.trans (B7.mono HB3.out.size))
  have R7 := Lib.hid (row_below HR3.out B7)
  have S7 := Lib.hid (row_below HS3.out B7)
  have AW7 : Hid (AtI w7 o7 (X ++ Y)) := Lib.hid (at_ownI (cap := c7) (base := w3.heap.size) (by rw [cellsI_append, List.length_append, HK.out, HK2.out]; exact own7))
  obtain ⟨p0, p1⟩ := pat_cells HR3.out
  obtain ⟨q0, q1⟩ := pat_cells HS3.out
  obtain ⟨u0, u1⟩ := pat_cells (row_below HS3.out b6)
  clear own6 hg6 own7 hg7 m7 b6 B7 f0 f1 e0 e1
  go_wp2_with fail
  go_region
  all_goals
    clear hrun1 hrun2 p0 p1 q0 q1 u0 u1
    go_wp2_with fail
    go_loopg [9, 10] (n + 1) (fun k' v9 v10 wr => ∃ (j : Nat), v9 = .bool (partB X Y L j) ∧ v10 = .int .i64 (j : Nat) ∧ j ≤ n + 1 ∧ n + 1 - j = k' ∧ Hid (Below w7.heap.size w7 wr))
    case atStart => exact ⟨0, rfl, rfl, Nat.zero_le _, rfl, Lib.hid (Below.refl _ _)⟩
    case round =>
      obtain ⟨j, rfl, rfl, hj, rfl, HB⟩ := hrel
      have hj6 : j < 1000000 := by omega
      have S8 := S7
      have HBW := Lib.hid (HB7.out.trans (HB.out.mono HB7.out.size))
      obtain ⟨p0, p1⟩ := pat_cells (row_below R7.out HB.out)
      obtain ⟨q0, q1⟩ := pat_cells (row_below S7.out HB.out)
      rcases Nat.lt_or_ge n j with hge | hle
      · obtain rfl : j = n + 1 := by omega
        rw [HALL.out]
        have HF1 := Lib.hid (HFT.out false o7 (X ++ Y) c7 n wr (by rw [List.length_append, HK.out, HK2.out]; omega) (Nat.le_refl _) HBW.out (AW7.out.below HB.out))
        rw [List.length_append, HK.out, HK2.out, List.take_of_length_le (by rw [HN.out]; exact Nat.le_refl _)] at HF1
        have HF3 : Hid (∀ W, Below w.heap.size w W → Calls Tryz.prog 15 #[patV false none 0 0, .slice lo n lcap] W fun e w' => e = .returned (.bool (decide (n = 0))) ∧ Below W.heap.size W w') := Lib.hid fun W hb => by
          have := HFT.out false none [] 0 n W (by simp) (Nat.le_refl _) hb (fun h => by simp at h)
          rw [List.take_of_length_le (by rw [HN.out]; exact Nat.le_refl _), HNIL.out] at this
          exact this
        obtain ⟨b, hb⟩ : ∃ b, fitsA (X ++ Y) L = b := ⟨_, rfl⟩
        rw [hb] at HF1 ⊢
        have hl1 : ¬ n + 1 ≤ n := by omega
        have hl2 : ¬ ((n + 1 : Nat) : Int) ≤ ((n : Nat) : Int) := by omega
        have hl3 : ¬ ((n : Nat) : Int) + 1 ≤ ((n : Nat) : Int) := by omega
        clear hb
        by_cases h0 : n = 0
        · subst h0
          cases b <;>
          · go_wp2_with fail
            refine HF1.out.mono ?_
            rintro e w8 ⟨rfl, b8⟩
            have HB8 := Lib.hid (HBW.out.trans (b8.mono HBW.out.size))
            have HG2 := Lib.hid (HN0.out w8 HB8.out)
            clear b8
            go_wp2_with fail
            refine HG2.out.mono ?_
            rintro e w9 ⟨rfl, b9⟩
            have HB9 := Lib.hid (HB8.out.trans (b9.mono HB8.out.size))
            clear b9
            go_wp2
            first | exact ⟨rfl, HB9.out⟩ | (go_ret; exact ⟨rfl, HB9.out⟩)
        · rw [decide_eq_false h0] at HF3
          have h1 : (((n : Nat) : Int) == 0) = false := by rw [beq_eq_false_iff_ne]; omega
          cases b <;>
          · go_wp2_with fail
            refine HF1.out.mono ?_
            rintro e w8 ⟨rfl, b8⟩
            have HB8 := Lib.hid (HBW.out.trans (b8.mono HBW.out.size))
            have HG2 := Lib.hid (HN0.out w8 HB8.out)
            clear b8
            go_wp2_with fail
            refine HG2.out.mono ?_
            rintro e w9 ⟨rfl, b9⟩
            have HB9 := Lib.hid (HB8.out.trans (b9.mono HB8.out.size))
            have HG3 := Lib.hid (HF3.out w9 HB9.out)
            clear b9
            go_wp2_with fail
            refine HG3.out.mono ?_
            rintro e w10 ⟨rfl, b10⟩
            have HB10 := Lib.hid (HB9.out.trans (b10.mono HB9.out.size))
            clear b10
            go_wp2
            first | exact ⟨rfl, HB10.out⟩ | (go_ret; exact ⟨rfl, HB10.out⟩)
      · have hjc : j ≤ lcap := by omega
        cases hv : partB X Y L j with
        | true =>
          have HV : Hid (partB X Y L (j + 1) = true) := Lib.hid (by rw [partB_more, hv]; rfl)
          clear hv
          go_wp2_with fail
          go_region
          all_goals
            go_wp2
            go_roundg (n + 1 - (j + 1))
            case measure => omega
            case rel => exact ⟨j + 1, by rw [HV.out], by simp, by omega, rfl, Lib.hid HB.out.drew⟩
        | false =>
          have HD : wr.drew.cell? ⟨w.heap.size, 0, none⟩ = some (.bool false) ∧ wr.drew.cell? ⟨w.heap.size, 1, none⟩ = some (.slice o k cap) ∧ wr.drew.cell? ⟨w.heap.size + 1, 0, none⟩ = some (.bool false) ∧ wr.drew.cell? ⟨w.heap.size + 1, 1, none⟩ = some (.slice o2 k2 cap2) ∧ Below w7.heap.size w7 wr.drew := ⟨p0, p1, q0, q1, HB.out.drew⟩
          have HC1 : Hid (∀ W, W.cell? ⟨w.heap.size, 0, none⟩ = some (.bool false) ∧ W.cell? ⟨w.heap.size, 1, none⟩ = some (.slice o k cap) ∧ W.cell? ⟨w.heap.size + 1, 0, none⟩ = some (.bool false) ∧ W.cell? ⟨w.heap.size + 1, 1, none⟩ = some (.slice o2 k2 cap2) ∧ Below w7.heap.size w7 W → Calls Tryz.prog 15 #[patV false o k cap, .slice lo j lcap] W fun e w' => e = .returned (.bool (fitsA X (L.take j))) ∧ w'.cell? ⟨w.heap.size, 0, none⟩ = some (.bool false) ∧ w'.cell? ⟨w.heap.size, 1, none⟩ = some (.slice o k cap) ∧ w'.cell? ⟨w.heap.size + 1, 0, none⟩ = some (.bool false) ∧ w'.cell? ⟨w.heap.size + 1, 1, none⟩ = some (.slice o2 k2 cap2) ∧ Below w7.heap.size w7 w') := Lib.hid fun W h => by
            have hw := HB7.out.trans (h.2.2.2.2.mono HB7.out.size)
            have := HFT.out false o X cap j W (by rw [HK.out]; omega) hle hw (HAX.out W hw)
            rw [HK.out] at this
            exact this.mono fun e w' g => ⟨g.1, keepJ h g.2⟩
          have HC2 : Hid (∀ W, W.cell? ⟨w.heap.size, 0, none⟩ = some (.bool false) ∧ W.cell? ⟨w.heap.size, 1, none⟩ = some (.slice o k cap) ∧ W.cell? ⟨w.heap.size + 1, 0, none⟩ = some (.bool false) ∧ W.cell? ⟨w.heap.size + 1, 1, none⟩ = some (.slice o2 k2 cap2) ∧ Below w7.heap.size w7 W → Calls Tryz.prog 15 #[patV false o2 k2 cap2, .slice (dropO lo lcap j) (n - j) (lcap - j)] W fun e w' => e = .returned (.bool (fitsA Y (L.drop j))) ∧ w'.cell? ⟨w.heap.size, 0, none⟩ = some (.bool false) ∧ w'.cell? ⟨w.heap.size, 1, none⟩ = some (.slice o k cap) ∧ w'.cell? ⟨w.heap.size + 1, 0, none⟩ = some (.bool false) ∧ w'.cell? ⟨w.heap.size + 1, 1, none⟩ = some (.slice o2 k2 cap2) ∧ Below w7.heap.size w7 w') := Lib.hid fun W h => by
            have hw := HB7.out.trans (h.2.2.2.2.mono HB7.out.size)
            have := HFD.out false o2 Y cap2 j W (by rw [HK2.out]; omega) hle hw (HAY.out W hw)
            rw [HK2.out] at this
            exact this.mono fun e w' g => ⟨g.1, keepJ h g.2⟩
          cases lo with
          | none =>
            have hc0 := HSP.out.1 rfl
            subst hc0
            obtain rfl : j = 0 := by omega
            obtain rfl : n = 0 := by omega
            replace HC2 : Hid (∀ W, W.cell? ⟨w.heap.size, 0, none⟩ = some (.bool false) ∧ W.cell? ⟨w.heap.size, 1, none⟩ = some (.slice o k cap) ∧ W.cell? ⟨w.heap.size + 1, 0, none⟩ = some (.bool false) ∧ W.cell? ⟨w.heap.size + 1, 1, none⟩ = some (.slice o2 k2 cap2) ∧ Below w7.heap.size w7 W → Calls Tryz.prog 15 #[patV false o2 k2 cap2, .slice none 0 0] W fun e w' => e = .returned (.bool (fitsA Y (L.drop 0))) ∧ w'.cell? ⟨w.heap.size, 0, none⟩ = some (.bool false) ∧ w'.cell? ⟨w.heap.size, 1, none⟩ = some (.slice o k cap) ∧ w'.cell? ⟨w.heap.size + 1, 0, none⟩ = some (.bool false) ∧ w'.cell? ⟨w.heap.size + 1, 1, none⟩ = some (.slice o2 k2 cap2) ∧ Below w7.heap.size w7 w') := HC2
            cases hb1 : fitsA X (L.take 0) with
            | false =>
              rw [hb1] at HC1
              have HV : Hid (partB X Y L (0 + 1) = false) := Lib.hid (by rw [partB_more, hv, hb1]; rfl)
              clear hb1 hv HC2
              go_wp2_with fail
              refine wp_region_any (by kernel_rfl) ?_
              try (change wpAny _ _ _ _ _ _ _ (World.drew _))
              refine wpAny_take (i := 0) (v := ?_) rfl (by kernel_rfl) (by kernel_rfl) (by kernel_rfl) (fun _ _ _ h => h) (Or.inl ⟨by kernel_rfl, ?_⟩) ?_
              rotate_left 1
              · (intro w; first | (go_simp; done) | (go_simp; with_reducible rfl))
              change wpAny _ _ _ _ _ _ (Act.put _ (some 46) _) _
              refine wpAny_take (i := 1) (v := ?_) rfl (by kernel_rfl) (by kernel_rfl) (by kernel_rfl) (fun _ _ _ h => h) (Or.inl ⟨by kernel_rfl, ?_⟩) ?_
              rotate_left 1
              · (intro w; first | (go_simp; done) | (go_simp; with_reducible rfl))
              change wpAny _ _ _ _ _ _ (Act.put _ (some 47) _) _
              refine wpAny_take (i := 3) (v := ?_) rfl (by kernel_rfl) (by kernel_rfl) (by kernel_rfl) (fun _ _ _ h => h) (Or.inl ⟨by kernel_rfl, ?_⟩) ?_
              rotate_left 1
              · (intro w; first | (go_simp; done) | (go_simp; with_reducible rfl))
              change wpAny _ _ _ _ _ _ (Act.put _ (some 49) _) _
              refine wpAny_take (i := 4) (v := ?_) rfl (by kernel_rfl) (by kernel_rfl) (by kernel_rfl) (fun _ _ _ h => h) (Or.inl ⟨by kernel_rfl, ?_⟩) ?_
              rotate_left 1
              · (intro w; first | (go_simp; done) | (go_simp; with_reducible rfl))
              change wpAny _ _ _ _ _ _ (Act.put _ (some 50) _) _
              refine wpAny_take (i := 5) (v := ?_) rfl (by kernel_rfl) (by kernel_rfl) (by kernel_rfl) (fun _ _ _ h => h) (Or.inl ⟨by kernel_rfl, ?_⟩) ?_
              rotate_left 1
              · (intro w; first | (go_simp; done) | (go_simp; with_reducible rfl))
              change wpAny _ _ _ _ _ _ (Act.put _ (some 51) _) _
              refine wpAny_ready (rs := [2]) (by kernel_rfl) (by simp) ?_
              refine AllReady.cons rfl (fun K hK => ?_) AllReady.nil
              go_simp
              refine hK _ _ ?_
              clear hK K
              refine wpAny_ready (rs := [6]) (by kernel_rfl) (by simp) ?_
              refine AllReady.cons rfl (fun K hK => ?_) AllReady.nil
              go_simp
              go_wp2_with (refine (HC1.out _ HD).mono ?_; rintro e w5 ⟨rfl, hg⟩)
              refine wpAny_take (i := 7) (v := ?_) rfl (by kernel_rfl) (by kernel_rfl) (by kernel_rfl) (fun _ _ _ h => h) (Or.inl ⟨by kernel_rfl, ?_⟩) ?_
              rotate_left 1
              · (intro w; first | (go_simp; done) | (go_simp; with_reducible rfl))
              change wpAny _ _ _ _ _ _ (Act.put _ (some 53) _) _
              refine wpAny_take (i := 8) (v := undef) rfl (by kernel_rfl) (by kernel_rfl) (by kernel_rfl) (fun _ _ _ h => h) (Or.inr ⟨by kernel_rfl, rfl⟩) ?_
              change wpAny _ _ _ _ _ _ (Act.put _ (some 54) _) _
              refine wpAny_take (i := 9) (v := undef) rfl (by kernel_rfl) (by kernel_rfl) (by kernel_rfl) (fun _ _ _ h => h) (Or.inr ⟨by kernel_rfl, rfl⟩) ?_
              change wpAny _ _ _ _ _ _ (Act.put _ (some 55) _) _
              refine wpAny_take (i := 10) (v := undef) rfl (by kernel_rfl) (by kernel_rfl) (by kernel_rfl) (fun _ _ _ h => h) (Or.inr ⟨by kernel_rfl, rfl⟩) ?_
              change wpAny _ _ _ _ _ _ (Act.put _ (some 56) _) _
              refine wpAny_take (i := 11) (v := undef) rfl (by kernel_rfl) (by kernel_rfl) (by kernel_rfl) (fun _ _ _ h => h) (Or.inr ⟨by kernel_rfl, rfl⟩) ?_
              change wpAny _ _ _ _ _ _ (Act.put _ (some 57) _) _
              refine wpAny_take (i := 12) (v := undef) rfl (by kernel_rfl) (by kernel_rfl) (by kernel_rfl) (fun _ _ _ h => h) (Or.inr ⟨by kernel_rfl, rfl⟩) ?_
              change wpAny _ _ _ _ _ _ (Act.put _ (some 58) _) _
              refine wpAny_take (i := 13) (v := ?_) rfl (by kernel_rfl) (by kernel_rfl) (by kernel_rfl) (fun _ _ _ h => h) (Or.inl ⟨by kernel_rfl, ?_⟩) ?_
              rotate_left 1
              · (intro w; first | (go_simp; done) | (go_simp; with_reducible rfl))
              change wpAny _ _ _ _ _ _ (Act.put _ (some 59) _) _
              refine wpAny_take (i := 14) (v := ?_) rfl (by kernel_rfl) (by kernel_rfl) (by kernel_rfl) (fun _ _ _ h => h) (Or.inl ⟨by kernel_rfl, ?_⟩) ?_
              rotate_left 1
              · (intro w; first | (go_simp; done) | (go_simp; with_reducible rfl))
              change wpAny _ _ _ _ _ _ (Act.put _ (some 60) _) _
              refine wpAny_take (i := 15) (v := ?_) rfl (by kernel_rfl) (by kernel_rfl) (by kernel_rfl) (fun _ _ _ h => h) (Or.inl ⟨by kernel_rfl, ?_⟩) ?_
              rotate_left 1
              · (intro w; first | (go_simp; done) | (go_simp; with_reducible rfl))
              change wpAny _ _ _ _ _ _ (Act.put _ (some 9) _) _
              refine wpAny_done (by kernel_rfl) ?_ _
              go_simp
              have HG := Lib.hid hg.2.2.2.2
              clear hg HD HC1
              go_wp2
              go_roundg (0 + 1 - (0 + 1))
              case measure => omega
              case rel => exact ⟨0 + 1, by rw [HV.out], by simp, by omega, rfl, HG⟩
            | true =>
              rw [hb1] at HC1
              obtain ⟨b2, hb2⟩ : ∃ b2, fitsA Y (L.drop 0) = b2 := ⟨_, rfl⟩
              have HV : Hid (partB X Y L (0 + 1) = b2) := Lib.hid (by rw [partB_more, hv, hb1, hb2]; rfl)
              rw [hb2] at HC2
              clear hb1 hv hb2
              go_wp2_with fail
              refine wp_region_any (by kernel_rfl) ?_
              try (change wpAny _ _ _ _ _ _ _ (World.drew _))
              refine wpAny_take (i := 0) (v := ?_) rfl (by kernel_rfl) (by kernel_rfl) (by kernel_rfl) (fun _ _ _ h => h) (Or.inl ⟨by kernel_rfl, ?_⟩) ?_
              rotate_left 1
              · (intro w; first | (go_simp; done) | (go_simp; with_reducible rfl))
              change wpAny _ _ _ _ _ _ (Act.put _ (some 46) _) _
              refine wpAny_take (i := 1) (v := ?_) rfl (by kernel_rfl) (by kernel_rfl) (by kernel_rfl) (fun _ _ _ h => h) (Or.inl ⟨by kernel_rfl, ?_⟩) ?_
              rotate_left 1
              · (intro w; first | (go_simp; done) | (go_simp; with_reducible rfl))
              change wpAny _ _ _ _ _ _ (Act.put _ (some 47) _) _
              refine wpAny_take (i := 3) (v := ?_) rfl (by kernel_rfl) (by kernel_rfl) (by kernel_rfl) (fun _ _ _ h => h) (Or.inl ⟨by kernel_rfl, ?_⟩) ?_
              rotate_left 1
              · (intro w; first | (go_simp; done) | (go_simp; with_reducible rfl))
              change wpAny _ _ _ _ _ _ (Act.put _ (some 49) _) _
              refine wpAny_take (i := 4) (v := ?_) rfl (by kernel_rfl) (by kernel_rfl) (by kernel_rfl) (fun _ _ _ h => h) (Or.inl ⟨by kernel_rfl, ?_⟩) ?_
              rotate_left 1
              · (intro w; first | (go_simp; done) | (go_simp; with_reducible rfl))
              change wpAny _ _ _ _ _ _ (Act.put _ (some 50) _) _
              refine wpAny_take (i := 5) (v := ?_) rfl (by kernel_rfl) (by kernel_rfl) (by kernel_rfl) (fun _ _ _ h => h) (Or.inl ⟨by kernel_rfl, ?_⟩) ?_
              rotate_left 1
              · (intro w; first | (go_simp; done) | (go_simp; with_reducible rfl))
              change wpAny _ _ _ _ _ _ (Act.put _ (some 51) _) _
              refine wpAny_ready (rs := [2]) (by kernel_rfl) (by simp) ?_
              refine AllReady.cons rfl (fun K hK => ?_) AllReady.nil
              go_simp
              refine hK _ _ ?_
              clear hK K
              refine wpAny_ready (rs := [6]) (by kernel_rfl) (by simp) ?_
              refine AllReady.cons rfl (fun K hK => ?_) AllReady.nil
              go_simp
              go_wp2_with (refine (HC1.out _ HD).mono ?_; rintro e w5 ⟨rfl, hg⟩; obtain ⟨x0, x1, y0, y1, z0⟩ := hg; have hg5 := Lib.hid (show w5.cell? ⟨w.heap.size, 0, none⟩ = some (.bool false) ∧ w5.cell? ⟨w.heap.size, 1, none⟩ = some (.slice o k cap) ∧ w5.cell? ⟨w.heap.size + 1, 0, none⟩ = some (.bool false) ∧ w5.cell? ⟨w.heap.size + 1, 1, none⟩ = some (.slice o2 k2 cap2) ∧ Below w7.heap.size w7 w5 from ⟨x0, x1, y0, y1, z0⟩))
              refine wpAny_take (i := 7) (v := ?_) rfl (by kernel_rfl) (by kernel_rfl) (by kernel_rfl) (fun _ _ _ h => h) (Or.inl ⟨by kernel_rfl, ?_⟩) ?_
              rotate_left 1
              · (intro w; first | (go_simp; done) | (go_simp; with_reducible rfl))
              change wpAny _ _ _ _ _ _ (Act.put _ (some 53) _) _
              refine wpAny_take (i := 9) (v := ?_) rfl (by kernel_rfl) (by kernel_rfl) (by kernel_rfl) (fun _ _ _ h => h) (Or.inl ⟨by kernel_rfl, ?_⟩) ?_
              rotate_left 1
              · (intro w; first | (go_simp; done) | (go_simp; with_reducible rfl))
              change wpAny _ _ _ _ _ _ (Act.put _ (some 55) _) _
              refine wpAny_take (i := 10) (v := ?_) rfl (by kernel_rfl) (by kernel_rfl) (by kernel_rfl) (fun _ _ _ h => h) (Or.inl ⟨by kernel_rfl, ?_⟩) ?_
              rotate_left 1
              · (intro w; first | (go_simp; done) | (go_simp; with_reducible rfl))
              change wpAny _ _ _ _ _ _ (Act.put _ (some 56) _) _
              refine wpAny_take (i := 11) (v := ?_) rfl (by kernel_rfl) (by kernel_rfl) (by kernel_rfl) (fun _ _ _ h => h) (Or.inl ⟨by kernel_rfl, ?_⟩) ?_
              rotate_left 1
              · (intro w; first | (go_simp; done) | (go_simp; with_reducible rfl))
              change wpAny _ _ _ _ _ _ (Act.put _ (some 57) _) _
              refine wpAny_ready (rs := [8]) (by kernel_rfl) (by simp) ?_
              refine AllReady.cons rfl (fun K hK => ?_) AllReady.nil
              go_simp
              refine hK _ _ ?_
              clear hK K
              refine wpAny_ready (rs := [12]) (by kernel_rfl) (by simp) ?_
              refine AllReady.cons rfl (fun K hK => ?_) AllReady.nil
              go_simp
              go_wp2_with (refine (HC2.out _ hg5.out).mono ?_; rintro e w6 ⟨rfl, hg⟩)
              refine wpAny_take (i := 13) (v := ?_) rfl (by kernel_rfl) (by kernel_rfl) (by kernel_rfl) (fun _ _ _ h => h) (Or.inl ⟨by kernel_rfl, ?_⟩) ?_
              rotate_left 1
              · (intro w; first | (go_simp; done) | (go_simp; with_reducible rfl))
              change wpAny _ _ _ _ _ _ (Act.put _ (some 59) _) _
              refine wpAny_take (i := 14) (v := ?_) rfl (by kernel_rfl) (by kernel_rfl) (by kernel_rfl) (fun _ _ _ h => h) (Or.inl ⟨by kernel_rfl, ?_⟩) ?_
              rotate_left 1
              · (intro w; first | (go_simp; done) | (go_simp; with_reducible rfl))
              change wpAny _ _ _ _ _ _ (Act.put _ (some 60) _) _
              refine wpAny_take (i := 15) (v := ?_) rfl (by kernel_rfl) (by kernel_rfl) (by kernel_rfl) (fun _ _ _ h => h) (Or.inl ⟨by kernel_rfl, ?_⟩) ?_
              rotate_left 1
              · (intro w; first | (go_simp; done) | (go_simp; with_reducible rfl))
              change wpAny _ _ _ _ _ _ (Act.put _ (some 9) _) _
              refine wpAny_done (by kernel_rfl) ?_ _
              go_simp
              have HG := Lib.hid hg.2.2.2.2
              clear hg HD HC1 HC2
              go_wp2
              go_roundg (0 + 1 - (0 + 1))
              case measure => omega
              case rel => exact ⟨0 + 1, by rw [HV.out], by simp, by omega, rfl, HG⟩
          | some pp =>
            by_cases hc0 : lcap = 0
            · subst hc0
              obtain rfl : j = 0 := by omega
              obtain rfl : n = 0 := by omega
              replace HC2 : Hid (∀ W, W.cell? ⟨w.heap.size, 0, none⟩ = some (.bool false) ∧ W.cell? ⟨w.heap.size, 1, none⟩ = some (.slice o k cap) ∧ W.cell? ⟨w.heap.size + 1, 0, none⟩ = some (.bool false) ∧ W.cell? ⟨w.heap.size + 1, 1, none⟩ = some (.slice o2 k2 cap2) ∧ Below w7.heap.size w7 W → Calls Tryz.prog 15 #[patV false o2 k2 cap2, .slice (some pp) 0 0] W fun e w' => e = .returned (.bool (fitsA Y (L.drop 0))) ∧ w'.cell? ⟨w.heap.size, 0, none⟩ = some (.bool false) ∧ w'.cell? ⟨w.heap.size, 1, none⟩ = some (.slice o k cap) ∧ w'.cell? ⟨w.heap.size + 1, 0, none⟩ = some (.bool false) ∧ w'.cell? ⟨w.heap.size + 1, 1, none⟩ = some (.slice o2 k2 cap2) ∧ Below w7.heap.size w7 w') := HC2
              cases hb1 : fitsA X (L.take 0) with
              | false =>
                rw [hb1] at HC1
                have HV : Hid (partB X Y L (0 + 1) = false) := Lib.hid (by rw [partB_more, hv, hb1]; rfl)
                clear hb1 hv HC2
                go_wp2_with fail
                refine wp_region_any (by kernel_rfl) ?_
                try (change wpAny _ _ _ _ _ _ _ (World.drew _))
                refine wpAny_take (i := 0) (v := ?_) rfl (by kernel_rfl) (by kernel_rfl) (by kernel_rfl) (fun _ _ _ h => h) (Or.inl ⟨by kernel_rfl, ?_⟩) ?_
                rotate_left 1
                · (intro w; first | (go_simp; done) | (go_simp; with_reducible rfl))
                change wpAny _ _ _ _ _ _ (Act.put _ (some 46) _) _
                refine wpAny_take (i := 1) (v := ?_) rfl (by kernel_rfl) (by kernel_rfl) (by kernel_rfl) (fun _ _ _ h => h) (Or.inl ⟨by kernel_rfl, ?_⟩) ?_
                rotate_left 1
                · (intro w; first | (go_simp; done) | (go_simp; with_reducible rfl))
                change wpAny _ _ _ _ _ _ (Act.put _ (some 47) _) _
                refine wpAny_take (i := 3) (v := ?_) rfl (by kernel_rfl) (by kernel_rfl) (by kernel_rfl) (fun _ _ _ h => h) (Or.inl ⟨by kernel_rfl, ?_⟩) ?_
                rotate_left 1
                · (intro w; first | (go_simp; done) | (go_simp; with_reducible rfl))
                change wpAny _ _ _ _ _ _ (Act.put _ (some 49) _) _
                refine wpAny_take (i := 4) (v := ?_) rfl (by kernel_rfl) (by kernel_rfl) (by kernel_rfl) (fun _ _ _ h => h) (Or.inl ⟨by kernel_rfl, ?_⟩) ?_
                rotate_left 1
                · (intro w; first | (go_simp; done) | (go_simp; with_reducible rfl))
                change wpAny _ _ _ _ _ _ (Act.put _ (some 50) _) _
                refine wpAny_take (i := 5) (v := ?_) rfl (by kernel_rfl) (by kernel_rfl) (by kernel_rfl) (fun _ _ _ h => h) (Or.inl ⟨by kernel_rfl, ?_⟩) ?_
                rotate_left 1
                · (intro w; first | (go_simp; done) | (go_simp; with_reducible rfl))
                change wpAny _ _ _ _ _ _ (Act.put _ (some 51) _) _
                refine wpAny_ready (rs := [2]) (by kernel_rfl) (by simp) ?_
                refine AllReady.cons rfl (fun K hK => ?_) AllReady.nil
                go_simp
                refine hK _ _ ?_
                clear hK K
                refine wpAny_ready (rs := [6]) (by kernel_rfl) (by simp) ?_
                refine AllReady.cons rfl (fun K hK => ?_) AllReady.nil
                go_simp
                go_wp2_with (refine (HC1.out _ HD).mono ?_; rintro e w5 ⟨rfl, hg⟩)
                refine wpAny_take (i := 7) (v := ?_) rfl (by kernel_rfl) (by kernel_rfl) (by kernel_rfl) (fun _ _ _ h => h) (Or.inl ⟨by kernel_rfl, ?_⟩) ?_
                rotate_left 1
                · (intro w; first | (go_simp; done) | (go_simp; with_reducible rfl))
                change wpAny _ _ _ _ _ _ (Act.put _ (some 53) _) _
                refine wpAny_take (i := 8) (v := undef) rfl (by kernel_rfl) (by kernel_rfl) (by kernel_rfl) (fun _ _ _ h => h) (Or.inr ⟨by kernel_rfl, rfl⟩) ?_
                change wpAny _ _ _ _ _ _ (Act.put _ (some 54) _) _
                refine wpAny_take (i := 9) (v := undef) rfl (by kernel_rfl) (by kernel_rfl) (by kernel_rfl) (fun _ _ _ h => h) (Or.inr ⟨by kernel_rfl, rfl⟩) ?_
                change wpAny _ _ _ _ _ _ (Act.put _ (some 55) _) _
                refine wpAny_take (i := 10) (v := undef) rfl (by kernel_rfl) (by kernel_rfl) (by kernel_rfl) (fun _ _ _ h => h) (Or.inr ⟨by kernel_rfl, rfl⟩) ?_
                change wpAny _ _ _ _ _ _ (Act.put _ (some 56) _) _
                refine wpAny_take (i := 11) (v := undef) rfl (by kernel_rfl) (by kernel_rfl) (by kernel_rfl) (fun _ _ _ h => h) (Or.inr ⟨by kernel_rfl, rfl⟩) ?_
                change wpAny _ _ _ _ _ _ (Act.put _ (some 57) _) _
                refine wpAny_take (i := 12) (v := undef) rfl (by kernel_rfl) (by kernel_rfl) (by kernel_rfl) (fun _ _ _ h => h) (Or.inr ⟨by kernel_rfl, rfl⟩) ?_
                change wpAny _ _ _ _ _ _ (Act.put _ (some 58) _) _
                refine wpAny_take (i := 13) (v := ?_) rfl (by kernel_rfl) (by kernel_rfl) (by kernel_rfl) (fun _ _ _ h => h) (Or.inl ⟨by kernel_rfl, ?_⟩) ?_
                rotate_left 1
                · (intro w; first | (go_simp; done) | (go_simp; with_reducible rfl))
                change wpAny _ _ _ _ _ _ (Act.put _ (some 59) _) _
                refine wpAny_take (i := 14) (v := ?_) rfl (by kernel_rfl) (by kernel_rfl) (by kernel_rfl) (fun _ _ _ h => h) (Or.inl ⟨by kernel_rfl, ?_⟩) ?_
                rotate_left 1
                · (intro w; first | (go_simp; done) | (go_simp; with_reducible rfl))
                change wpAny _ _ _ _ _ _ (Act.put _ (some 60) _) _
                refine wpAny_take (i := 15) (v := ?_) rfl (by kernel_rfl) (by kernel_rfl) (by kernel_rfl) (fun _ _ _ h => h) (Or.inl ⟨by kernel_rfl, ?_⟩) ?_
                rotate_left 1
                · (intro w; first | (go_simp; done) | (go_simp; with_reducible rfl))
                change wpAny _ _ _ _ _ _ (Act.put _ (some 9) _) _
                refine wpAny_done (by kernel_rfl) ?_ _
                go_simp
                have HG := Lib.hid hg.2.2.2.2
                clear hg HD HC1
                go_wp2
                go_roundg (0 + 1 - (0 + 1))
                case measure => omega
                case rel => exact ⟨0 + 1, by rw [HV.out], by simp, by omega, rfl, HG⟩
              | true =>
                rw [hb1] at HC1
                obtain ⟨b2, hb2⟩ : ∃ b2, fitsA Y (L.drop 0) = b2 := ⟨_, rfl⟩
                have HV : Hid (partB X Y L (0 + 1) = b2) := Lib.hid (by rw [partB_more, hv, hb1, hb2]; rfl)
                rw [hb2] at HC2
                clear hb1 hv hb2
                go_wp2_with fail
                refine wp_region_any (by kernel_rfl) ?_
                try (change wpAny _ _ _ _ _ _ _ (World.drew _))
                refine wpAny_take (i := 0) (v := ?_) rfl (by kernel_rfl) (by kernel_rfl) (by kernel_rfl) (fun _ _ _ h => h) (Or.inl ⟨by kernel_rfl, ?_⟩) ?_
                rotate_left 1
                · (intro w; first | (go_simp; done) | (go_simp; with_reducible rfl))
                change wpAny _ _ _ _ _ _ (Act.put _ (some 46) _) _
                refine wpAny_take (i := 1) (v := ?_) rfl (by kernel_rfl) (by kernel_rfl) (by kernel_rfl) (fun _ _ _ h => h) (Or.inl ⟨by kernel_rfl, ?_⟩) ?_
                rotate_left 1
                · (intro w; first | (go_simp; done) | (go_simp; with_reducible rfl))
                change wpAny _ _ _ _ _ _ (Act.put _ (some 47) _) _
                refine wpAny_take (i := 3) (v := ?_) rfl (by kernel_rfl) (by kernel_rfl) (by kernel_rfl) (fun _ _ _ h => h) (Or.inl ⟨by kernel_rfl, ?_⟩) ?_
                rotate_left 1
                · (intro w; first | (go_simp; done) | (go_simp; with_reducible rfl))
                change wpAny _ _ _ _ _ _ (Act.put _ (some 49) _) _
                refine wpAny_take (i := 4) (v := ?_) rfl (by kernel_rfl) (by kernel_rfl) (by kernel_rfl) (fun _ _ _ h => h) (Or.inl ⟨by kernel_rfl, ?_⟩) ?_
                rotate_left 1
                · (intro w; first | (go_simp; done) | (go_simp; with_reducible rfl))
                change wpAny _ _ _ _ _ _ (Act.put _ (some 50) _) _
                refine wpAny_take (i := 5) (v := ?_) rfl (by kernel_rfl) (by kernel_rfl) (by kernel_rfl) (fun _ _ _ h => h) (Or.inl ⟨by kernel_rfl, ?_⟩) ?_
                rotate_left 1
                · (intro w; first | (go_simp; done) | (go_simp; with_reducible rfl))
                change wpAny _ _ _ _ _ _ (Act.put _ (some 51) _) _
                refine wpAny_ready (rs := [2]) (by kernel_rfl) (by simp) ?_
                refine AllReady.cons rfl (fun K hK => ?_) AllReady.nil
                go_simp
                refine hK _ _ ?_
                clear hK K
                refine wpAny_ready (rs := [6]) (by kernel_rfl) (by simp) ?_
                refine AllReady.cons rfl (fun K hK => ?_) AllReady.nil
                go_simp
                go_wp2_with (refine (HC1.out _ HD).mono ?_; rintro e w5 ⟨rfl, hg⟩; obtain ⟨x0, x1, y0, y1, z0⟩ := hg; have hg5 := Lib.hid (show w5.cell? ⟨w.heap.size, 0, none⟩ = some (.bool false) ∧ w5.cell? ⟨w.heap.size, 1, none⟩ = some (.slice o k cap) ∧ w5.cell? ⟨w.heap.size + 1, 0, none⟩ = some (.bool false) ∧ w5.cell? ⟨w.heap.size + 1, 1, none⟩ = some (.slice o2 k2 cap2) ∧ Below w7.heap.size w7 w5 from ⟨x0, x1, y0, y1, z0⟩))
                refine wpAny_take (i := 7) (v := ?_) rfl (by kernel_rfl) (by kernel_rfl) (by kernel_rfl) (fun _ _ _ h => h) (Or.inl ⟨by kernel_rfl, ?_⟩) ?_
                rotate_left 1
                · (intro w; first | (go_simp; done) | (go_simp; with_reducible rfl))
                change wpAny _ _ _ _ _ _ (Act.put _ (some 53) _) _
                refine wpAny_take (i := 9) (v := ?_) rfl (by kernel_rfl) (by kernel_rfl) (by kernel_rfl) (fun _ _ _ h => h) (Or.inl ⟨by kernel_rfl, ?_⟩) ?_
                rotate_left 1
                · (intro w; first | (go_simp; done) | (go_simp; with_reducible rfl))
                change wpAny _ _ _ _ _ _ (Act.put _ (some 55) _) _
                refine wpAny_take (i := 10) (v := ?_) rfl (by kernel_rfl) (by kernel_rfl) (by kernel_rfl) (fun _ _ _ h => h) (Or.inl ⟨by kernel_rfl, ?_⟩) ?_
                rotate_left 1
                · (intro w; first | (go_simp; done) | (go_simp; with_reducible rfl))
                change wpAny _ _ _ _ _ _ (Act.put _ (some 56) _) _
                refine wpAny_take (i := 11) (v := ?_) rfl (by kernel_rfl) (by kernel_rfl) (by kernel_rfl) (fun _ _ _ h => h) (Or.inl ⟨by kernel_rfl, ?_⟩) ?_
                rotate_left 1
                · (intro w; first | (go_simp; done) | (go_simp; with_reducible rfl))
                change wpAny _ _ _ _ _ _ (Act.put _ (some 57) _) _
                refine wpAny_ready (rs := [8]) (by kernel_rfl) (by simp) ?_
                refine AllReady.cons rfl (fun K hK => ?_) AllReady.nil
                go_simp
                refine hK _ _ ?_
                clear hK K
                refine wpAny_ready (rs := [12]) (by kernel_rfl) (by simp) ?_
                refine AllReady.cons rfl (fun K hK => ?_) AllReady.nil
                go_simp
                go_wp2_with (refine (HC2.out _ hg5.out).mono ?_; rintro e w6 ⟨rfl, hg⟩)
                refine wpAny_take (i := 13) (v := ?_) rfl (by kernel_rfl) (by kernel_rfl) (by kernel_rfl) (fun _ _ _ h => h) (Or.inl ⟨by kernel_rfl, ?_⟩) ?_
                rotate_left 1
                · (intro w; first | (go_simp; done) | (go_simp; with_reducible rfl))
                change wpAny _ _ _ _ _ _ (Act.put _ (some 59) _) _
                refine wpAny_take (i := 14) (v := ?_) rfl (by kernel_rfl) (by kernel_rfl) (by kernel_rfl) (fun _ _ _ h => h) (Or.inl ⟨by kernel_rfl, ?_⟩) ?_
                rotate_left 1
                · (intro w; first | (go_simp; done) | (go_simp; with_reducible rfl))
                change wpAny _ _ _ _ _ _ (Act.put _ (some 60) _) _
                refine wpAny_take (i := 15) (v := ?_) rfl (by kernel_rfl) (by kernel_rfl) (by kernel_rfl) (fun _ _ _ h => h) (Or.inl ⟨by kernel_rfl, ?_⟩) ?_
                rotate_left 1
                · (intro w; first | (go_simp; done) | (go_simp; with_reducible rfl))
                change wpAny _ _ _ _ _ _ (Act.put _ (some 9) _) _
                refine wpAny_done (by kernel_rfl) ?_ _
                go_simp
                have HG := Lib.hid hg.2.2.2.2
                clear hg HD HC1 HC2
                go_wp2
                go_roundg (0 + 1 - (0 + 1))
                case measure => omega
                case rel => exact ⟨0 + 1, by rw [HV.out], by simp, by omega, rfl, HG⟩
            · obtain ⟨g, off, sp⟩ := pp
              obtain rfl : sp = none := HSP.out.2 _ rfl (by omega)
              by_cases hj0 : j = 0
              · subst hj0
                replace HC2 : Hid (∀ W, W.cell? ⟨w.heap.size, 0, none⟩ = some (.bool false) ∧ W.cell? ⟨w.heap.size, 1, none⟩ = some (.slice o k cap) ∧ W.cell? ⟨w.heap.size + 1, 0, none⟩ = some (.bool false) ∧ W.cell? ⟨w.heap.size + 1, 1, none⟩ = some (.slice o2 k2 cap2) ∧ Below w7.heap.size w7 W → Calls Tryz.prog 15 #[patV false o2 k2 cap2, .slice (some ⟨g, off, none⟩) n lcap] W fun e w' => e = .returned (.bool (fitsA Y (L.drop 0))) ∧ w'.cell? ⟨w.heap.size, 0, none⟩ = some (.bool false) ∧ w'.cell? ⟨w.heap.size, 1, none⟩ = some (.slice o k cap) ∧ w'.cell? ⟨w.heap.size + 1, 0, none⟩ = some (.bool false) ∧ w'.cell? ⟨w.heap.size + 1, 1, none⟩ = some (.slice o2 k2 cap2) ∧ Below w7.heap.size w7 w') := by
                  have e : dropO (some ⟨g, off, none⟩) lcap 0 = some ⟨g, off, none⟩ := by unfold dropO; simp
                  rw [e] at HC2
                  exact HC2
                cases hb1 : fitsA X (L.take 0) with
                | false =>
                  rw [hb1] at HC1
                  have HV : Hid (partB X Y L (0 + 1) = false) := Lib.hid (by rw [partB_more, hv, hb1]; rfl)
                  clear hb1 hv HC2
                  go_wp2_with fail
                  refine wp_region_any (by kernel_rfl) ?_
                  try (change wpAny _ _ _ _ _ _ _ (World.drew _))
                  refine wpAny_take (i := 0) (v := ?_) rfl (by kernel_rfl) (by kernel_rfl) (by kernel_rfl) (fun _ _ _ h => h) (Or.inl ⟨by kernel_rfl, ?_⟩) ?_
                  rotate_left 1
                  · (intro w; first | (go_simp; done) | (go_simp; with_reducible rfl))
                  change wpAny _ _ _ _ _ _ (Act.put _ (some 46) _) _
                  refine wpAny_take (i := 1) (v := ?_) rfl (by kernel_rfl) (by kernel_rfl) (by kernel_rfl) (fun _ _ _ h => h) (Or.inl ⟨by kernel_rfl, ?_⟩) ?_
                  rotate_left 1
                  · (intro w; first | (go_simp; done) | (go_simp; with_reducible rfl))
                  change wpAny _ _ _ _ _ _ (Act.put _ (some 47) _) _
                  refine wpAny_take (i := 3) (v := ?_) rfl (by kernel_rfl) (by kernel_rfl) (by kernel_rfl) (fun _ _ _ h => h) (Or.inl ⟨by kernel_rfl, ?_⟩) ?_
                  rotate_left 1
                  · (intro w; first | (go_simp; done) | (go_simp; with_reducible rfl))
                  change wpAny _ _ _ _ _ _ (Act.put _ (some 49) _) _
                  refine wpAny_take (i := 4) (v := ?_) rfl (by kernel_rfl) (by kernel_rfl) (by kernel_rfl) (fun _ _ _ h => h) (Or.inl ⟨by kernel_rfl, ?_⟩) ?_
                  rotate_left 1
                  · (intro w; first | (go_simp; done) | (go_simp; with_reducible rfl))
                  change wpAny _ _ _ _ _ _ (Act.put _ (some 50) _) _
                  refine wpAny_take (i := 5) (v := ?_) rfl (by kernel_rfl) (by kernel_rfl) (by kernel_rfl) (fun _ _ _ h => h) (Or.inl ⟨by kernel_rfl, ?_⟩) ?_
                  rotate_left 1
                  · (intro w; first | (go_simp; done) | (go_simp; with_reducible rfl))
                  change wpAny _ _ _ _ _ _ (Act.put _ (some 51) _) _
                  refine wpAny_ready (rs := [2]) (by kernel_rfl) (by simp) ?_
                  refine AllReady.cons rfl (fun K hK => ?_) AllReady.nil
                  go_simp
                  refine hK _ _ ?_
                  clear hK K
                  refine wpAny_ready (rs := [6]) (by kernel_rfl) (by simp) ?_
                  refine AllReady.cons rfl (fun K hK => ?_) AllReady.nil
                  go_simp
                  go_wp2_with (refine (HC1.out _ HD).mono ?_; rintro e w5 ⟨rfl, hg⟩)
                  refine wpAny_take (i := 7) (v := ?_) rfl (by kernel_rfl) (by kernel_rfl) (by kernel_rfl) (fun _ _ _ h => h) (Or.inl ⟨by kernel_rfl, ?_⟩) ?_
                  rotate_left 1
                  · (intro w; first | (go_simp; done) | (go_simp; with_reducible rfl))
                  change wpAny _ _ _ _ _ _ (Act.put _ (some 53) _) _
                  refine wpAny_take (i := 8) (v := undef) rfl (by kernel_rfl) (by kernel_rfl) (by kernel_rfl) (fun _ _ _ h => h) (Or.inr ⟨by kernel_rfl, rfl⟩) ?_
                  change wpAny _ _ _ _ _ _ (Act.put _ (some 54) _) _
                  refine wpAny_take (i := 9) (v := undef) rfl (by kernel_rfl) (by kernel_rfl) (by kernel_rfl) (fun _ _ _ h => h) (Or.inr ⟨by kernel_rfl, rfl⟩) ?_
                  change wpAny _ _ _ _ _ _ (Act.put _ (some 55) _) _
                  refine wpAny_take (i := 10) (v := undef) rfl (by kernel_rfl) (by kernel_rfl) (by kernel_rfl) (fun _ _ _ h => h) (Or.inr ⟨by kernel_rfl, rfl⟩) ?_
                  change wpAny _ _ _ _ _ _ (Act.put _ (some 56) _) _
                  refine wpAny_take (i := 11) (v := undef) rfl (by kernel_rfl) (by kernel_rfl) (by kernel_rfl) (fun _ _ _ h => h) (Or.inr ⟨by kernel_rfl, rfl⟩) ?_
                  change wpAny _ _ _ _ _ _ (Act.put _ (some 57) _) _
                  refine wpAny_take (i := 12) (v := undef) rfl (by kernel_rfl) (by kernel_rfl) (by kernel_rfl) (fun _ _ _ h => h) (Or.inr ⟨by kernel_rfl, rfl⟩) ?_
                  change wpAny _ _ _ _ _ _ (Act.put _ (some 58) _) _
                  refine wpAny_take (i := 13) (v := ?_) rfl (by kernel_rfl) (by kernel_rfl) (by kernel_rfl) (fun _ _ _ h => h) (Or.inl ⟨by kernel_rfl, ?_⟩) ?_
                  rotate_left 1
                  · (intro w; first | (go_simp; done) | (go_simp; with_reducible rfl))
                  change wpAny _ _ _ _ _ _ (Act.put _ (some 59) _) _
                  refine wpAny_take (i := 14) (v := ?_) rfl (by kernel_rfl) (by kernel_rfl) (by kernel_rfl) (fun _ _ _ h => h) (Or.inl ⟨by kernel_rfl, ?_⟩) ?_
                  rotate_left 1
                  · (intro w; first | (go_simp; done) | (go_simp; with_reducible rfl))
                  change wpAny _ _ _ _ _ _ (Act.put _ (some 60) _) _
                  refine wpAny_take (i := 15) (v := ?_) rfl (by kernel_rfl) (by kernel_rfl) (by kernel_rfl) (fun _ _ _ h => h) (Or.inl ⟨by kernel_rfl, ?_⟩) ?_
                  rotate_left 1
                  · (intro w; first | (go_simp; done) | (go_simp; with_reducible rfl))
                  change wpAny _ _ _ _ _ _ (Act.put _ (some 9) _) _
                  refine wpAny_done (by kernel_rfl) ?_ _
                  go_simp
                  have HG := Lib.hid hg.2.2.2.2
                  clear hg HD HC1
                  go_wp2
                  go_roundg (n + 1 - (0 + 1))
                  case measure => omega
                  case rel => exact ⟨0 + 1, by rw [HV.out], by simp, by omega, rfl, HG⟩
                | true =>
                  rw [hb1] at HC1
                  obtain ⟨b2, hb2⟩ : ∃ b2, fitsA Y (L.drop 0) = b2 := ⟨_, rfl⟩
                  have HV : Hid (partB X Y L (0 + 1) = b2) := Lib.hid (by rw [partB_more, hv, hb1, hb2]; rfl)
                  rw [hb2] at HC2
                  clear hb1 hv hb2
                  go_wp2_with fail
                  refine wp_region_any (by kernel_rfl) ?_
                  try (change wpAny _ _ _ _ _ _ _ (World.drew _))
                  refine wpAny_take (i := 0) (v := ?_) rfl (by kernel_rfl) (by kernel_rfl) (by kernel_rfl) (fun _ _ _ h => h) (Or.inl ⟨by kernel_rfl, ?_⟩) ?_
                  rotate_left 1
                  · (intro w; first | (go_simp; done) | (go_simp; with_reducible rfl))
                  change wpAny _ _ _ _ _ _ (Act.put _ (some 46) _) _
                  refine wpAny_take (i := 1) (v := ?_) rfl (by kernel_rfl) (by kernel_rfl) (by kernel_rfl) (fun _ _ _ h => h) (Or.inl ⟨by kernel_rfl, ?_⟩) ?_
                  rotate_left 1
                  · (intro w; first | (go_simp; done) | (go_simp; with_reducible rfl))
                  change wpAny _ _ _ _ _ _ (Act.put _ (some 47) _) _
                  refine wpAny_take (i := 3) (v := ?_) rfl (by kernel_rfl) (by kernel_rfl) (by kernel_rfl) (fun _ _ _ h => h) (Or.inl ⟨by kernel_rfl, ?_⟩) ?_
                  rotate_left 1
                  · (intro w; first | (go_simp; done) | (go_simp; with_reducible rfl))
                  change wpAny _ _ _ _ _ _ (Act.put _ (some 49) _) _
                  refine wpAny_take (i := 4) (v := ?_) rfl (by kernel_rfl) (by kernel_rfl) (by kernel_rfl) (fun _ _ _ h => h) (Or.inl ⟨by kernel_rfl, ?_⟩) ?_
                  rotate_left 1
                  · (intro w; first | (go_simp; done) | (go_simp; with_reducible rfl))
                  change wpAny _ _ _ _ _ _ (Act.put _ (some 50) _) _
                  refine wpAny_take (i := 5) (v := ?_) rfl (by kernel_rfl) (by kernel_rfl) (by kernel_rfl) (fun _ _ _ h => h) (Or.inl ⟨by kernel_rfl, ?_⟩) ?_
                  rotate_left 1
                  · (intro w; first | (go_simp; done) | (go_simp; with_reducible rfl))
                  change wpAny _ _ _ _ _ _ (Act.put _ (some 51) _) _
                  refine wpAny_ready (rs := [2]) (by kernel_rfl) (by simp) ?_
                  refine AllReady.cons rfl (fun K hK => ?_) AllReady.nil
                  go_simp
                  refine hK _ _ ?_
                  clear hK K
                  refine wpAny_ready (rs := [6]) (by kernel_rfl) (by simp) ?_
                  refine AllReady.cons rfl (fun K hK => ?_) AllReady.nil
                  go_simp
                  go_wp2_with (refine (HC1.out _ HD).mono ?_; rintro e w5 ⟨rfl, hg⟩; obtain ⟨x0, x1, y0, y1, z0⟩ := hg; have hg5 := Lib.hid (show w5.cell? ⟨w.heap.size, 0, none⟩ = some (.bool false) ∧ w5.cell? ⟨w.heap.size, 1, none⟩ = some (.slice o k cap) ∧ w5.cell? ⟨w.heap.size + 1, 0, none⟩ = some (.bool false) ∧ w5.cell? ⟨w.heap.size + 1, 1, none⟩ = some (.slice o2 k2 cap2) ∧ Below w7.heap.size w7 w5 from ⟨x0, x1, y0, y1, z0⟩))
                  refine wpAny_take (i := 7) (v := ?_) rfl (by kernel_rfl) (by kernel_rfl) (by kernel_rfl) (fun _ _ _ h => h) (Or.inl ⟨by kernel_rfl, ?_⟩) ?_
                  rotate_left 1
                  · (intro w; first | (go_simp; done) | (go_simp; with_reducible rfl))
                  change wpAny _ _ _ _ _ _ (Act.put _ (some 53) _) _
                  refine wpAny_take (i := 9) (v := ?_) rfl (by kernel_rfl) (by kernel_rfl) (by kernel_rfl) (fun _ _ _ h => h) (Or.inl ⟨by kernel_rfl, ?_⟩) ?_
                  rotate_left 1
                  · (intro w; first | (go_simp; done) | (go_simp; with_reducible rfl))
                  change wpAny _ _ _ _ _ _ (Act.put _ (some 55) _) _
                  refine wpAny_take (i := 10) (v := ?_) rfl (by kernel_rfl) (by kernel_rfl) (by kernel_rfl) (fun _ _ _ h => h) (Or.inl ⟨by kernel_rfl, ?_⟩) ?_
                  rotate_left 1
                  · (intro w; first | (go_simp; done) | (go_simp; with_reducible rfl))
                  change wpAny _ _ _ _ _ _ (Act.put _ (some 56) _) _
                  refine wpAny_take (i := 11) (v := ?_) rfl (by kernel_rfl) (by kernel_rfl) (by kernel_rfl) (fun _ _ _ h => h) (Or.inl ⟨by kernel_rfl, ?_⟩) ?_
                  rotate_left 1
                  · (intro w; first | (go_simp; done) | (go_simp; with_reducible rfl))
                  change wpAny _ _ _ _ _ _ (Act.put _ (some 57) _) _
                  refine wpAny_ready (rs := [8]) (by kernel_rfl) (by simp) ?_
                  refine AllReady.cons rfl (fun K hK => ?_) AllReady.nil
                  go_simp
                  refine hK _ _ ?_
                  clear hK K
                  refine wpAny_ready (rs := [12]) (by kernel_rfl) (by simp) ?_
                  refine AllReady.cons rfl (fun K hK => ?_) AllReady.nil
                  go_simp
                  go_wp2_with (refine (HC2.out _ hg5.out).mono ?_; rintro e w6 ⟨rfl, hg⟩)
                  refine wpAny_take (i := 13) (v := ?_) rfl (by kernel_rfl) (by kernel_rfl) (by kernel_rfl) (fun _ _ _ h => h) (Or.inl ⟨by kernel_rfl, ?_⟩) ?_
                  rotate_left 1
                  · (intro w; first | (go_simp; done) | (go_simp; with_reducible rfl))
                  change wpAny _ _ _ _ _ _ (Act.put _ (some 59) _) _
                  refine wpAny_take (i := 14) (v := ?_) rfl (by kernel_rfl) (by kernel_rfl) (by kernel_rfl) (fun _ _ _ h => h) (Or.inl ⟨by kernel_rfl, ?_⟩) ?_
                  rotate_left 1
                  · (intro w; first | (go_simp; done) | (go_simp; with_reducible rfl))
                  change wpAny _ _ _ _ _ _ (Act.put _ (some 60) _) _
                  refine wpAny_take (i := 15) (v := ?_) rfl (by kernel_rfl) (by kernel_rfl) (by kernel_rfl) (fun _ _ _ h => h) (Or.inl ⟨by kernel_rfl, ?_⟩) ?_
                  rotate_left 1
                  · (intro w; first | (go_simp; done) | (go_simp; with_reducible rfl))
                  change wpAny _ _ _ _ _ _ (Act.put _ (some 9) _) _
                  refine wpAny_done (by kernel_rfl) ?_ _
                  go_simp
                  have HG := Lib.hid hg.2.2.2.2
                  clear hg HD HC1 HC2
                  go_wp2
                  go_roundg (n + 1 - (0 + 1))
                  case measure => omega
                  case rel => exact ⟨0 + 1, by rw [HV.out], by simp, by omega, rfl, HG⟩
              · by_cases hje : lcap = j
                · subst hje
                  obtain rfl : n = lcap := by omega
                  replace HC2 : Hid (∀ W, W.cell? ⟨w.heap.size, 0, none⟩ = some (.bool false) ∧ W.cell? ⟨w.heap.size, 1, none⟩ = some (.slice o k cap) ∧ W.cell? ⟨w.heap.size + 1, 0, none⟩ = some (.bool false) ∧ W.cell? ⟨w.heap.size + 1, 1, none⟩ = some (.slice o2 k2 cap2) ∧ Below w7.heap.size w7 W → Calls Tryz.prog 15 #[patV false o2 k2 cap2, .slice (some ⟨g, off, none⟩) 0 0] W fun e w' => e = .returned (.bool (fitsA Y (L.drop n))) ∧ w'.cell? ⟨w.heap.size, 0, none⟩ = some (.bool false) ∧ w'.cell? ⟨w.heap.size, 1, none⟩ = some (.slice o k cap) ∧ w'.cell? ⟨w.heap.size + 1, 0, none⟩ = some (.bool false) ∧ w'.cell? ⟨w.heap.size + 1, 1, none⟩ = some (.slice o2 k2 cap2) ∧ Below w7.heap.size w7 w') := by
                    have e : dropO (some ⟨g, off, none⟩) n n = some ⟨g, off, none⟩ := by unfold dropO; simp
                    rw [e, Nat.sub_self] at HC2
                    exact HC2
                  cases hb1 : fitsA X (L.take n) with
                  | false =>
                    rw [hb1] at HC1
                    have HV : Hid (partB X Y L (n + 1) = false) := Lib.hid (by rw [partB_more, hv, hb1]; rfl)
                    clear hb1 hv HC2
                    go_wp2_with fail
                    refine wp_region_any (by kernel_rfl) ?_
                    try (change wpAny _ _ _ _ _ _ _ (World.drew _))
                    refine wpAny_take (i := 0) (v := ?_) rfl (by kernel_rfl) (by kernel_rfl) (by kernel_rfl) (fun _ _ _ h => h) (Or.inl ⟨by kernel_rfl, ?_⟩) ?_
                    rotate_left 1
                    · (intro w; first | (go_simp; done) | (go_simp; with_reducible rfl))
                    change wpAny _ _ _ _ _ _ (Act.put _ (some 46) _) _
                    refine wpAny_take (i := 1) (v := ?_) rfl (by kernel_rfl) (by kernel_rfl) (by kernel_rfl) (fun _ _ _ h => h) (Or.inl ⟨by kernel_rfl, ?_⟩) ?_
                    rotate_left 1
                    · (intro w; first | (go_simp; done) | (go_simp; with_reducible rfl))
                    change wpAny _ _ _ _ _ _ (Act.put _ (some 47) _) _
                    refine wpAny_take (i := 3) (v := ?_) rfl (by kernel_rfl) (by kernel_rfl) (by kernel_rfl) (fun _ _ _ h => h) (Or.inl ⟨by kernel_rfl, ?_⟩) ?_
                    rotate_left 1
                    · (intro w; first | (go_simp; done) | (go_simp; with_reducible rfl))
                    change wpAny _ _ _ _ _ _ (Act.put _ (some 49) _) _
                    refine wpAny_take (i := 4) (v := ?_) rfl (by kernel_rfl) (by kernel_rfl) (by kernel_rfl) (fun _ _ _ h => h) (Or.inl ⟨by kernel_rfl, ?_⟩) ?_
                    rotate_left 1
                    · (intro w; first | (go_simp; done) | (go_simp; with_reducible rfl))
                    change wpAny _ _ _ _ _ _ (Act.put _ (some 50) _) _
                    refine wpAny_take (i := 5) (v := ?_) rfl (by kernel_rfl) (by kernel_rfl) (by kernel_rfl) (fun _ _ _ h => h) (Or.inl ⟨by kernel_rfl, ?_⟩) ?_
                    rotate_left 1
                    · (intro w; first | (go_simp; done) | (go_simp; with_reducible rfl))
                    change wpAny _ _ _ _ _ _ (Act.put _ (some 51) _) _
                    refine wpAny_ready (rs := [2]) (by kernel_rfl) (by simp) ?_
                    refine AllReady.cons rfl (fun K hK => ?_) AllReady.nil
                    go_simp
                    refine hK _ _ ?_
                    clear hK K
                    refine wpAny_ready (rs := [6]) (by kernel_rfl) (by simp) ?_
                    refine AllReady.cons rfl (fun K hK => ?_) AllReady.nil
                    go_simp
                    go_wp2_with (refine (HC1.out _ HD).mono ?_; rintro e w5 ⟨rfl, hg⟩)
                    refine wpAny_take (i := 7) (v := ?_) rfl (by kernel_rfl) (by kernel_rfl) (by kernel_rfl) (fun _ _ _ h => h) (Or.inl ⟨by kernel_rfl, ?_⟩) ?_
                    rotate_left 1
                    · (intro w; first | (go_simp; done) | (go_simp; with_reducible rfl))
                    change wpAny _ _ _ _ _ _ (Act.put _ (some 53) _) _
                    refine wpAny_take (i := 8) (v := undef) rfl (by kernel_rfl) (by kernel_rfl) (by kernel_rfl) (fun _ _ _ h => h) (Or.inr ⟨by kernel_rfl, rfl⟩) ?_
                    change wpAny _ _ _ _ _ _ (Act.put _ (some 54) _) _
                    refine wpAny_take (i := 9) (v := undef) rfl (by kernel_rfl) (by kernel_rfl) (by kernel_rfl) (fun _ _ _ h => h) (Or.inr ⟨by kernel_rfl, rfl⟩) ?_
                    change wpAny _ _ _ _ _ _ (Act.put _ (some 55) _) _
                    refine wpAny_take (i := 10) (v := undef) rfl (by kernel_rfl) (by kernel_rfl) (by kernel_rfl) (fun _ _ _ h => h) (Or.inr ⟨by kernel_rfl, rfl⟩) ?_
                    change wpAny _ _ _ _ _ _ (Act.put _ (some 56) _) _
                    refine wpAny_take (i := 11) (v := undef) rfl (by kernel_rfl) (by kernel_rfl) (by kernel_rfl) (fun _ _ _ h => h) (Or.inr ⟨by kernel_rfl, rfl⟩) ?_
                    change wpAny _ _ _ _ _ _ (Act.put _ (some 57) _) _
                    refine wpAny_take (i := 12) (v := undef) rfl (by kernel_rfl) (by kernel_rfl) (by kernel_rfl) (fun _ _ _ h => h) (Or.inr ⟨by kernel_rfl, rfl⟩) ?_
                    change wpAny _ _ _ _ _ _ (Act.put _ (some 58) _) _
                    refine wpAny_take (i := 13) (v := ?_) rfl (by kernel_rfl) (by kernel_rfl) (by kernel_rfl) (fun _ _ _ h => h) (Or.inl ⟨by kernel_rfl, ?_⟩) ?_
                    rotate_left 1
                    · (intro w; first | (go_simp; done) | (go_simp; with_reducible rfl))
                    change wpAny _ _ _ _ _ _ (Act.put _ (some 59) _) _
                    refine wpAny_take (i := 14) (v := ?_) rfl (by kernel_rfl) (by kernel_rfl) (by kernel_rfl) (fun _ _ _ h => h) (Or.inl ⟨by kernel_rfl, ?_⟩) ?_
                    rotate_left 1
                    · (intro w; first | (go_simp; done) | (go_simp; with_reducible rfl))
                    change wpAny _ _ _ _ _ _ (Act.put _ (some 60) _) _
                    refine wpAny_take (i := 15) (v := ?_) rfl (by kernel_rfl) (by kernel_rfl) (by kernel_rfl) (fun _ _ _ h => h) (Or.inl ⟨by kernel_rfl, ?_⟩) ?_
                    rotate_left 1
                    · (intro w; first | (go_simp; done) | (go_simp; with_reducible rfl))
                    change wpAny _ _ _ _ _ _ (Act.put _ (some 9) _) _
                    refine wpAny_done (by kernel_rfl) ?_ _
                    go_simp
                    have HG := Lib.hid hg.2.2.2.2
                    clear hg HD HC1
                    go_wp2
                    go_roundg (n + 1 - (n + 1))
                    case measure => omega
                    case rel => exact ⟨n + 1, by rw [HV.out], by simp, by omega, rfl, HG⟩
                  | true =>
                    rw [hb1] at HC1
                    obtain ⟨b2, hb2⟩ : ∃ b2, fitsA Y (L.drop n) = b2 := ⟨_, rfl⟩
                    have HV : Hid (partB X Y L (n + 1) = b2) := Lib.hid (by rw [partB_more, hv, hb1, hb2]; rfl)
                    rw [hb2] at HC2
                    clear hb1 hv hb2
                    go_wp2_with fail
                    refine wp_region_any (by kernel_rfl) ?_
                    try (change wpAny _ _ _ _ _ _ _ (World.drew _))
                    refine wpAny_take (i := 0) (v := ?_) rfl (by kernel_rfl) (by kernel_rfl) (by kernel_rfl) (fun _ _ _ h => h) (Or.inl ⟨by kernel_rfl, ?_⟩) ?_
                    rotate_left 1
                    · (intro w; first | (go_simp; done) | (go_simp; with_reducible rfl))
                    change wpAny _ _ _ _ _ _ (Act.put _ (some 46) _) _
                    refine wpAny_take (i := 1) (v := ?_) rfl (by kernel_rfl) (by kernel_rfl) (by kernel_rfl) (fun _ _ _ h => h) (Or.inl ⟨by kernel_rfl, ?_⟩) ?_
                    rotate_left 1
                    · (intro w; first | (go_simp; done) | (go_simp; with_reducible rfl))
                    change wpAny _ _ _ _ _ _ (Act.put _ (some 47) _) _
                    refine wpAny_take (i := 3) (v := ?_) rfl (by kernel_rfl) (by kernel_rfl) (by kernel_rfl) (fun _ _ _ h => h) (Or.inl ⟨by kernel_rfl, ?_⟩) ?_
                    rotate_left 1
                    · (intro w; first | (go_simp; done) | (go_simp; with_reducible rfl))
                    change wpAny _ _ _ _ _ _ (Act.put _ (some 49) _) _
                    refine wpAny_take (i := 4) (v := ?_) rfl (by kernel_rfl) (by kernel_rfl) (by kernel_rfl) (fun _ _ _ h => h) (Or.inl ⟨by kernel_rfl, ?_⟩) ?_
                    rotate_left 1
                    · (intro w; first | (go_simp; done) | (go_simp; with_reducible rfl))
                    change wpAny _ _ _ _ _ _ (Act.put _ (some 50) _) _
                    refine wpAny_take (i := 5) (v := ?_) rfl (by kernel_rfl) (by kernel_rfl) (by kernel_rfl) (fun _ _ _ h => h) (Or.inl ⟨by kernel_rfl, ?_⟩) ?_
                    rotate_left 1
                    · (intro w; first | (go_simp; done) | (go_simp; with_reducible rfl))
                    change wpAny _ _ _ _ _ _ (Act.put _ (some 51) _) _
                    refine wpAny_ready (rs := [2]) (by kernel_rfl) (by simp) ?_
                    refine AllReady.cons rfl (fun K hK => ?_) AllReady.nil
                    go_simp
                    refine hK _ _ ?_
                    clear hK K
                    refine wpAny_ready (rs := [6]) (by kernel_rfl) (by simp) ?_
                    refine AllReady.cons rfl (fun K hK => ?_) AllReady.nil
                    go_simp
                    go_wp2_with (refine (HC1.out _ HD).mono ?_; rintro e w5 ⟨rfl, hg⟩; obtain ⟨x0, x1, y0, y1, z0⟩ := hg; have hg5 := Lib.hid (show w5.cell? ⟨w.heap.size, 0, none⟩ = some (.bool false) ∧ w5.cell? ⟨w.heap.size, 1, none⟩ = some (.slice o k cap) ∧ w5.cell? ⟨w.heap.size + 1, 0, none⟩ = some (.bool false) ∧ w5.cell? ⟨w.heap.size + 1, 1, none⟩ = some (.slice o2 k2 cap2) ∧ Below w7.heap.size w7 w5 from ⟨x0, x1, y0, y1, z0⟩))
                    refine wpAny_take (i := 7) (v := ?_) rfl (by kernel_rfl) (by kernel_rfl) (by kernel_rfl) (fun _ _ _ h => h) (Or.inl ⟨by kernel_rfl, ?_⟩) ?_
                    rotate_left 1
                    · (intro w; first | (go_simp; done) | (go_simp; with_reducible rfl))
                    change wpAny _ _ _ _ _ _ (Act.put _ (some 53) _) _
                    refine wpAny_take (i := 9) (v := ?_) rfl (by kernel_rfl) (by kernel_rfl) (by kernel_rfl) (fun _ _ _ h => h) (Or.inl ⟨by kernel_rfl, ?_⟩) ?_
                    rotate_left 1
                    · (intro w; first | (go_simp; done) | (go_simp; with_reducible rfl))
                    change wpAny _ _ _ _ _ _ (Act.put _ (some 55) _) _
                    refine wpAny_take (i := 10) (v := ?_) rfl (by kernel_rfl) (by kernel_rfl) (by kernel_rfl) (fun _ _ _ h => h) (Or.inl ⟨by kernel_rfl, ?_⟩) ?_
                    rotate_left 1
                    · (intro w; first | (go_simp; done) | (go_simp; with_reducible rfl))
                    change wpAny _ _ _ _ _ _ (Act.put _ (some 56) _) _
                    refine wpAny_take (i := 11) (v := ?_) rfl (by kernel_rfl) (by kernel_rfl) (by kernel_rfl) (fun _ _ _ h => h) (Or.inl ⟨by kernel_rfl, ?_⟩) ?_
                    rotate_left 1
                    · (intro w; first | (go_simp; done) | (go_simp; with_reducible rfl))
                    change wpAny _ _ _ _ _ _ (Act.put _ (some 57) _) _
                    refine wpAny_ready (rs := [8]) (by kernel_rfl) (by simp) ?_
                    refine AllReady.cons rfl (fun K hK => ?_) AllReady.nil
                    go_simp
                    refine hK _ _ ?_
                    clear hK K
                    refine wpAny_ready (rs := [12]) (by kernel_rfl) (by simp) ?_
                    refine AllReady.cons rfl (fun K hK => ?_) AllReady.nil
                    go_simp
                    go_wp2_with (refine (HC2.out _ hg5.out).mono ?_; rintro e w6 ⟨rfl, hg⟩)
                    refine wpAny_take (i := 13) (v := ?_) rfl (by kernel_rfl) (by kernel_rfl) (by kernel_rfl) (fun _ _ _ h => h) (Or.inl ⟨by kernel_rfl, ?_⟩) ?_
                    rotate_left 1
                    · (intro w; first | (go_simp; done) | (go_simp; with_reducible rfl))
                    change wpAny _ _ _ _ _ _ (Act.put _ (some 59) _) _
                    refine wpAny_take (i := 14) (v := ?_) rfl (by kernel_rfl) (by kernel_rfl) (by kernel_rfl) (fun _ _ _ h => h) (Or.inl ⟨by kernel_rfl, ?_⟩) ?_
                    rotate_left 1
                    · (intro w; first | (go_simp; done) | (go_simp; with_reducible rfl))
                    change wpAny _ _ _ _ _ _ (Act.put _ (some 60) _) _
                    refine wpAny_take (i := 15) (v := ?_) rfl (by kernel_rfl) (by kernel_rfl) (by kernel_rfl) (fun _ _ _ h => h) (Or.inl ⟨by kernel_rfl, ?_⟩) ?_
                    rotate_left 1
                    · (intro w; first | (go_simp; done) | (go_simp; with_reducible rfl))
                    change wpAny _ _ _ _ _ _ (Act.put _ (some 9) _) _
                    refine wpAny_done (by kernel_rfl) ?_ _
                    go_simp
                    have HG := Lib.hid hg.2.2.2.2
                    clear hg HD HC1 HC2
                    go_wp2
                    go_roundg (n + 1 - (n + 1))
                    case measure => omega
                    case rel => exact ⟨n + 1, by rw [HV.out], by simp, by omega, rfl, HG⟩
                · replace HC2 : Hid (∀ W, W.cell? ⟨w.heap.size, 0, none⟩ = some (.bool false) ∧ W.cell? ⟨w.heap.size, 1, none⟩ = some (.slice o k cap) ∧ W.cell? ⟨w.heap.size + 1, 0, none⟩ = some (.bool false) ∧ W.cell? ⟨w.heap.size + 1, 1, none⟩ = some (.slice o2 k2 cap2) ∧ Below w7.heap.size w7 W → Calls Tryz.prog 15 #[patV false o2 k2 cap2, .slice (some ⟨g, off + j, none⟩) (n - j) (lcap - j)] W fun e w' => e = .returned (.bool (fitsA Y (L.drop j))) ∧ w'.cell? ⟨w.heap.size, 0, none⟩ = some (.bool false) ∧ w'.cell? ⟨w.heap.size, 1, none⟩ = some (.slice o k cap) ∧ w'.cell? ⟨w.heap.size + 1, 0, none⟩ = some (.bool false) ∧ w'.cell? ⟨w.heap.size + 1, 1, none⟩ = some (.slice o2 k2 cap2) ∧ Below w7.heap.size w7 w') := by
                    have e : dropO (some ⟨g, off, none⟩) lcap j = some ⟨g, off + j, none⟩ := by unfold dropO; simp [hje]
                    rw [e] at HC2
                    exact HC2
                  cases hb1 : fitsA X (L.take j) with
                  | false =>
                    rw [hb1] at HC1
                    have HV : Hid (partB X Y L (j + 1) = false) := Lib.hid (by rw [partB_more, hv, hb1]; rfl)
                    clear hb1 hv HC2
                    go_wp2_with fail
                    refine wp_region_any (by kernel_rfl) ?_
                    try (change wpAny _ _ _ _ _ _ _ (World.drew _))
                    refine wpAny_take (i := 0) (v := ?_) rfl (by kernel_rfl) (by kernel_rfl) (by kernel_rfl) (fun _ _ _ h => h) (Or.inl ⟨by kernel_rfl, ?_⟩) ?_
                    rotate_left 1
                    · (intro w; first | (go_simp; done) | (go_simp; with_reducible rfl))
                    change wpAny _ _ _ _ _ _ (Act.put _ (some 46) _) _
                    refine wpAny_take (i := 1) (v := ?_) rfl (by kernel_rfl) (by kernel_rfl) (by kernel_rfl) (fun _ _ _ h => h) (Or.inl ⟨by kernel_rfl, ?_⟩) ?_
                    rotate_left 1
                    · (intro w; first | (go_simp; done) | (go_simp; with_reducible rfl))
                    change wpAny _ _ _ _ _ _ (Act.put _ (some 47) _) _
                    refine wpAny_take (i := 3) (v := ?_) rfl (by kernel_rfl) (by kernel_rfl) (by kernel_rfl) (fun _ _ _ h => h) (Or.inl ⟨by kernel_rfl, ?_⟩) ?_
                    rotate_left 1
                    · (intro w; first | (go_simp; done) | (go_simp; with_reducible rfl))
                    change wpAny _ _ _ _ _ _ (Act.put _ (some 49) _) _
                    refine wpAny_take (i := 4) (v := ?_) rfl (by kernel_rfl) (by kernel_rfl) (by kernel_rfl) (fun _ _ _ h => h) (Or.inl ⟨by kernel_rfl, ?_⟩) ?_
                    rotate_left 1
                    · (intro w; first | (go_simp; done) | (go_simp; with_reducible rfl))
                    change wpAny _ _ _ _ _ _ (Act.put _ (some 50) _) _
                    refine wpAny_take (i := 5) (v := ?_) rfl (by kernel_rfl) (by kernel_rfl) (by kernel_rfl) (fun _ _ _ h => h) (Or.inl ⟨by kernel_rfl, ?_⟩) ?_
                    rotate_left 1
                    · (intro w; first | (go_simp; done) | (go_simp; with_reducible rfl))
                    change wpAny _ _ _ _ _ _ (Act.put _ (some 51) _) _
                    refine wpAny_ready (rs := [2]) (by kernel_rfl) (by simp) ?_
                    refine AllReady.cons rfl (fun K hK => ?_) AllReady.nil
                    go_simp
                    refine hK _ _ ?_
                    clear hK K
                    refine wpAny_ready (rs := [6]) (by kernel_rfl) (by simp) ?_
                    refine AllReady.cons rfl (fun K hK => ?_) AllReady.nil
                    go_simp
                    go_wp2_with (refine (HC1.out _ HD).mono ?_; rintro e w5 ⟨rfl, hg⟩)
                    refine wpAny_take (i := 7) (v := ?_) rfl (by kernel_rfl) (by kernel_rfl) (by kernel_rfl) (fun _ _ _ h => h) (Or.inl ⟨by kernel_rfl, ?_⟩) ?_
                    rotate_left 1
                    · (intro w; first | (go_simp; done) | (go_simp; with_reducible rfl))
                    change wpAny _ _ _ _ _ _ (Act.put _ (some 53) _) _
                    refine wpAny_take (i := 8) (v := undef) rfl (by kernel_rfl) (by kernel_rfl) (by kernel_rfl) (fun _ _ _ h => h) (Or.inr ⟨by kernel_rfl, rfl⟩) ?_
                    change wpAny _ _ _ _ _ _ (Act.put _ (some 54) _) _
                    refine wpAny_take (i := 9) (v := undef) rfl (by kernel_rfl) (by kernel_rfl) (by kernel_rfl) (fun _ _ _ h => h) (Or.inr ⟨by kernel_rfl, rfl⟩) ?_
                    change wpAny _ _ _ _ _ _ (Act.put _ (some 55) _) _
                    refine wpAny_take (i := 10) (v := undef) rfl (by kernel_rfl) (by kernel_rfl) (by kernel_rfl) (fun _ _ _ h => h) (Or.inr ⟨by kernel_rfl, rfl⟩) ?_
                    change wpAny _ _ _ _ _ _ (Act.put _ (some 56) _) _
                    refine wpAny_take (i := 11) (v := undef) rfl (by kernel_rfl) (by kernel_rfl) (by kernel_rfl) (fun _ _ _ h => h) (Or.inr ⟨by kernel_rfl, rfl⟩) ?_
                    change wpAny _ _ _ _ _ _ (Act.put _ (some 57) _) _
                    refine wpAny_take (i := 12) (v := undef) rfl (by kernel_rfl) (by kernel_rfl) (by kernel_rfl) (fun _ _ _ h => h) (Or.inr ⟨by kernel_rfl, rfl⟩) ?_
                    change wpAny _ _ _ _ _ _ (Act.put _ (some 58) _) _
                    refine wpAny_take (i := 13) (v := ?_) rfl (by kernel_rfl) (by kernel_rfl) (by kernel_rfl) (fun _ _ _ h => h) (Or.inl ⟨by kernel_rfl, ?_⟩) ?_
                    rotate_left 1
                    · (intro w; first | (go_simp; done) | (go_simp; with_reducible rfl))
                    change wpAny _ _ _ _ _ _ (Act.put _ (some 59) _) _
                    refine wpAny_take (i := 14) (v := ?_) rfl (by kernel_rfl) (by kernel_rfl) (by kernel_rfl) (fun _ _ _ h => h) (Or.inl ⟨by kernel_rfl, ?_⟩) ?_
                    rotate_left 1
                    · (intro w; first | (go_simp; done) | (go_simp; with_reducible rfl))
                    change wpAny _ _ _ _ _ _ (Act.put _ (some 60) _) _
                    refine wpAny_take (i := 15) (v := ?_) rfl (by kernel_rfl) (by kernel_rfl) (by kernel_rfl) (fun _ _ _ h => h) (Or.inl ⟨by kernel_rfl, ?_⟩) ?_
                    rotate_left 1
                    · (intro w; first | (go_simp; done) | (go_simp; with_reducible rfl))
                    change wpAny _ _ _ _ _ _ (Act.put _ (some 9) _) _
                    refine wpAny_done (by kernel_rfl) ?_ _
                    go_simp
                    have HG := Lib.hid hg.2.2.2.2
                    clear hg HD HC1
                    go_wp2
                    go_roundg (n + 1 - (j + 1))
                    case measure => omega
                    case rel => exact ⟨j + 1, by rw [HV.out], by simp, by omega, rfl, HG⟩
                  | true =>
                    rw [hb1] at HC1
                    obtain ⟨b2, hb2⟩ : ∃ b2, fitsA Y (L.drop j) = b2 := ⟨_, rfl⟩
                    have HV : Hid (partB X Y L (j + 1) = b2) := Lib.hid (by rw [partB_more, hv, hb1, hb2]; rfl)
                    rw [hb2] at HC2
                    clear hb1 hv hb2
                    go_wp2_with fail
                    refine wp_region_any (by kernel_rfl) ?_
                    try (change wpAny _ _ _ _ _ _ _ (World.drew _))
                    refine wpAny_take (i := 0) (v := ?_) rfl (by kernel_rfl) (by kernel_rfl) (by kernel_rfl) (fun _ _ _ h => h) (Or.inl ⟨by kernel_rfl, ?_⟩) ?_
                    rotate_left 1
                    · (intro w; first | (go_simp; done) | (go_simp; with_reducible rfl))
                    change wpAny _ _ _ _ _ _ (Act.put _ (some 46) _) _
                    refine wpAny_take (i := 1) (v := ?_) rfl (by kernel_rfl) (by kernel_rfl) (by kernel_rfl) (fun _ _ _ h => h) (Or.inl ⟨by kernel_rfl, ?_⟩) ?_
                    rotate_left 1
                    · (intro w; first | (go_simp; done) | (go_simp; with_reducible rfl))
                    change wpAny _ _ _ _ _ _ (Act.put _ (some 47) _) _
                    refine wpAny_take (i := 3) (v := ?_) rfl (by kernel_rfl) (by kernel_rfl) (by kernel_rfl) (fun _ _ _ h => h) (Or.inl ⟨by kernel_rfl, ?_⟩) ?_
                    rotate_left 1
                    · (intro w; first | (go_simp; done) | (go_simp; with_reducible rfl))
                    change wpAny _ _ _ _ _ _ (Act.put _ (some 49) _) _
                    refine wpAny_take (i := 4) (v := ?_) rfl (by kernel_rfl) (by kernel_rfl) (by kernel_rfl) (fun _ _ _ h => h) (Or.inl ⟨by kernel_rfl, ?_⟩) ?_
                    rotate_left 1
                    · (intro w; first | (go_simp; done) | (go_simp; with_reducible rfl))
                    change wpAny _ _ _ _ _ _ (Act.put _ (some 50) _) _
                    refine wpAny_take (i := 5) (v := ?_) rfl (by kernel_rfl) (by kernel_rfl) (by kernel_rfl) (fun _ _ _ h => h) (Or.inl ⟨by kernel_rfl, ?_⟩) ?_
                    rotate_left 1
                    · (intro w; first | (go_simp; done) | (go_simp; with_reducible rfl))
                    change wpAny _ _ _ _ _ _ (Act.put _ (some 51) _) _
                    refine wpAny_ready (rs := [2]) (by kernel_rfl) (by simp) ?_
                    refine AllReady.cons rfl (fun K hK => ?_) AllReady.nil
                    go_simp
                    refine hK _ _ ?_
                    clear hK K
                    refine wpAny_ready (rs := [6]) (by kernel_rfl) (by simp) ?_
                    refine AllReady.cons rfl (fun K hK => ?_) AllReady.nil
                    go_simp
                    go_wp2_with (refine (HC1.out _ HD).mono ?_; rintro e w5 ⟨rfl, hg⟩; obtain ⟨x0, x1, y0, y1, z0⟩ := hg; have hg5 := Lib.hid (show w5.cell? ⟨w.heap.size, 0, none⟩ = some (.bool false) ∧ w5.cell? ⟨w.heap.size, 1, none⟩ = some (.slice o k cap) ∧ w5.cell? ⟨w.heap.size + 1, 0, none⟩ = some (.bool false) ∧ w5.cell? ⟨w.heap.size + 1, 1, none⟩ = some (.slice o2 k2 cap2) ∧ Below w7.heap.size w7 w5 from ⟨x0, x1, y0, y1, z0⟩))
                    refine wpAny_take (i := 7) (v := ?_) rfl (by kernel_rfl) (by kernel_rfl) (by kernel_rfl) (fun _ _ _ h => h) (Or.inl ⟨by kernel_rfl, ?_⟩) ?_
                    rotate_left 1
                    · (intro w; first | (go_simp; done) | (go_simp; with_reducible rfl))
                    change wpAny _ _ _ _ _ _ (Act.put _ (some 53) _) _
                    refine wpAny_take (i := 9) (v := ?_) rfl (by kernel_rfl) (by kernel_rfl) (by kernel_rfl) (fun _ _ _ h => h) (Or.inl ⟨by kernel_rfl, ?_⟩) ?_
                    rotate_left 1
                    · (intro w; first | (go_simp; done) | (go_simp; with_reducible rfl))
                    change wpAny _ _ _ _ _ _ (Act.put _ (some 55) _) _
                    refine wpAny_take (i := 10) (v := ?_) rfl (by kernel_rfl) (by kernel_rfl) (by kernel_rfl) (fun _ _ _ h => h) (Or.inl ⟨by kernel_rfl, ?_⟩) ?_
                    rotate_left 1
                    · (intro w; first | (go_simp; done) | (go_simp; with_reducible rfl))
                    change wpAny _ _ _ _ _ _ (Act.put _ (some 56) _) _
                    refine wpAny_take (i := 11) (v := ?_) rfl (by kernel_rfl) (by kernel_rfl) (by kernel_rfl) (fun _ _ _ h => h) (Or.inl ⟨by kernel_rfl, ?_⟩) ?_
                    rotate_left 1
                    · (intro w; first | (go_simp; done) | (go_simp; with_reducible rfl))
                    change wpAny _ _ _ _ _ _ (Act.put _ (some 57) _) _
                    refine wpAny_ready (rs := [8]) (by kernel_rfl) (by simp) ?_
                    refine AllReady.cons rfl (fun K hK => ?_) AllReady.nil
                    go_simp
                    refine hK _ _ ?_
                    clear hK K
                    refine wpAny_ready (rs := [12]) (by kernel_rfl) (by simp) ?_
                    refine AllReady.cons rfl (fun K hK => ?_) AllReady.nil
                    go_simp
                    go_wp2_with (refine (HC2.out _ hg5.out).mono ?_; rintro e w6 ⟨rfl, hg⟩)
                    refine wpAny_take (i := 13) (v := ?_) rfl (by kernel_rfl) (by kernel_rfl) (by kernel_rfl) (fun _ _ _ h => h) (Or.inl ⟨by kernel_rfl, ?_⟩) ?_
                    rotate_left 1
                    · (intro w; first | (go_simp; done) | (go_simp; with_reducible rfl))
                    change wpAny _ _ _ _ _ _ (Act.put _ (some 59) _) _
                    refine wpAny_take (i := 14) (v := ?_) rfl (by kernel_rfl) (by kernel_rfl) (by kernel_rfl) (fun _ _ _ h => h) (Or.inl ⟨by kernel_rfl, ?_⟩) ?_
                    rotate_left 1
                    · (intro w; first | (go_simp; done) | (go_simp; with_reducible rfl))
                    change wpAny _ _ _ _ _ _ (Act.put _ (some 60) _) _
                    refine wpAny_take (i := 15) (v := ?_) rfl (by kernel_rfl) (by kernel_rfl) (by kernel_rfl) (fun _ _ _ h => h) (Or.inl ⟨by kernel_rfl, ?_⟩) ?_
                    rotate_left 1
                    · (intro w; first | (go_simp; done) | (go_simp; with_reducible rfl))
                    change wpAny _ _ _ _ _ _ (Act.put _ (some 9) _) _
                    refine wpAny_done (by kernel_rfl) ?_ _
                    go_simp
                    have HG := Lib.hid hg.2.2.2.2
                    clear hg HD HC1 HC2
                    go_wp2
                    go_roundg (n + 1 - (j + 1))
                    case measure => omega
                    case rel => exact ⟨j + 1, by rw [HV.out], by simp, by omega, rfl, HG⟩
end Go.Proofs.YtcgljfmknggdoaaGreatDoor
