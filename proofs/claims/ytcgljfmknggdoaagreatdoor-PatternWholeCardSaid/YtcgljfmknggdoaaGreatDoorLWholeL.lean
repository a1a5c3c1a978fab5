/- PatternWhole. -/
import Derived.Test.YtcgljfmknggdoaaGreatDoorLJoinsL
namespace Go.Proofs.YtcgljfmknggdoaaGreatDoor
open Go.RowKit Go.Shelf Go.Maps
attribute [local go_sem] Oper.semAt_some

/-- Does what stands between one of the first places and a place fit whole? (With Start: from the first one.) -/
def behB (st : Bool) (X : List ItemP) (L : List Int) (a j : Nat) : Bool := (List.range j).any fun i => fitsA X (segP L i a) && (!st || decide (i = 0))
theorem behB_more (st : Bool) (X : List ItemP) (L : List Int) (a j : Nat) : behB st X L a (j + 1) = (behB st X L a j || (fitsA X (segP L j a) && (!st || decide (j = 0)))) := by
  unfold behB
  rw [List.range_succ, List.any_append]
  simp
theorem behB_all {st : Bool} {X : List ItemP} {L : List Int} {a : Nat} (ha : a ≤ L.length) : behB st X L a (a + 1) = behindA st X L ((a : Nat) : Int) := by
  unfold behB behindA fitsA
  rw [decide_eq_true (show (0 : Int) ≤ ((a : Nat) : Int) ∧ ((a : Nat) : Int) ≤ (L.length : Nat) by omega), Bool.and_true, Int.toNat_natCast]
  cases rightB X 32 with
  | false => simp
  | true =>
    cases st with
    | false => simp
    | true =>
      rw [Bool.true_and, if_pos rfl, Bool.eq_iff_iff, List.any_eq_true]
      constructor
      · rintro ⟨i, _, h⟩
        simp only [Bool.true_and, Bool.not_true, Bool.false_or, Bool.and_eq_true, decide_eq_true_eq] at h
        obtain ⟨h, rfl⟩ := h
        exact h
      · intro h
        exact ⟨0, List.mem_range.2 (by omega), by simp [h]⟩
/-- Does what stands from a place on, up to one of the next, fit whole? (With Start: from the first place.) -/
def aheB (st : Bool) (X : List ItemP) (L : List Int) (a j : Nat) : Bool := (List.range j).any fun i => fitsA X (segP L a (a + i)) && (!st || decide (a = 0))
theorem aheB_more (st : Bool) (X : List ItemP) (L : List Int) (a j : Nat) : aheB st X L a (j + 1) = (aheB st X L a j || (fitsA X (segP L a (a + j)) && (!st || decide (a = 0)))) := by
  unfold aheB
  rw [List.range_succ, List.any_append]
  simp
theorem aheB_all {st : Bool} {X : List ItemP} {L : List Int} {a : Nat} (ha : a ≤ L.length) : aheB st X L a (L.length - a + 1) = aheadA st X L ((a : Nat) : Int) := by
  unfold aheB aheadA fitsA
  rw [decide_eq_true (show (0 : Int) ≤ ((a : Nat) : Int) ∧ ((a : Nat) : Int) ≤ (L.length : Nat) by omega), Bool.and_true, Int.toNat_natCast]
  have e : decide (((a : Nat) : Int) = 0) = decide (a = 0) := by
    rw [Bool.eq_iff_iff, decide_eq_true_eq, decide_eq_true_eq]; omega
  rw [e]
  cases rightB X 32 with
  | false => simp
  | true =>
    cases (!st || decide (a = 0)) with
    | false => simp
    | true =>
      rw [Bool.true_and, Bool.true_and, Bool.eq_iff_iff, ahead_some ha, List.any_eq_true]
      constructor
      · rintro ⟨i, hi, h⟩
        have := List.mem_range.1 hi
        simp only [Bool.true_and, Bool.and_true] at h
        exact ⟨a + i, by omega, by omega, h⟩
      · rintro ⟨i, h1, h2, h⟩
        refine ⟨i - a, List.mem_range.2 (by omega), ?_⟩
        rw [show a + (i - a) = i from by omega, h]
        rfl
theorem behindA_off {st : Bool} {X : List ItemP} {L : List Int} {at_ : Int} (h : ¬ (0 ≤ at_ ∧ at_ ≤ (L.length : Nat))) : behindA st X L at_ = false := by
  unfold behindA
  rw [decide_eq_false h, Bool.and_false]
  rfl
/-- What stands between two places of a list that lies. -/
theorem num_seg {W : World} {lo : Option Addr} {l : List Int} {lcap : Nat} (h : NumsAt W lo l) (hc : l.length ≤ lcap) (i j : Nat) : NumsAt W (dropO lo lcap i) (segP l i j) := by
  have h1 := num_take h j
  have h2 := h1.dropQ (lcap := lcap) (by rw [List.length_take]; omega) i
  rw [seg_take] at h2
  exact h2
set_option maxRecDepth 100000 in
set_option maxHeartbeats 100000000 in
theorem whole_anyL (st : Bool) (xs : List ItemP) (o : Option Addr) (cap : Nat) (l : List Int) (lo : Option Addr) (lcap : Nat) (at_ : Int) (hxc : xs.length ≤ cap) (hlc : l.length ≤ lcap) (w : World) (aU aS : Addr) (hQ : GlobQ w aU aS) (hG : KGlob w) (hX : ItsInQ w o xs) (hL : NumsInQ w lo l ∧ (lo = none → lcap = 0) ∧ ∀ p, lo = some p → 0 < lcap → p.spot = none) :
    Calls Tryz.prog 6 #[patV st o xs.length cap, .slice lo l.length lcap, .int .i64 at_] w fun e w' => e = .returned (.bool true) ∧ Below w.heap.size w w' := by
  obtain ⟨wa, hwa⟩ : ∃ wa, w.alloc (patO st o xs.length cap) = wa := ⟨_, rfl⟩
  have ba : Below w.heap.size w wa := by rw [← hwa]; exact (Below.refl _ _).alloc (Nat.le_refl _) _
  have ra : wa.heap[w.heap.size]? = some (patO st o xs.length cap) := by rw [← hwa]; exact heap_alloc_new _ _
  have HSH := Lib.hid (shownQ_any wa aU aS (hQ.below ba) (hG.below ba))
  have HCU := Lib.hid (fun W => cutP_any st o xs cap hxc W)
  have HFE := Lib.hid (fun W => fewL_any lo l lcap hlc W)
  obtain ⟨L, hLL⟩ : ∃ L, l.take 40 = L := ⟨_, rfl⟩
  obtain ⟨X, hXX⟩ : ∃ X, xs.take 12 = X := ⟨_, rfl⟩
  have h40 : L.length ≤ 40 := by rw [← hLL, List.length_take]; omega
  have h12 : X.length ≤ 12 := by rw [← hXX, List.length_take]; omega
  have hlcap : L.length ≤ lcap := by rw [← hLL, List.length_take]; omega
  have HAX : Hid (∀ W, Below w.heap.size w W → AtI W o X) := Lib.hid fun W hb => by rw [← hXX]; exact (hX.1.below hb).take 12
  have HLT : Hid (∀ W, Below w.heap.size w W → NumsAt W lo L) := Lib.hid fun W hb => by
    rw [← hLL]
    exact num_take (hL.1.1.below hb) 40
  have HSP := Lib.hid hL.2
  rw [hLL] at HFE
  rw [hXX] at HCU
  have KF : Hid (∀ (i j : Nat) W, i ≤ j → j ≤ L.length → Below w.heap.size w W → Calls Tryz.prog 15 #[patV st o X.length cap, .slice (dropO lo lcap i) (j - i) (lcap - i)] W fun e w' => e = .returned (.bool (fitsA X (segP L i j))) ∧ Below W.heap.size W w') := Lib.hid fun i j W hi hj hb => by
    have hsl := segP_len (l := L) hi hj
    have := Fits_anyQ st o (dropO lo lcap i) X (segP L i j) cap (lcap - i) (by omega) (by rw [hsl]; omega) W (HAX.out W hb) (num_seg (HLT.out W hb) hlcap i j)
    rw [hsl] at this
    exact this
  have KB : Hid (∀ W, Below w.heap.size w W → Calls Tryz.prog 17 #[patV st o X.length cap, .slice lo L.length lcap, .int .i64 at_] W fun e w' => e = .returned (.bool (behindA st X L at_)) ∧ Below W.heap.size W w') := Lib.hid fun W hb =>
    Behind_anyQ st o lo X L cap lcap at_ (by omega) (by omega) hlcap W (HAX.out W hb) (HLT.out W hb)
  have KA : Hid (∀ W, Below w.heap.size w W → Calls Tryz.prog 19 #[patV st o X.length cap, .slice lo L.length lcap, .int .i64 at_] W fun e w' => e = .returned (.bool (aheadA st X L at_)) ∧ Below W.heap.size W w') := Lib.hid fun W hb =>
    Ahead_anyQ st o lo X L cap lcap at_ (by omega) (by omega) hlcap hL.2.1 hL.2.2 W (HAX.out W hb) (HLT.out W hb)
  obtain ⟨n, hn⟩ : ∃ n, L.length = n := ⟨_, rfl⟩
  obtain ⟨m, hm⟩ : ∃ m, l.length = m := ⟨_, rfl⟩
  obtain ⟨k, hk⟩ : ∃ k, X.length = k := ⟨_, rfl⟩
  obtain ⟨q, hq⟩ : ∃ q, xs.length = q := ⟨_, rfl⟩
  have HN := Lib.hid hn
  rw [hn, hm] at HFE
  rw [hk, hq] at HCU
  rw [hn] at KB KA KF hlcap h40
  rw [hk] at KB KA KF
  rw [hq] at ra hwa hxc ⊢
  rw [hm]
  have HBA := Lib.hid ba
  have HRA := Lib.hid ra
  have HWA := Lib.hid hwa
  clear hQ hG hX hL hLL hXX hn hm hk hq ba ra hwa hlc hxc HLT h12
  by_cases h1 : at_ < 0
  · go_enter Tryz.func6, Tryz.ntmps6
    go_wp2_with fail
    rw [HWA.out]
    refine HSH.out.mono ?_
    rintro e w1 ⟨rfl, b1⟩
    have HB1 := Lib.hid (HBA.out.trans (b1.mono HBA.out.size))
    have HR1 := Lib.hid (row_below HRA.out b1)
    obtain ⟨p0, p1⟩ := pat_cells HR1.out
    clear b1
    go_wp2_with fail
    refine (HCU.out w1).mono ?_
    rintro e w2 ⟨rfl, b2⟩
    have B2 := HB1.out.trans (b2.mono HB1.out.size)
    have r2 := row_below HR1.out b2
    obtain ⟨t0, t1⟩ := pat_cells r2
    have f0 := frozen_of_row w2 w.heap.size 0 _ _ r2
    have f1 := frozen_of_row w2 w.heap.size 1 _ _ r2
    obtain ⟨r3, m3⟩ := two_set (.bool st) (.slice o k cap) r2
    obtain ⟨w3, hw3⟩ : ∃ w3, (w2.setCell ⟨w.heap.size, 0, none⟩ (.bool st)).setCell ⟨w.heap.size, 1, none⟩ (.slice o k cap) = w3 := ⟨_, rfl⟩
    rw [hw3] at r3 m3
    have HB3 := Lib.hid (Moves.below B2 B2.size m3 (fun k hk => by omega))
    have HR3 := Lib.hid r3
    have HW3 := Lib.hid hw3
    obtain ⟨p0, p1⟩ := pat_cells r3
    clear b2 B2 r2 r3 m3 hw3
    go_wp2_with fail
    rw [HW3.out]
    refine (HFE.out w3).mono ?_
    rintro e _ ⟨rfl, rfl⟩
    have KB' := Lib.hid (KB.out w3 HB3.out)
    have e1 : behindA st X L at_ = false := behindA_off (by rw [HN.out]; omega)
    have e2 : aheadA st X L at_ = false := aheadA_place (by rw [HN.out]; omega)
    rw [e1] at KB'
    rw [e2] at KA
    clear e1 e2 KF
    go_wp2_with fail
    refine KB'.out.mono ?_
    rintro e w5 ⟨rfl, b5⟩
    have HB5 := Lib.hid (HB3.out.trans (b5.mono HB3.out.size))
    have KA' := Lib.hid (KA.out w5 HB5.out)
    obtain ⟨y0, y1⟩ := pat_cells (row_below HR3.out b5)
    clear b5
    go_wp2_with fail
    refine KA'.out.mono ?_
    rintro e w6 ⟨rfl, b6⟩
    have HB6 := Lib.hid (HB5.out.trans (b6.mono HB5.out.size))
    clear b6
    go_wp2
    first | exact ⟨rfl, HB6.out⟩ | (go_ret; exact ⟨rfl, HB6.out⟩)
  by_cases h2 : ((n : Nat) : Int) < at_
  · go_enter Tryz.func6, Tryz.ntmps6
    go_wp2_with fail
    rw [HWA.out]
    refine HSH.out.mono ?_
    rintro e w1 ⟨rfl, b1⟩
    have HB1 := Lib.hid (HBA.out.trans (b1.mono HBA.out.size))
    have HR1 := Lib.hid (row_below HRA.out b1)
    obtain ⟨p0, p1⟩ := pat_cells HR1.out
    clear b1
    go_wp2_with fail
    refine (HCU.out w1).mono ?_
    rintro e w2 ⟨rfl, b2⟩
    have B2 := HB1.out.trans (b2.mono HB1.out.size)
    have r2 := row_below HR1.out b2
    obtain ⟨t0, t1⟩ := pat_cells r2
    have f0 := frozen_of_row w2 w.heap.size 0 _ _ r2
    have f1 := frozen_of_row w2 w.heap.size 1 _ _ r2
    obtain ⟨r3, m3⟩ := two_set (.bool st) (.slice o k cap) r2
    obtain ⟨w3, hw3⟩ : ∃ w3, (w2.setCell ⟨w.heap.size, 0, none⟩ (.bool st)).setCell ⟨w.heap.size, 1, none⟩ (.slice o k cap) = w3 := ⟨_, rfl⟩
    rw [hw3] at r3 m3
    have HB3 := Lib.hid (Moves.below B2 B2.size m3 (fun k hk => by omega))
    have HR3 := Lib.hid r3
    have HW3 := Lib.hid hw3
    obtain ⟨p0, p1⟩ := pat_cells r3
    clear b2 B2 r2 r3 m3 hw3
    go_wp2_with fail
    rw [HW3.out]
    refine (HFE.out w3).mono ?_
    rintro e _ ⟨rfl, rfl⟩
    have KB' := Lib.hid (KB.out w3 HB3.out)
    have e1 : behindA st X L at_ = false := behindA_off (by rw [HN.out]; omega)
    have e2 : aheadA st X L at_ = false := aheadA_place (by rw [HN.out]; omega)
    rw [e1] at KB'
    rw [e2] at KA
    clear e1 e2 KF
    go_wp2_with fail
    refine KB'.out.mono ?_
    rintro e w5 ⟨rfl, b5⟩
    have HB5 := Lib.hid (HB3.out.trans (b5.mono HB3.out.size))
    have KA' := Lib.hid (KA.out w5 HB5.out)
    obtain ⟨y0, y1⟩ := pat_cells (row_below HR3.out b5)
    clear b5
    go_wp2_with fail
    refine KA'.out.mono ?_
    rintro e w6 ⟨rfl, b6⟩
    have HB6 := Lib.hid (HB5.out.trans (b6.mono HB5.out.size))
    clear b6
    go_wp2
    first | exact ⟨rfl, HB6.out⟩ | (go_ret; exact ⟨rfl, HB6.out⟩)
  obtain ⟨a, rfl⟩ := Int.eq_ofNat_of_zero_le (show 0 ≤ at_ by omega)
  have han : a ≤ n := by omega
  have ha1 : ¬ ((a : Nat) : Int) < 0 := by omega
  have hac : a ≤ lcap := by omega
  have HBE := Lib.hid (behB_all (st := st) (X := X) (L := L) (a := a) (by rw [HN.out]; exact han))
  have HAE := Lib.hid (aheB_all (st := st) (X := X) (L := L) (a := a) (by rw [HN.out]; exact han))
  rw [HN.out] at HAE
  go_enter Tryz.func6, Tryz.ntmps6
  go_wp2_with fail
  rw [HWA.out]
  refine HSH.out.mono ?_
  rintro e w1 ⟨rfl, b1⟩
  have HB1 := Lib.hid (HBA.out.trans (b1.mono HBA.out.size))
  have HR1 := Lib.hid (row_below HRA.out b1)
  obtain ⟨p0, p1⟩ := pat_cells HR1.out
  clear b1
  go_wp2_with fail
  refine (HCU.out w1).mono ?_
  rintro e w2 ⟨rfl, b2⟩
  have B2 := HB1.out.trans (b2.mono HB1.out.size)
  have r2 := row_below HR1.out b2
  obtain ⟨t0, t1⟩ := pat_cells r2
  have f0 := frozen_of_row w2 w.heap.size 0 _ _ r2
  have f1 := frozen_of_row w2 w.heap.size 1 _ _ r2
  obtain ⟨r3, m3⟩ := two_set (.bool st) (.slice o k cap) r2
  obtain ⟨w3, hw3⟩ : ∃ w3, (w2.setCell ⟨w.heap.size, 0, none⟩ (.bool st)).setCell ⟨w.heap.size, 1, none⟩ (.slice o k cap) = w3 := ⟨_, rfl⟩
  rw [hw3] at r3 m3
  have HB3 := Lib.hid (Moves.below B2 B2.size m3 (fun k hk => by omega))
  have HR3 := Lib.hid r3
  have HW3 := Lib.hid hw3
  obtain ⟨p0, p1⟩ := pat_cells r3
  clear b2 B2 r2 r3 m3 hw3
  go_wp2_with fail
  rw [HW3.out]
  refine (HFE.out w3).mono ?_
  rintro e _ ⟨rfl, rfl⟩
  clear p0 p1 t0 t1 f0 f1
  go_wp2_with fail
  have hda : decide (((a : Nat) : Int) < 0) = false := decide_eq_false (by omega)
  have hdn : decide (n < a) = false := decide_eq_false (by omega)
  rw [hda, hdn]
  clear hda hdn
  go_loopg [8, 10] (a + 1) (fun k' v8 v10 wr => ∃ (i : Nat), v8 = .bool (behB st X L a i) ∧ v10 = .int .i64 (i : Nat) ∧ i ≤ a + 1 ∧ a + 1 - i = k' ∧ Hid (Below w3.heap.size w3 wr))
  case atStart => exact ⟨0, rfl, rfl, Nat.zero_le _, rfl, Lib.hid (Below.refl _ _)⟩
  case round =>
    obtain ⟨i, rfl, rfl, hi, rfl, HB⟩ := hrel
    have hi6 : i < 1000000 := by omega
    have HBW := Lib.hid (HB3.out.trans (HB.out.mono HB3.out.size))
    obtain ⟨p0, p1⟩ := pat_cells (row_below HR3.out HB.out)
    rcases Nat.lt_or_ge a i with hgt | hle
    · obtain rfl : i = a + 1 := by omega
      rw [HBE.out]
      have hl1 : ¬ a + 1 ≤ a := by omega
      have hl2 : ¬ ((a + 1 : Nat) : Int) ≤ ((a : Nat) : Int) := by omega
      have hl3 : ¬ ((a : Nat) : Int) + 1 ≤ ((a : Nat) : Int) := by omega
      obtain ⟨b, hb⟩ : ∃ b, behindA st X L ((a : Nat) : Int) = b := ⟨_, rfl⟩
      rw [hb] at KB ⊢
      clear hb p0 p1
      go_wp2_with fail
      go_loopg [9, 11] (n + 1 - a) (fun k' v9 v11 wr => ∃ (h : Nat), v9 = .bool (aheB st X L a (h - a)) ∧ v11 = .int .i64 (h : Nat) ∧ a ≤ h ∧ h ≤ n + 1 ∧ n + 1 - h = k' ∧ Hid (Below w3.heap.size w3 wr))
      case atStart => exact ⟨a, by rw [Nat.sub_self]; rfl, rfl, Nat.le_refl _, by omega, rfl, HB⟩
      case round =>
        obtain ⟨h, rfl, rfl, hah, hhn, rfl, HB2⟩ := hrel
        have hh6 : h < 1000000 := by omega
        have HBW2 := Lib.hid (HB3.out.trans (HB2.out.mono HB3.out.size))
        obtain ⟨p0, p1⟩ := pat_cells (row_below HR3.out HB2.out)
        clear hl1 hl2 hl3 hgt hi hi6
        rcases Nat.lt_or_ge n h with hgt2 | hle2
        · obtain rfl : h = n + 1 := by omega
          have hfin : aheB st X L a (n + 1 - a) = aheadA st X L ((a : Nat) : Int) := by rw [show n + 1 - a = n - a + 1 from by omega]; exact HAE.out
          rw [hfin]
          have hl1 : ¬ n + 1 ≤ n := by omega
          have hl2 : ¬ ((n + 1 : Nat) : Int) ≤ ((n : Nat) : Int) := by omega
          have hl3 : ¬ ((n : Nat) : Int) + 1 ≤ ((n : Nat) : Int) := by omega
          obtain ⟨c, hc⟩ : ∃ c, aheadA st X L ((a : Nat) : Int) = c := ⟨_, rfl⟩
          rw [hc] at KA ⊢
          have KB' := Lib.hid (KB.out wr HBW2.out)
          clear hc hfin KF
          cases b <;> cases c <;>
          · go_wp2_with fail
            refine KB'.out.mono ?_
            rintro e w5 ⟨rfl, b5⟩
            have HB5 := Lib.hid (HBW2.out.trans (b5.mono HBW2.out.size))
            have KA' := Lib.hid (KA.out w5 HB5.out)
            obtain ⟨y0, y1⟩ := pat_cells (row_below HR3.out (HB2.out.trans (b5.mono HB2.out.size)))
            clear b5 p0 p1
            go_wp2_with fail
            refine KA'.out.mono ?_
            rintro e w6 ⟨rfl, b6⟩
            have HB6 := Lib.hid (HB5.out.trans (b6.mono HB5.out.size))
            clear b6
            go_wp2
            first | exact ⟨rfl, HB6.out⟩ | (go_ret; exact ⟨rfl, HB6.out⟩)
        · have hhc : h ≤ lcap := by omega
          cases hv : aheB st X L a (h - a) with
          | true =>
            have HV : Hid (aheB st X L a (h + 1 - a) = true) := Lib.hid (by rw [show h + 1 - a = (h - a) + 1 from by omega, aheB_more, show a + (h - a) = h from by omega, hv]; rfl)
            clear hv
            go_wp2_with fail
            go_region
            all_goals
              go_wp2
              go_roundg (n + 1 - (h + 1))
              case measure => omega
              case rel => exact ⟨h + 1, by rw [HV.out], by simp, by omega, by omega, rfl, Lib.hid HB2.out.drew⟩
          | false =>
            have HC1 : Hid (Calls Tryz.prog 15 #[patV st o k cap, .slice (dropO lo lcap a) (h - a) (lcap - a)] wr.drew fun e w' => e = .returned (.bool (fitsA X (segP L a h))) ∧ w'.cell? ⟨w.heap.size, 0, none⟩ = some (.bool st) ∧ w'.cell? ⟨w.heap.size, 1, none⟩ = some (.slice o k cap) ∧ Below w3.heap.size w3 w') := Lib.hid ((KF.out a h wr.drew hah hle2 HBW2.out.drew).mono fun e w' h => ⟨h.1, cell_keepQ (w := wr.drew) h.2 p0, cell_keepQ (w := wr.drew) h.2 p1, HB2.out.drew.trans (h.2.mono HB2.out.drew.size)⟩)
            cases lo with
            | none =>
              have hc0 := HSP.out.1 rfl
              subst hc0
              obtain rfl : a = 0 := by omega
              obtain rfl : h = 0 := by omega
              obtain rfl : n = 0 := by omega
              replace HC1 : Hid (Calls Tryz.prog 15 #[patV st o k cap, .slice none 0 0] wr.drew fun e w' => e = .returned (.bool (fitsA X (segP L 0 0))) ∧ w'.cell? ⟨w.heap.size, 0, none⟩ = some (.bool st) ∧ w'.cell? ⟨w.heap.size, 1, none⟩ = some (.slice o k cap) ∧ Below w3.heap.size w3 w') := HC1
              cases hb1 : fitsA X (segP L 0 0) with
              | false =>
                rw [hb1] at HC1
                have HV : Hid (aheB st X L 0 (0 + 1 - 0) = false) := Lib.hid (by rw [show 0 + 1 - 0 = (0 - 0) + 1 from by omega, aheB_more, show 0 + (0 - 0) = 0 from by omega, hv, hb1]; rfl)
                clear hb1 hv
                go_wp2_with fail
                refine wp_region_any (by kernel_rfl) ?_
                try (change wpAny _ _ _ _ _ _ _ (World.drew _))
                refine wpAny_take (i := 0) (v := ?_) rfl (by kernel_rfl) (by kernel_rfl) (by kernel_rfl) (fun _ _ _ h => h) (Or.inl ⟨by kernel_rfl, ?_⟩) ?_
                rotate_left 1
                · (intro w; first | (go_simp; done) | (go_simp; with_reducible rfl))
                change wpAny _ _ _ _ _ _ (Act.put _ (some 70) _) _
                refine wpAny_take (i := 1) (v := ?_) rfl (by kernel_rfl) (by kernel_rfl) (by kernel_rfl) (fun _ _ _ h => h) (Or.inl ⟨by kernel_rfl, ?_⟩) ?_
                rotate_left 1
                · (intro w; first | (go_simp; done) | (go_simp; with_reducible rfl))
                change wpAny _ _ _ _ _ _ (Act.put _ (some 71) _) _
                refine wpAny_take (i := 3) (v := ?_) rfl (by kernel_rfl) (by kernel_rfl) (by kernel_rfl) (fun _ _ _ h => h) (Or.inl ⟨by kernel_rfl, ?_⟩) ?_
                rotate_left 1
                · (intro w; first | (go_simp; done) | (go_simp; with_reducible rfl))
                change wpAny _ _ _ _ _ _ (Act.put _ (some 73) _) _
                refine wpAny_take (i := 4) (v := ?_) rfl (by kernel_rfl) (by kernel_rfl) (by kernel_rfl) (fun _ _ _ h => h) (Or.inl ⟨by kernel_rfl, ?_⟩) ?_
                rotate_left 1
                · (intro w; first | (go_simp; done) | (go_simp; with_reducible rfl))
                change wpAny _ _ _ _ _ _ (Act.put _ (some 74) _) _
                refine wpAny_take (i := 5) (v := ?_) rfl (by kernel_rfl) (by kernel_rfl) (by kernel_rfl) (fun _ _ _ h => h) (Or.inl ⟨by kernel_rfl, ?_⟩) ?_
                rotate_left 1
                · (intro w; first | (go_simp; done) | (go_simp; with_reducible rfl))
                change wpAny _ _ _ _ _ _ (Act.put _ (some 75) _) _
                refine wpAny_take (i := 6) (v := ?_) rfl (by kernel_rfl) (by kernel_rfl) (by kernel_rfl) (fun _ _ _ h => h) (Or.inl ⟨by kernel_rfl, ?_⟩) ?_
                rotate_left 1
                · (intro w; first | (go_simp; done) | (go_simp; with_reducible rfl))
                change wpAny _ _ _ _ _ _ (Act.put _ (some 76) _) _
                refine wpAny_ready (rs := [2]) (by kernel_rfl) (by simp) ?_
                refine AllReady.cons rfl (fun K hK => ?_) AllReady.nil
                go_simp
                refine hK _ _ ?_
                clear hK K
                refine wpAny_ready (rs := [7]) (by kernel_rfl) (by simp) ?_
                refine AllReady.cons rfl (fun K hK => ?_) AllReady.nil
                go_simp
                go_wp2_with (refine HC1.out.mono ?_; rintro e w5 ⟨rfl, hg⟩; obtain ⟨y0, y1, hg2⟩ := hg)
                refine wpAny_take (i := 8) (v := ?_) rfl (by kernel_rfl) (by kernel_rfl) (by kernel_rfl) (fun _ _ _ h => h) (Or.inl ⟨by kernel_rfl, ?_⟩) ?_
                rotate_left 1
                · (intro w; first | (go_simp; done) | (go_simp; with_reducible rfl))
                change wpAny _ _ _ _ _ _ (Act.put _ (some 78) _) _
                refine wpAny_take (i := 9) (v := undef) rfl (by kernel_rfl) (by kernel_rfl) (by kernel_rfl) (fun _ _ _ h => h) (Or.inr ⟨by kernel_rfl, rfl⟩) ?_
                change wpAny _ _ _ _ _ _ (Act.put _ (some 79) _) _
                refine wpAny_take (i := 10) (v := undef) rfl (by kernel_rfl) (by kernel_rfl) (by kernel_rfl) (fun _ _ _ h => h) (Or.inr ⟨by kernel_rfl, rfl⟩) ?_
                change wpAny _ _ _ _ _ _ (Act.put _ (some 80) _) _
                refine wpAny_take (i := 11) (v := undef) rfl (by kernel_rfl) (by kernel_rfl) (by kernel_rfl) (fun _ _ _ h => h) (Or.inr ⟨by kernel_rfl, rfl⟩) ?_
                change wpAny _ _ _ _ _ _ (Act.put _ (some 81) _) _
                refine wpAny_take (i := 12) (v := undef) rfl (by kernel_rfl) (by kernel_rfl) (by kernel_rfl) (fun _ _ _ h => h) (Or.inr ⟨by kernel_rfl, rfl⟩) ?_
                change wpAny _ _ _ _ _ _ (Act.put _ (some 82) _) _
                refine wpAny_take (i := 13) (v := undef) rfl (by kernel_rfl) (by kernel_rfl) (by kernel_rfl) (fun _ _ _ h => h) (Or.inr ⟨by kernel_rfl, rfl⟩) ?_
                change wpAny _ _ _ _ _ _ (Act.put _ (some 83) _) _
                refine wpAny_take (i := 14) (v := undef) rfl (by kernel_rfl) (by kernel_rfl) (by kernel_rfl) (fun _ _ _ h => h) (Or.inr ⟨by kernel_rfl, rfl⟩) ?_
                change wpAny _ _ _ _ _ _ (Act.put _ (some 84) _) _
                refine wpAny_take (i := 15) (v := undef) rfl (by kernel_rfl) (by kernel_rfl) (by kernel_rfl) (fun _ _ _ h => h) (Or.inr ⟨by kernel_rfl, rfl⟩) ?_
                change wpAny _ _ _ _ _ _ (Act.put _ (some 85) _) _
                refine wpAny_take (i := 16) (v := ?_) rfl (by kernel_rfl) (by kernel_rfl) (by kernel_rfl) (fun _ _ _ h => h) (Or.inl ⟨by kernel_rfl, ?_⟩) ?_
                rotate_left 1
                · (intro w; first | (go_simp; done) | (go_simp; with_reducible rfl))
                change wpAny _ _ _ _ _ _ (Act.put _ (some 86) _) _
                refine wpAny_take (i := 17) (v := ?_) rfl (by kernel_rfl) (by kernel_rfl) (by kernel_rfl) (fun _ _ _ h => h) (Or.inl ⟨by kernel_rfl, ?_⟩) ?_
                rotate_left 1
                · (intro w; first | (go_simp; done) | (go_simp; with_reducible rfl))
                change wpAny _ _ _ _ _ _ (Act.put _ (some 87) _) _
                refine wpAny_take (i := 18) (v := ?_) rfl (by kernel_rfl) (by kernel_rfl) (by kernel_rfl) (fun _ _ _ h => h) (Or.inl ⟨by kernel_rfl, ?_⟩) ?_
                rotate_left 1
                · (intro w; first | (go_simp; done) | (go_simp; with_reducible rfl))
                change wpAny _ _ _ _ _ _ (Act.put _ (some 9) _) _
                refine wpAny_done (by kernel_rfl) ?_ _
                go_simp
                have HG := Lib.hid hg2
                clear hg2 y0 y1
                go_wp2
                go_roundg (0 + 1 - (0 + 1))
                case measure => omega
                case rel => exact ⟨0 + 1, by rw [HV.out], by simp, by omega, by omega, rfl, HG⟩
              | true =>
                rw [hb1] at HC1
                cases st with
                | false =>
                  have HV : Hid (aheB false X L 0 (0 + 1 - 0) = true) := Lib.hid (by rw [show 0 + 1 - 0 = (0 - 0) + 1 from by omega, aheB_more, show 0 + (0 - 0) = 0 from by omega, hv, hb1]; rfl)
                  clear hb1 hv
                  go_wp2_with fail
                  refine wp_region_any (by kernel_rfl) ?_
                  try (change wpAny _ _ _ _ _ _ _ (World.drew _))
                  refine wpAny_take (i := 0) (v := ?_) rfl (by kernel_rfl) (by kernel_rfl) (by kernel_rfl) (fun _ _ _ h => h) (Or.inl ⟨by kernel_rfl, ?_⟩) ?_
                  rotate_left 1
                  · (intro w; first | (go_simp; done) | (go_simp; with_reducible rfl))
                  change wpAny _ _ _ _ _ _ (Act.put _ (some 70) _) _
                  refine wpAny_take (i := 1) (v := ?_) rfl (by kernel_rfl) (by kernel_rfl) (by kernel_rfl) (fun _ _ _ h => h) (Or.inl ⟨by kernel_rfl, ?_⟩) ?_
                  rotate_left 1
                  · (intro w; first | (go_simp; done) | (go_simp; with_reducible rfl))
                  change wpAny _ _ _ _ _ _ (Act.put _ (some 71) _) _
                  refine wpAny_take (i := 3) (v := ?_) rfl (by kernel_rfl) (by kernel_rfl) (by kernel_rfl) (fun _ _ _ h => h) (Or.inl ⟨by kernel_rfl, ?_⟩) ?_
                  rotate_left 1
                  · (intro w; first | (go_simp; done) | (go_simp; with_reducible rfl))
                  change wpAny _ _ _ _ _ _ (Act.put _ (some 73) _) _
                  refine wpAny_take (i := 4) (v := ?_) rfl (by kernel_rfl) (by kernel_rfl) (by kernel_rfl) (fun _ _ _ h => h) (Or.inl ⟨by kernel_rfl, ?_⟩) ?_
                  rotate_left 1
                  · (intro w; first | (go_simp; done) | (go_simp; with_reducible rfl))
                  change wpAny _ _ _ _ _ _ (Act.put _ (some 74) _) _
                  refine wpAny_take (i := 5) (v := ?_) rfl (by kernel_rfl) (by kernel_rfl) (by kernel_rfl) (fun _ _ _ h => h) (Or.inl ⟨by kernel_rfl, ?_⟩) ?_
                  rotate_left 1
                  · (intro w; first | (go_simp; done) | (go_simp; with_reducible rfl))
                  change wpAny _ _ _ _ _ _ (Act.put _ (some 75) _) _
                  refine wpAny_take (i := 6) (v := ?_) rfl (by kernel_rfl) (by kernel_rfl) (by kernel_rfl) (fun _ _ _ h => h) (Or.inl ⟨by kernel_rfl, ?_⟩) ?_
                  rotate_left 1
                  · (intro w; first | (go_simp; done) | (go_simp; with_reducible rfl))
                  change wpAny _ _ _ _ _ _ (Act.put _ (some 76) _) _
                  refine wpAny_ready (rs := [2]) (by kernel_rfl) (by simp) ?_
                  refine AllReady.cons rfl (fun K hK => ?_) AllReady.nil
                  go_simp
                  refine hK _ _ ?_
                  clear hK K
                  refine wpAny_ready (rs := [7]) (by kernel_rfl) (by simp) ?_
                  refine AllReady.cons rfl (fun K hK => ?_) AllReady.nil
                  go_simp
                  go_wp2_with (refine HC1.out.mono ?_; rintro e w5 ⟨rfl, hg⟩; obtain ⟨y0, y1, hg2⟩ := hg)
                  refine wpAny_take (i := 8) (v := ?_) rfl (by kernel_rfl) (by kernel_rfl) (by kernel_rfl) (fun _ _ _ h => h) (Or.inl ⟨by kernel_rfl, ?_⟩) ?_
                  rotate_left 1
                  · (intro w; first | (go_simp; done) | (go_simp; with_reducible rfl))
                  change wpAny _ _ _ _ _ _ (Act.put _ (some 78) _) _
                  refine wpAny_take (i := 9) (v := ?_) rfl (by kernel_rfl) (by kernel_rfl) (by kernel_rfl) (fun _ _ _ h => h) (Or.inl ⟨by kernel_rfl, ?_⟩) ?_
                  rotate_left 1
                  · (intro w; first | (go_simp; done) | (go_simp; with_reducible rfl))
                  change wpAny _ _ _ _ _ _ (Act.put _ (some 79) _) _
                  refine wpAny_ready (rs := [10]) (by kernel_rfl) (by simp) ?_
                  refine AllReady.cons rfl (fun K hK => ?_) AllReady.nil
                  go_simp
                  refine hK _ _ ?_
                  clear hK K
                  refine wpAny_take (i := 11) (v := ?_) rfl (by kernel_rfl) (by kernel_rfl) (by kernel_rfl) (fun _ _ _ h => h) (Or.inl ⟨by kernel_rfl, ?_⟩) ?_
                  rotate_left 1
                  · (intro w; first | (go_simp; done) | (go_simp; with_reducible rfl))
                  change wpAny _ _ _ _ _ _ (Act.put _ (some 81) _) _
                  refine wpAny_take (i := 12) (v := ?_) rfl (by kernel_rfl) (by kernel_rfl) (by kernel_rfl) (fun _ _ _ h => h) (Or.inl ⟨by kernel_rfl, ?_⟩) ?_
                  rotate_left 1
                  · (intro w; first | (go_simp; done) | (go_simp; with_reducible rfl))
                  change wpAny _ _ _ _ _ _ (Act.put _ (some 82) _) _
                  refine wpAny_take (i := 13) (v := undef) rfl (by kernel_rfl) (by kernel_rfl) (by kernel_rfl) (fun _ _ _ h => h) (Or.inr ⟨by kernel_rfl, rfl⟩) ?_
                  change wpAny _ _ _ _ _ _ (Act.put _ (some 83) _) _
                  refine wpAny_take (i := 14) (v := undef) rfl (by kernel_rfl) (by kernel_rfl) (by kernel_rfl) (fun _ _ _ h => h) (Or.inr ⟨by kernel_rfl, rfl⟩) ?_
                  change wpAny _ _ _ _ _ _ (Act.put _ (some 84) _) _
                  refine wpAny_take (i := 15) (v := ?_) rfl (by kernel_rfl) (by kernel_rfl) (by kernel_rfl) (fun _ _ _ h => h) (Or.inl ⟨by kernel_rfl, ?_⟩) ?_
                  rotate_left 1
                  · (intro w; first | (go_simp; done) | (go_simp; with_reducible rfl))
                  change wpAny _ _ _ _ _ _ (Act.put _ (some 85) _) _
                  refine wpAny_take (i := 16) (v := ?_) rfl (by kernel_rfl) (by kernel_rfl) (by kernel_rfl) (fun _ _ _ h => h) (Or.inl ⟨by kernel_rfl, ?_⟩) ?_
                  rotate_left 1
                  · (intro w; first | (go_simp; done) | (go_simp; with_reducible rfl))
                  change wpAny _ _ _ _ _ _ (Act.put _ (some 86) _) _
                  refine wpAny_take (i := 17) (v := ?_) rfl (by kernel_rfl) (by kernel_rfl) (by kernel_rfl) (fun _ _ _ h => h) (Or.inl ⟨by kernel_rfl, ?_⟩) ?_
                  rotate_left 1
                  · (intro w; first | (go_simp; done) | (go_simp; with_reducible rfl))
                  change wpAny _ _ _ _ _ _ (Act.put _ (some 87) _) _
                  refine wpAny_take (i := 18) (v := ?_) rfl (by kernel_rfl) (by kernel_rfl) (by kernel_rfl) (fun _ _ _ h => h) (Or.inl ⟨by kernel_rfl, ?_⟩) ?_
                  rotate_left 1
                  · (intro w; first | (go_simp; done) | (go_simp; with_reducible rfl))
                  change wpAny _ _ _ _ _ _ (Act.put _ (some 9) _) _
                  refine wpAny_done (by kernel_rfl) ?_ _
                  go_simp
                  have HG := Lib.hid hg2
                  clear hg2 y0 y1
                  go_wp2
                  go_roundg (0 + 1 - (0 + 1))
                  case measure => omega
                  case rel => exact ⟨0 + 1, by rw [HV.out], by simp, by omega, by omega, rfl, HG⟩
                | true =>
                  have HV : Hid (aheB true X L 0 (0 + 1 - 0) = true) := Lib.hid (by rw [show 0 + 1 - 0 = (0 - 0) + 1 from by omega, aheB_more, show 0 + (0 - 0) = 0 from by omega, hv, hb1]; rfl)
                  clear hb1 hv
                  go_wp2_with fail
                  refine wp_region_any (by kernel_rfl) ?_
                  try (change wpAny _ _ _ _ _ _ _ (World.drew _))
                  refine wpAny_take (i := 0) (v := ?_) rfl (by kernel_rfl) (by kernel_rfl) (by kernel_rfl) (fun _ _ _ h => h) (Or.inl ⟨by kernel_rfl, ?_⟩) ?_
                  rotate_left 1
                  · (intro w; first | (go_simp; done) | (go_simp; with_reducible rfl))
                  change wpAny _ _ _ _ _ _ (Act.put _ (some 70) _) _
                  refine wpAny_take (i := 1) (v := ?_) rfl (by kernel_rfl) (by kernel_rfl) (by kernel_rfl) (fun _ _ _ h => h) (Or.inl ⟨by kernel_rfl, ?_⟩) ?_
                  rotate_left 1
                  · (intro w; first | (go_simp; done) | (go_simp; with_reducible rfl))
                  change wpAny _ _ _ _ _ _ (Act.put _ (some 71) _) _
                  refine wpAny_take (i := 3) (v := ?_) rfl (by kernel_rfl) (by kernel_rfl) (by kernel_rfl) (fun _ _ _ h => h) (Or.inl ⟨by kernel_rfl, ?_⟩) ?_
                  rotate_left 1
                  · (intro w; first | (go_simp; done) | (go_simp; with_reducible rfl))
                  change wpAny _ _ _ _ _ _ (Act.put _ (some 73) _) _
                  refine wpAny_take (i := 4) (v := ?_) rfl (by kernel_rfl) (by kernel_rfl) (by kernel_rfl) (fun _ _ _ h => h) (Or.inl ⟨by kernel_rfl, ?_⟩) ?_
                  rotate_left 1
                  · (intro w; first | (go_simp; done) | (go_simp; with_reducible rfl))
                  change wpAny _ _ _ _ _ _ (Act.put _ (some 74) _) _
                  refine wpAny_take (i := 5) (v := ?_) rfl (by kernel_rfl) (by kernel_rfl) (by kernel_rfl) (fun _ _ _ h => h) (Or.inl ⟨by kernel_rfl, ?_⟩) ?_
                  rotate_left 1
                  · (intro w; first | (go_simp; done) | (go_simp; with_reducible rfl))
                  change wpAny _ _ _ _ _ _ (Act.put _ (some 75) _) _
                  refine wpAny_take (i := 6) (v := ?_) rfl (by kernel_rfl) (by kernel_rfl) (by kernel_rfl) (fun _ _ _ h => h) (Or.inl ⟨by kernel_rfl, ?_⟩) ?_
                  rotate_left 1
                  · (intro w; first | (go_simp; done) | (go_simp; with_reducible rfl))
                  change wpAny _ _ _ _ _ _ (Act.put _ (some 76) _) _
                  refine wpAny_ready (rs := [2]) (by kernel_rfl) (by simp) ?_
                  refine AllReady.cons rfl (fun K hK => ?_) AllReady.nil
                  go_simp
                  refine hK _ _ ?_
                  clear hK K
                  refine wpAny_ready (rs := [7]) (by kernel_rfl) (by simp) ?_
                  refine AllReady.cons rfl (fun K hK => ?_) AllReady.nil
                  go_simp
                  go_wp2_with (refine HC1.out.mono ?_; rintro e w5 ⟨rfl, hg⟩; obtain ⟨y0, y1, hg2⟩ := hg)
                  refine wpAny_take (i := 8) (v := ?_) rfl (by kernel_rfl) (by kernel_rfl) (by kernel_rfl) (fun _ _ _ h => h) (Or.inl ⟨by kernel_rfl, ?_⟩) ?_
                  rotate_left 1
                  · (intro w; first | (go_simp; done) | (go_simp; with_reducible rfl))
                  change wpAny _ _ _ _ _ _ (Act.put _ (some 78) _) _
                  refine wpAny_take (i := 9) (v := ?_) rfl (by kernel_rfl) (by kernel_rfl) (by kernel_rfl) (fun _ _ _ h => h) (Or.inl ⟨by kernel_rfl, ?_⟩) ?_
                  rotate_left 1
                  · (intro w; first | (go_simp; done) | (go_simp; with_reducible rfl))
                  change wpAny _ _ _ _ _ _ (Act.put _ (some 79) _) _
                  refine wpAny_ready (rs := [10]) (by kernel_rfl) (by simp) ?_
                  refine AllReady.cons rfl (fun K hK => ?_) AllReady.nil
                  go_simp
                  refine hK _ _ ?_
                  clear hK K
                  refine wpAny_take (i := 11) (v := ?_) rfl (by kernel_rfl) (by kernel_rfl) (by kernel_rfl) (fun _ _ _ h => h) (Or.inl ⟨by kernel_rfl, ?_⟩) ?_
                  rotate_left 1
                  · (intro w; first | (go_simp; done) | (go_simp; with_reducible rfl))
                  change wpAny _ _ _ _ _ _ (Act.put _ (some 81) _) _
                  refine wpAny_take (i := 12) (v := ?_) rfl (by kernel_rfl) (by kernel_rfl) (by kernel_rfl) (fun _ _ _ h => h) (Or.inl ⟨by kernel_rfl, ?_⟩) ?_
                  rotate_left 1
                  · (intro w; first | (go_simp; done) | (go_simp; with_reducible rfl))
                  change wpAny _ _ _ _ _ _ (Act.put _ (some 82) _) _
                  refine wpAny_take (i := 13) (v := ?_) rfl (by kernel_rfl) (by kernel_rfl) (by kernel_rfl) (fun _ _ _ h => h) (Or.inl ⟨by kernel_rfl, ?_⟩) ?_
                  rotate_left 1
                  · (intro w; first | (go_simp; done) | (go_simp; with_reducible rfl))
                  change wpAny _ _ _ _ _ _ (Act.put _ (some 83) _) _
                  refine wpAny_take (i := 14) (v := ?_) rfl (by kernel_rfl) (by kernel_rfl) (by kernel_rfl) (fun _ _ _ h => h) (Or.inl ⟨by kernel_rfl, ?_⟩) ?_
                  rotate_left 1
                  · (intro w; first | (go_simp; done) | (go_simp; with_reducible rfl))
                  change wpAny _ _ _ _ _ _ (Act.put _ (some 84) _) _
                  refine wpAny_take (i := 15) (v := ?_) rfl (by kernel_rfl) (by kernel_rfl) (by kernel_rfl) (fun _ _ _ h => h) (Or.inl ⟨by kernel_rfl, ?_⟩) ?_
                  rotate_left 1
                  · (intro w; first | (go_simp; done) | (go_simp; with_reducible rfl))
                  change wpAny _ _ _ _ _ _ (Act.put _ (some 85) _) _
                  refine wpAny_take (i := 16) (v := ?_) rfl (by kernel_rfl) (by kernel_rfl) (by kernel_rfl) (fun _ _ _ h => h) (Or.inl ⟨by kernel_rfl, ?_⟩) ?_
                  rotate_left 1
                  · (intro w; first | (go_simp; done) | (go_simp; with_reducible rfl))
                  change wpAny _ _ _ _ _ _ (Act.put _ (some 86) _) _
                  refine wpAny_take (i := 17) (v := ?_) rfl (by kernel_rfl) (by kernel_rfl) (by kernel_rfl) (fun _ _ _ h => h) (Or.inl ⟨by kernel_rfl, ?_⟩) ?_
                  rotate_left 1
                  · (intro w; first | (go_simp; done) | (go_simp; with_reducible rfl))
                  change wpAny _ _ _ _ _ _ (Act.put _ (some 87) _) _
                  refine wpAny_take (i := 18) (v := ?_) rfl (by kernel_rfl) (by kernel_rfl) (by kernel_rfl) (fun _ _ _ h => h) (Or.inl ⟨by kernel_rfl, ?_⟩) ?_
                  rotate_left 1
                  · (intro w; first | (go_simp; done) | (go_simp; with_reducible rfl))
                  change wpAny _ _ _ _ _ _ (Act.put _ (some 9) _) _
                  refine wpAny_done (by kernel_rfl) ?_ _
                  go_simp
                  have HG := Lib.hid hg2
                  clear hg2 y0 y1
                  go_wp2
                  go_roundg (0 + 1 - (0 + 1))
                  case measure => omega
                  case rel => exact ⟨0 + 1, by rw [HV.out], by simp, by omega, by omega, rfl, HG⟩
            | some pp =>
              by_cases hc0 : lcap = 0
              · subst hc0
                obtain rfl : a = 0 := by omega
                obtain rfl : h = 0 := by omega
                obtain rfl : n = 0 := by omega
                replace HC1 : Hid (Calls Tryz.prog 15 #[patV st o k cap, .slice (some pp) 0 0] wr.drew fun e w' => e = .returned (.bool (fitsA X (segP L 0 0))) ∧ w'.cell? ⟨w.heap.size, 0, none⟩ = some (.bool st) ∧ w'.cell? ⟨w.heap.size, 1, none⟩ = some (.slice o k cap) ∧ Below w3.heap.size w3 w') := HC1
                cases hb1 : fitsA X (segP L 0 0) with
                | false =>
                  rw [hb1] at HC1
                  have HV : Hid (aheB st X L 0 (0 + 1 - 0) = false) := Lib.hid (by rw [show 0 + 1 - 0 = (0 - 0) + 1 from by omega, aheB_more, show 0 + (0 - 0) = 0 from by omega, hv, hb1]; rfl)
                  clear hb1 hv
                  go_wp2_with fail
                  refine wp_region_any (by kernel_rfl) ?_
                  try (change wpAny _ _ _ _ _ _ _ (World.drew _))
                  refine wpAny_take (i := 0) (v := ?_) rfl (by kernel_rfl) (by kernel_rfl) (by kernel_rfl) (fun _ _ _ h => h) (Or.inl ⟨by kernel_rfl, ?_⟩) ?_
                  rotate_left 1
                  · (intro w; first | (go_simp; done) | (go_simp; with_reducible rfl))
                  change wpAny _ _ _ _ _ _ (Act.put _ (some 70) _) _
                  refine wpAny_take (i := 1) (v := ?_) rfl (by kernel_rfl) (by kernel_rfl) (by kernel_rfl) (fun _ _ _ h => h) (Or.inl ⟨by kernel_rfl, ?_⟩) ?_
                  rotate_left 1
                  · (intro w; first | (go_simp; done) | (go_simp; with_reducible rfl))
                  change wpAny _ _ _ _ _ _ (Act.put _ (some 71) _) _
                  refine wpAny_take (i := 3) (v := ?_) rfl (by kernel_rfl) (by kernel_rfl) (by kernel_rfl) (fun _ _ _ h => h) (Or.inl ⟨by kernel_rfl, ?_⟩) ?_
                  rotate_left 1
                  · (intro w; first | (go_simp; done) | (go_simp; with_reducible rfl))
                  change wpAny _ _ _ _ _ _ (Act.put _ (some 73) _) _
                  refine wpAny_take (i := 4) (v := ?_) rfl (by kernel_rfl) (by kernel_rfl) (by kernel_rfl) (fun _ _ _ h => h) (Or.inl ⟨by kernel_rfl, ?_⟩) ?_
                  rotate_left 1
                  · (intro w; first | (go_simp; done) | (go_simp; with_reducible rfl))
                  change wpAny _ _ _ _ _ _ (Act.put _ (some 74) _) _
                  refine wpAny_take (i := 5) (v := ?_) rfl (by kernel_rfl) (by kernel_rfl) (by kernel_rfl) (fun _ _ _ h => h) (Or.inl ⟨by kernel_rfl, ?_⟩) ?_
                  rotate_left 1
                  · (intro w; first | (go_simp; done) | (go_simp; with_reducible rfl))
                  change wpAny _ _ _ _ _ _ (Act.put _ (some 75) _) _
                  refine wpAny_take (i := 6) (v := ?_) rfl (by kernel_rfl) (by kernel_rfl) (by kernel_rfl) (fun _ _ _ h => h) (Or.inl ⟨by kernel_rfl, ?_⟩) ?_
                  rotate_left 1
                  · (intro w; first | (go_simp; done) | (go_simp; with_reducible rfl))
                  change wpAny _ _ _ _ _ _ (Act.put _ (some 76) _) _
                  refine wpAny_ready (rs := [2]) (by kernel_rfl) (by simp) ?_
                  refine AllReady.cons rfl (fun K hK => ?_) AllReady.nil
                  go_simp
                  refine hK _ _ ?_
                  clear hK K
                  refine wpAny_ready (rs := [7]) (by kernel_rfl) (by simp) ?_
                  refine AllReady.cons rfl (fun K hK => ?_) AllReady.nil
                  go_simp
                  go_wp2_with (refine HC1.out.mono ?_; rintro e w5 ⟨rfl, hg⟩; obtain ⟨y0, y1, hg2⟩ := hg)
                  refine wpAny_take (i := 8) (v := ?_) rfl (by kernel_rfl) (by kernel_rfl) (by kernel_rfl) (fun _ _ _ h => h) (Or.inl ⟨by kernel_rfl, ?_⟩) ?_
                  rotate_left 1
                  · (intro w; first | (go_simp; done) | (go_simp; with_reducible rfl))
                  change wpAny _ _ _ _ _ _ (Act.put _ (some 78) _) _
                  refine wpAny_take (i := 9) (v := undef) rfl (by kernel_rfl) (by kernel_rfl) (by kernel_rfl) (fun _ _ _ h => h) (Or.inr ⟨by kernel_rfl, rfl⟩) ?_
                  change wpAny _ _ _ _ _ _ (Act.put _ (some 79) _) _
                  refine wpAny_take (i := 10) (v := undef) rfl (by kernel_rfl) (by kernel_rfl) (by kernel_rfl) (fun _ _ _ h => h) (Or.inr ⟨by kernel_rfl, rfl⟩) ?_
                  change wpAny _ _ _ _ _ _ (Act.put _ (some 80) _) _
                  refine wpAny_take (i := 11) (v := undef) rfl (by kernel_rfl) (by kernel_rfl) (by kernel_rfl) (fun _ _ _ h => h) (Or.inr ⟨by kernel_rfl, rfl⟩) ?_
                  change wpAny _ _ _ _ _ _ (Act.put _ (some 81) _) _
                  refine wpAny_take (i := 12) (v := undef) rfl (by kernel_rfl) (by kernel_rfl) (by kernel_rfl) (fun _ _ _ h => h) (Or.inr ⟨by kernel_rfl, rfl⟩) ?_
                  change wpAny _ _ _ _ _ _ (Act.put _ (some 82) _) _
                  refine wpAny_take (i := 13) (v := undef) rfl (by kernel_rfl) (by kernel_rfl) (by kernel_rfl) (fun _ _ _ h => h) (Or.inr ⟨by kernel_rfl, rfl⟩) ?_
                  change wpAny _ _ _ _ _ _ (Act.put _ (some 83) _) _
                  refine wpAny_take (i := 14) (v := undef) rfl (by kernel_rfl) (by kernel_rfl) (by kernel_rfl) (fun _ _ _ h => h) (Or.inr ⟨by kernel_rfl, rfl⟩) ?_
                  change wpAny _ _ _ _ _ _ (Act.put _ (some 84) _) _
                  refine wpAny_take (i := 15) (v := undef) rfl (by kernel_rfl) (by kernel_rfl) (by kernel_rfl) (fun _ _ _ h => h) (Or.inr ⟨by kernel_rfl, rfl⟩) ?_
                  change wpAny _ _ _ _ _ _ (Act.put _ (some 85) _) _
                  refine wpAny_take (i := 16) (v := ?_) rfl (by kernel_rfl) (by kernel_rfl) (by kernel_rfl) (fun _ _ _ h => h) (Or.inl ⟨by kernel_rfl, ?_⟩) ?_
                  rotate_left 1
                  · (intro w; first | (go_simp; done) | (go_simp; with_reducible rfl))
                  change wpAny _ _ _ _ _ _ (Act.put _ (some 86) _) _
                  refine wpAny_take (i := 17) (v := ?_) rfl (by kernel_rfl) (by kernel_rfl) (by kernel_rfl) (fun _ _ _ h => h) (Or.inl ⟨by kernel_rfl, ?_⟩) ?_
                  rotate_left 1
                  · (intro w; first | (go_simp; done) | (go_simp; with_reducible rfl))
                  change wpAny _ _ _ _ _ _ (Act.put _ (some 87) _) _
                  refine wpAny_take (i := 18) (v := ?_) rfl (by kernel_rfl) (by kernel_rfl) (by kernel_rfl) (fun _ _ _ h => h) (Or.inl ⟨by kernel_rfl, ?_⟩) ?_
                  rotate_left 1
                  · (intro w; first | (go_simp; done) | (go_simp; with_reducible rfl))
                  change wpAny _ _ _ _ _ _ (Act.put _ (some 9) _) _
                  refine wpAny_done (by kernel_rfl) ?_ _
                  go_simp
                  have HG := Lib.hid hg2
                  clear hg2 y0 y1
                  go_wp2
                  go_roundg (0 + 1 - (0 + 1))
                  case measure => omega
                  case rel => exact ⟨0 + 1, by rw [HV.out], by simp, by omega, by omega, rfl, HG⟩
                | true =>
                  rw [hb1] at HC1
                  cases st with
                  | false =>
                    have HV : Hid (aheB false X L 0 (0 + 1 - 0) = true) := Lib.hid (by rw [show 0 + 1 - 0 = (0 - 0) + 1 from by omega, aheB_more, show 0 + (0 - 0) = 0 from by omega, hv, hb1]; rfl)
                    clear hb1 hv
                    go_wp2_with fail
                    refine wp_region_any (by kernel_rfl) ?_
                    try (change wpAny _ _ _ _ _ _ _ (World.drew _))
                    refine wpAny_take (i := 0) (v := ?_) rfl (by kernel_rfl) (by kernel_rfl) (by kernel_rfl) (fun _ _ _ h => h) (Or.inl ⟨by kernel_rfl, ?_⟩) ?_
                    rotate_left 1
                    · (intro w; first | (go_simp; done) | (go_simp; with_reducible rfl))
                    change wpAny _ _ _ _ _ _ (Act.put _ (some 70) _) _
                    refine wpAny_take (i := 1) (v := ?_) rfl (by kernel_rfl) (by kernel_rfl) (by kernel_rfl) (fun _ _ _ h => h) (Or.inl ⟨by kernel_rfl, ?_⟩) ?_
                    rotate_left 1
                    · (intro w; first | (go_simp; done) | (go_simp; with_reducible rfl))
                    change wpAny _ _ _ _ _ _ (Act.put _ (some 71) _) _
                    refine wpAny_take (i := 3) (v := ?_) rfl (by kernel_rfl) (by kernel_rfl) (by kernel_rfl) (fun _ _ _ h => h) (Or.inl ⟨by kernel_rfl, ?_⟩) ?_
                    rotate_left 1
                    · (intro w; first | (go_simp; done) | (go_simp; with_reducible rfl))
                    change wpAny _ _ _ _ _ _ (Act.put _ (some 73) _) _
                    refine wpAny_take (i := 4) (v := ?_) rfl (by kernel_rfl) (by kernel_rfl) (by kernel_rfl) (fun _ _ _ h => h) (Or.inl ⟨by kernel_rfl, ?_⟩) ?_
                    rotate_left 1
                    · (intro w; first | (go_simp; done) | (go_simp; with_reducible rfl))
                    change wpAny _ _ _ _ _ _ (Act.put _ (some 74) _) _
                    refine wpAny_take (i := 5) (v := ?_) rfl (by kernel_rfl) (by kernel_rfl) (by kernel_rfl) (fun _ _ _ h => h) (Or.inl ⟨by kernel_rfl, ?_⟩) ?_
                    rotate_left 1
                    · (intro w; first | (go_simp; done) | (go_simp; with_reducible rfl))
                    change wpAny _ _ _ _ _ _ (Act.put _ (some 75) _) _
                    refine wpAny_take (i := 6) (v := ?_) rfl (by kernel_rfl) (by kernel_rfl) (by kernel_rfl) (fun _ _ _ h => h) (Or.inl ⟨by kernel_rfl, ?_⟩) ?_
                    rotate_left 1
                    · (intro w; first | (go_simp; done) | (go_simp; with_reducible rfl))
                    change wpAny _ _ _ _ _ _ (Act.put _ (some 76) _) _
                    refine wpAny_ready (rs := [2]) (by kernel_rfl) (by simp) ?_
                    refine AllReady.cons rfl (fun K hK => ?_) AllReady.nil
                    go_simp
                    refine hK _ _ ?_
                    clear hK K
                    refine wpAny_ready (rs := [7]) (by kernel_rfl) (by simp) ?_
                    refine AllReady.cons rfl (fun K hK => ?_) AllReady.nil
                    go_simp
                    go_wp2_with (refine HC1.out.mono ?_; rintro e w5 ⟨rfl, hg⟩; obtain ⟨y0, y1, hg2⟩ := hg)
                    refine wpAny_take (i := 8) (v := ?_) rfl (by kernel_rfl) (by kernel_rfl) (by kernel_rfl) (fun _ _ _ h => h) (Or.inl ⟨by kernel_rfl, ?_⟩) ?_
                    rotate_left 1
                    · (intro w; first | (go_simp; done) | (go_simp; with_reducible rfl))
                    change wpAny _ _ _ _ _ _ (Act.put _ (some 78) _) _
                    refine wpAny_take (i := 9) (v := ?_) rfl (by kernel_rfl) (by kernel_rfl) (by kernel_rfl) (fun _ _ _ h => h) (Or.inl ⟨by kernel_rfl, ?_⟩) ?_
                    rotate_left 1
                    · (intro w; first | (go_simp; done) | (go_simp; with_reducible rfl))
                    change wpAny _ _ _ _ _ _ (Act.put _ (some 79) _) _
                    refine wpAny_ready (rs := [10]) (by kernel_rfl) (by simp) ?_
                    refine AllReady.cons rfl (fun K hK => ?_) AllReady.nil
                    go_simp
                    refine hK _ _ ?_
                    clear hK K
                    refine wpAny_take (i := 11) (v := ?_) rfl (by kernel_rfl) (by kernel_rfl) (by kernel_rfl) (fun _ _ _ h => h) (Or.inl ⟨by kernel_rfl, ?_⟩) ?_
                    rotate_left 1
                    · (intro w; first | (go_simp; done) | (go_simp; with_reducible rfl))
                    change wpAny _ _ _ _ _ _ (Act.put _ (some 81) _) _
                    refine wpAny_take (i := 12) (v := ?_) rfl (by kernel_rfl) (by kernel_rfl) (by kernel_rfl) (fun _ _ _ h => h) (Or.inl ⟨by kernel_rfl, ?_⟩) ?_
                    rotate_left 1
                    · (intro w; first | (go_simp; done) | (go_simp; with_reducible rfl))
                    change wpAny _ _ _ _ _ _ (Act.put _ (some 82) _) _
                    refine wpAny_take (i := 13) (v := undef) rfl (by kernel_rfl) (by kernel_rfl) (by kernel_rfl) (fun _ _ _ h => h) (Or.inr ⟨by kernel_rfl, rfl⟩) ?_
                    change wpAny _ _ _ _ _ _ (Act.put _ (some 83) _) _
                    refine wpAny_take (i := 14) (v := undef) rfl (by kernel_rfl) (by kernel_rfl) (by kernel_rfl) (fun _ _ _ h => h) (Or.inr ⟨by kernel_rfl, rfl⟩) ?_
                    change wpAny _ _ _ _ _ _ (Act.put _ (some 84) _) _
                    refine wpAny_take (i := 15) (v := ?_) rfl (by kernel_rfl) (by kernel_rfl) (by kernel_rfl) (fun _ _ _ h => h) (Or.inl ⟨by kernel_rfl, ?_⟩) ?_
                    rotate_left 1
                    · (intro w; first | (go_simp; done) | (go_simp; with_reducible rfl))
                    change wpAny _ _ _ _ _ _ (Act.put _ (some 85) _) _
                    refine wpAny_take (i := 16) (v := ?_) rfl (by kernel_rfl) (by kernel_rfl) (by kernel_rfl) (fun _ _ _ h => h) (Or.inl ⟨by kernel_rfl, ?_⟩) ?_
                    rotate_left 1
                    · (intro w; first | (go_simp; done) | (go_simp; with_reducible rfl))
                    change wpAny _ _ _ _ _ _ (Act.put _ (some 86) _) _
                    refine wpAny_take (i := 17) (v := ?_) rfl (by kernel_rfl) (by kernel_rfl) (by kernel_rfl) (fun _ _ _ h => h) (Or.inl ⟨by kernel_rfl, ?_⟩) ?_
                    rotate_left 1
                    · (intro w; first | (go_simp; done) | (go_simp; with_reducible rfl))
                    change wpAny _ _ _ _ _ _ (Act.put _ (some 87) _) _
                    refine wpAny_take (i := 18) (v := ?_) rfl (by kernel_rfl) (by kernel_rfl) (by kernel_rfl) (fun _ _ _ h => h) (Or.inl ⟨by kernel_rfl, ?_⟩) ?_
                    rotate_left 1
                    · (intro w; first | (go_simp; done) | (go_simp; with_reducible rfl))
                    change wpAny _ _ _ _ _ _ (Act.put _ (some 9) _) _
                    refine wpAny_done (by kernel_rfl) ?_ _
                    go_simp
                    have HG := Lib.hid hg2
                    clear hg2 y0 y1
                    go_wp2
                    go_roundg (0 + 1 - (0 + 1))
                    case measure => omega
                    case rel => exact ⟨0 + 1, by rw [HV.out], by simp, by omega, by omega, rfl, HG⟩
                  | true =>
                    have HV : Hid (aheB true X L 0 (0 + 1 - 0) = true) := Lib.hid (by rw [show 0 + 1 - 0 = (0 - 0) + 1 from by omega, aheB_more, show 0 + (0 - 0) = 0 from by omega, hv, hb1]; rfl)
                    clear hb1 hv
                    go_wp2_with fail
                    refine wp_region_any (by kernel_rfl) ?_
                    try (change wpAny _ _ _ _ _ _ _ (World.drew _))
                    refine wpAny_take (i := 0) (v := ?_) rfl (by kernel_rfl) (by kernel_rfl) (by kernel_rfl) (fun _ _ _ h => h) (Or.inl ⟨by kernel_rfl, ?_⟩) ?_
                    rotate_left 1
                    · (intro w; first | (go_simp; done) | (go_simp; with_reducible rfl))
                    change wpAny _ _ _ _ _ _ (Act.put _ (some 70) _) _
                    refine wpAny_take (i := 1) (v := ?_) rfl (by kernel_rfl) (by kernel_rfl) (by kernel_rfl) (fun _ _ _ h => h) (Or.inl ⟨by kernel_rfl, ?_⟩) ?_
                    rotate_left 1
                    · (intro w; first | (go_simp; done) | (go_simp; with_reducible rfl))
                    change wpAny _ _ _ _ _ _ (Act.put _ (some 71) _) _
                    refine wpAny_take (i := 3) (v := ?_) rfl (by kernel_rfl) (by kernel_rfl) (by kernel_rfl) (fun _ _ _ h => h) (Or.inl ⟨by kernel_rfl, ?_⟩) ?_
                    rotate_left 1
                    · (intro w; first | (go_simp; done) | (go_simp; with_reducible rfl))
                    change wpAny _ _ _ _ _ _ (Act.put _ (some 73) _) _
                    refine wpAny_take (i := 4) (v := ?_) rfl (by kernel_rfl) (by kernel_rfl) (by kernel_rfl) (fun _ _ _ h => h) (Or.inl ⟨by kernel_rfl, ?_⟩) ?_
                    rotate_left 1
                    · (intro w; first | (go_simp; done) | (go_simp; with_reducible rfl))
                    change wpAny _ _ _ _ _ _ (Act.put _ (some 74) _) _
                    refine wpAny_take (i := 5) (v := ?_) rfl (by kernel_rfl) (by kernel_rfl) (by kernel_rfl) (fun _ _ _ h => h) (Or.inl ⟨by kernel_rfl, ?_⟩) ?_
                    rotate_left 1
                    · (intro w; first | (go_simp; done) | (go_simp; with_reducible rfl))
                    change wpAny _ _ _ _ _ _ (Act.put _ (some 75) _) _
                    refine wpAny_take (i := 6) (v := ?_) rfl (by kernel_rfl) (by kernel_rfl) (by kernel_rfl) (fun _ _ _ h => h) (Or.inl ⟨by kernel_rfl, ?_⟩) ?_
                    rotate_left 1
                    · (intro w; first | (go_simp; done) | (go_simp; with_reducible rfl))
                    change wpAny _ _ _ _ _ _ (Act.put _ (some 76) _) _
                    refine wpAny_ready (rs := [2]) (by kernel_rfl) (by simp) ?_
                    refine AllReady.cons rfl (fun K hK => ?_) AllReady.nil
                    go_simp
                    refine hK _ _ ?_
                    clear hK K
                    refine wpAny_ready (rs := [7]) (by kernel_rfl) (by simp) ?_
                    refine AllReady.cons rfl (fun K hK => ?_) AllReady.nil
                    go_simp
                    go_wp2_with (refine HC1.out.mono ?_; rintro e w5 ⟨rfl, hg⟩; obtain ⟨y0, y1, hg2⟩ := hg)
                    refine wpAny_take (i := 8) (v := ?_) rfl (by kernel_rfl) (by kernel_rfl) (by kernel_rfl) (fun _ _ _ h => h) (Or.inl ⟨by kernel_rfl, ?_⟩) ?_
                    rotate_left 1
                    · (intro w; first | (go_simp; done) | (go_simp; with_reducible rfl))
                    change wpAny _ _ _ _ _ _ (Act.put _ (some 78) _) _
                    refine wpAny_take (i := 9) (v := ?_) rfl (by kernel_rfl) (by kernel_rfl) (by kernel_rfl) (fun _ _ _ h => h) (Or.inl ⟨by kernel_rfl, ?_⟩) ?_
                    rotate_left 1
                    · (intro w; first | (go_simp; done) | (go_simp; with_reducible rfl))
                    change wpAny _ _ _ _ _ _ (Act.put _ (some 79) _) _
                    refine wpAny_ready (rs := [10]) (by kernel_rfl) (by simp) ?_
                    refine AllReady.cons rfl (fun K hK => ?_) AllReady.nil
                    go_simp
                    refine hK _ _ ?_
                    clear hK K
                    refine wpAny_take (i := 11) (v := ?_) rfl (by kernel_rfl) (by kernel_rfl) (by kernel_rfl) (fun _ _ _ h => h) (Or.inl ⟨by kernel_rfl, ?_⟩) ?_
                    rotate_left 1
                    · (intro w; first | (go_simp; done) | (go_simp; with_reducible rfl))
                    change wpAny _ _ _ _ _ _ (Act.put _ (some 81) _) _
                    refine wpAny_take (i := 12) (v := ?_) rfl (by kernel_rfl) (by kernel_rfl) (by kernel_rfl) (fun _ _ _ h => h) (Or.inl ⟨by kernel_rfl, ?_⟩) ?_
                    rotate_left 1
                    · (intro w; first | (go_simp; done) | (go_simp; with_reducible rfl))
                    change wpAny _ _ _ _ _ _ (Act.put _ (some 82) _) _
                    refine wpAny_take (i := 13) (v := ?_) rfl (by kernel_rfl) (by kernel_rfl) (by kernel_rfl) (fun _ _ _ h => h) (Or.inl ⟨by kernel_rfl, ?_⟩) ?_
                    rotate_left 1
                    · (intro w; first | (go_simp; done) | (go_simp; with_reducible rfl))
                    change wpAny _ _ _ _ _ _ (Act.put _ (some 83) _) _
                    refine wpAny_take (i := 14) (v := ?_) rfl (by kernel_rfl) (by kernel_rfl) (by kernel_rfl) (fun _ _ _ h => h) (Or.inl ⟨by kernel_rfl, ?_⟩) ?_
                    rotate_left 1
                    · (intro w; first | (go_simp; done) | (go_simp; with_reducible rfl))
                    change wpAny _ _ _ _ _ _ (Act.put _ (some 84) _) _
                    refine wpAny_take (i := 15) (v := ?_) rfl (by kernel_rfl) (by kernel_rfl) (by kernel_rfl) (fun _ _ _ h => h) (Or.inl ⟨by kernel_rfl, ?_⟩) ?_
                    rotate_left 1
                    · (intro w; first | (go_simp; done) | (go_simp; with_reducible rfl))
                    change wpAny _ _ _ _ _ _ (Act.put _ (some 85) _) _
                    refine wpAny_take (i := 16) (v := ?_) rfl (by kernel_rfl) (by kernel_rfl) (by kernel_rfl) (fun _ _ _ h => h) (Or.inl ⟨by kernel_rfl, ?_⟩) ?_
                    rotate_left 1
                    · (intro w; first | (go_simp; done) | (go_simp; with_reducible rfl))
                    change wpAny _ _ _ _ _ _ (Act.put _ (some 86) _) _
                    refine wpAny_take (i := 17) (v := ?_) rfl (by kernel_rfl) (by kernel_rfl) (by kernel_rfl) (fun _ _ _ h => h) (Or.inl ⟨by kernel_rfl, ?_⟩) ?_
                    rotate_left 1
                    · (intro w; first | (go_simp; done) | (go_simp; with_reducible rfl))
                    change wpAny _ _ _ _ _ _ (Act.put _ (some 87) _) _
                    refine wpAny_take (i := 18) (v := ?_) rfl (by kernel_rfl) (by kernel_rfl) (by kernel_rfl) (fun _ _ _ h => h) (Or.inl ⟨by kernel_rfl, ?_⟩) ?_
                    rotate_left 1
                    · (intro w; first | (go_simp; done) | (go_simp; with_reducible rfl))
                    change wpAny _ _ _ _ _ _ (Act.put _ (some 9) _) _
                    refine wpAny_done (by kernel_rfl) ?_ _
                    go_simp
                    have HG := Lib.hid hg2
                    clear hg2 y0 y1
                    go_wp2
                    go_roundg (0 + 1 - (0 + 1))
                    case measure => omega
                    case rel => exact ⟨0 + 1, by rw [HV.out], by simp, by omega, by omega, rfl, HG⟩
              · obtain ⟨g, off, sp⟩ := pp
                obtain rfl : sp = none := HSP.out.2 _ rfl (by omega)
                by_cases hi0 : a = 0
                · subst hi0
                  replace HC1 : Hid (Calls Tryz.prog 15 #[patV st o k cap, .slice (some ⟨g, off, none⟩) h lcap] wr.drew fun e w' => e = .returned (.bool (fitsA X (segP L 0 h))) ∧ w'.cell? ⟨w.heap.size, 0, none⟩ = some (.bool st) ∧ w'.cell? ⟨w.heap.size, 1, none⟩ = some (.slice o k cap) ∧ Below w3.heap.size w3 w') := by
                    have e : dropO (some ⟨g, off, none⟩) lcap 0 = some ⟨g, off, none⟩ := by unfold dropO; simp
                    rw [e] at HC1
                    exact HC1
                  cases hb1 : fitsA X (segP L 0 h) with
                  | false =>
                    rw [hb1] at HC1
                    have HV : Hid (aheB st X L 0 (h + 1 - 0) = false) := Lib.hid (by rw [show h + 1 - 0 = (h - 0) + 1 from by omega, aheB_more, show 0 + (h - 0) = h from by omega, hv, hb1]; rfl)
                    clear hb1 hv
                    go_wp2_with fail
                    refine wp_region_any (by kernel_rfl) ?_
                    try (change wpAny _ _ _ _ _ _ _ (World.drew _))
                    refine wpAny_take (i := 0) (v := ?_) rfl (by kernel_rfl) (by kernel_rfl) (by kernel_rfl) (fun _ _ _ h => h) (Or.inl ⟨by kernel_rfl, ?_⟩) ?_
                    rotate_left 1
                    · (intro w; first | (go_simp; done) | (go_simp; with_reducible rfl))
                    change wpAny _ _ _ _ _ _ (Act.put _ (some 70) _) _
                    refine wpAny_take (i := 1) (v := ?_) rfl (by kernel_rfl) (by kernel_rfl) (by kernel_rfl) (fun _ _ _ h => h) (Or.inl ⟨by kernel_rfl, ?_⟩) ?_
                    rotate_left 1
                    · (intro w; first | (go_simp; done) | (go_simp; with_reducible rfl))
                    change wpAny _ _ _ _ _ _ (Act.put _ (some 71) _) _
                    refine wpAny_take (i := 3) (v := ?_) rfl (by kernel_rfl) (by kernel_rfl) (by kernel_rfl) (fun _ _ _ h => h) (Or.inl ⟨by kernel_rfl, ?_⟩) ?_
                    rotate_left 1
                    · (intro w; first | (go_simp; done) | (go_simp; with_reducible rfl))
                    change wpAny _ _ _ _ _ _ (Act.put _ (some 73) _) _
                    refine wpAny_take (i := 4) (v := ?_) rfl (by kernel_rfl) (by kernel_rfl) (by kernel_rfl) (fun _ _ _ h => h) (Or.inl ⟨by kernel_rfl, ?_⟩) ?_
                    rotate_left 1
                    · (intro w; first | (go_simp; done) | (go_simp; with_reducible rfl))
                    change wpAny _ _ _ _ _ _ (Act.put _ (some 74) _) _
                    refine wpAny_take (i := 5) (v := ?_) rfl (by kernel_rfl) (by kernel_rfl) (by kernel_rfl) (fun _ _ _ h => h) (Or.inl ⟨by kernel_rfl, ?_⟩) ?_
                    rotate_left 1
                    · (intro w; first | (go_simp; done) | (go_simp; with_reducible rfl))
                    change wpAny _ _ _ _ _ _ (Act.put _ (some 75) _) _
                    refine wpAny_take (i := 6) (v := ?_) rfl (by kernel_rfl) (by kernel_rfl) (by kernel_rfl) (fun _ _ _ h => h) (Or.inl ⟨by kernel_rfl, ?_⟩) ?_
                    rotate_left 1
                    · (intro w; first | (go_simp; done) | (go_simp; with_reducible rfl))
                    change wpAny _ _ _ _ _ _ (Act.put _ (some 76) _) _
                    refine wpAny_ready (rs := [2]) (by kernel_rfl) (by simp) ?_
                    refine AllReady.cons rfl (fun K hK => ?_) AllReady.nil
                    go_simp
                    refine hK _ _ ?_
                    clear hK K
                    refine wpAny_ready (rs := [7]) (by kernel_rfl) (by simp) ?_
                    refine AllReady.cons rfl (fun K hK => ?_) AllReady.nil
                    go_simp
                    go_wp2_with (refine HC1.out.mono ?_; rintro e w5 ⟨rfl, hg⟩; obtain ⟨y0, y1, hg2⟩ := hg)
                    refine wpAny_take (i := 8) (v := ?_) rfl (by kernel_rfl) (by kernel_rfl) (by kernel_rfl) (fun _ _ _ h => h) (Or.inl ⟨by kernel_rfl, ?_⟩) ?_
                    rotate_left 1
                    · (intro w; first | (go_simp; done) | (go_simp; with_reducible rfl))
                    change wpAny _ _ _ _ _ _ (Act.put _ (some 78) _) _
                    refine wpAny_take (i := 9) (v := undef) rfl (by kernel_rfl) (by kernel_rfl) (by kernel_rfl) (fun _ _ _ h => h) (Or.inr ⟨by kernel_rfl, rfl⟩) ?_
                    change wpAny _ _ _ _ _ _ (Act.put _ (some 79) _) _
                    refine wpAny_take (i := 10) (v := undef) rfl (by kernel_rfl) (by kernel_rfl) (by kernel_rfl) (fun _ _ _ h => h) (Or.inr ⟨by kernel_rfl, rfl⟩) ?_
                    change wpAny _ _ _ _ _ _ (Act.put _ (some 80) _) _
                    refine wpAny_take (i := 11) (v := undef) rfl (by kernel_rfl) (by kernel_rfl) (by kernel_rfl) (fun _ _ _ h => h) (Or.inr ⟨by kernel_rfl, rfl⟩) ?_
                    change wpAny _ _ _ _ _ _ (Act.put _ (some 81) _) _
                    refine wpAny_take (i := 12) (v := undef) rfl (by kernel_rfl) (by kernel_rfl) (by kernel_rfl) (fun _ _ _ h => h) (Or.inr ⟨by kernel_rfl, rfl⟩) ?_
                    change wpAny _ _ _ _ _ _ (Act.put _ (some 82) _) _
                    refine wpAny_take (i := 13) (v := undef) rfl (by kernel_rfl) (by kernel_rfl) (by kernel_rfl) (fun _ _ _ h => h) (Or.inr ⟨by kernel_rfl, rfl⟩) ?_
                    change wpAny _ _ _ _ _ _ (Act.put _ (some 83) _) _
                    refine wpAny_take (i := 14) (v := undef) rfl (by kernel_rfl) (by kernel_rfl) (by kernel_rfl) (fun _ _ _ h => h) (Or.inr ⟨by kernel_rfl, rfl⟩) ?_
                    change wpAny _ _ _ _ _ _ (Act.put _ (some 84) _) _
                    refine wpAny_take (i := 15) (v := undef) rfl (by kernel_rfl) (by kernel_rfl) (by kernel_rfl) (fun _ _ _ h => h) (Or.inr ⟨by kernel_rfl, rfl⟩) ?_
                    change wpAny _ _ _ _ _ _ (Act.put _ (some 85) _) _
                    refine wpAny_take (i := 16) (v := ?_) rfl (by kernel_rfl) (by kernel_rfl) (by kernel_rfl) (fun _ _ _ h => h) (Or.inl ⟨by kernel_rfl, ?_⟩) ?_
                    rotate_left 1
                    · (intro w; first | (go_simp; done) | (go_simp; with_reducible rfl))
                    change wpAny _ _ _ _ _ _ (Act.put _ (some 86) _) _
                    refine wpAny_take (i := 17) (v := ?_) rfl (by kernel_rfl) (by kernel_rfl) (by kernel_rfl) (fun _ _ _ h => h) (Or.inl ⟨by kernel_rfl, ?_⟩) ?_
                    rotate_left 1
                    · (intro w; first | (go_simp; done) | (go_simp; with_reducible rfl))
                    change wpAny _ _ _ _ _ _ (Act.put _ (some 87) _) _
                    refine wpAny_take (i := 18) (v := ?_) rfl (by kernel_rfl) (by kernel_rfl) (by kernel_rfl) (fun _ _ _ h => h) (Or.inl ⟨by kernel_rfl, ?_⟩) ?_
                    rotate_left 1
                    · (intro w; first | (go_simp; done) | (go_simp; with_reducible rfl))
                    change wpAny _ _ _ _ _ _ (Act.put _ (some 9) _) _
                    refine wpAny_done (by kernel_rfl) ?_ _
                    go_simp
                    have HG := Lib.hid hg2
                    clear hg2 y0 y1
                    go_wp2
                    go_roundg (n + 1 - (h + 1))
                    case measure => omega
                    case rel => exact ⟨h + 1, by rw [HV.out], by simp, by omega, by omega, rfl, HG⟩
                  | true =>
                    rw [hb1] at HC1
                    cases st with
                    | false =>
                      have HV : Hid (aheB false X L 0 (h + 1 - 0) = true) := Lib.hid (by rw [show h + 1 - 0 = (h - 0) + 1 from by omega, aheB_more, show 0 + (h - 0) = h from by omega, hv, hb1]; rfl)
                      clear hb1 hv
                      go_wp2_with fail
                      refine wp_region_any (by kernel_rfl) ?_
                      try (change wpAny _ _ _ _ _ _ _ (World.drew _))
                      refine wpAny_take (i := 0) (v := ?_) rfl (by kernel_rfl) (by kernel_rfl) (by kernel_rfl) (fun _ _ _ h => h) (Or.inl ⟨by kernel_rfl, ?_⟩) ?_
                      rotate_left 1
                      · (intro w; first | (go_simp; done) | (go_simp; with_reducible rfl))
                      change wpAny _ _ _ _ _ _ (Act.put _ (some 70) _) _
                      refine wpAny_take (i := 1) (v := ?_) rfl (by kernel_rfl) (by kernel_rfl) (by kernel_rfl) (fun _ _ _ h => h) (Or.inl ⟨by kernel_rfl, ?_⟩) ?_
                      rotate_left 1
                      · (intro w; first | (go_simp; done) | (go_simp; with_reducible rfl))
                      change wpAny _ _ _ _ _ _ (Act.put _ (some 71) _) _
                      refine wpAny_take (i := 3) (v := ?_) rfl (by kernel_rfl) (by kernel_rfl) (by kernel_rfl) (fun _ _ _ h => h) (Or.inl ⟨by kernel_rfl, ?_⟩) ?_
                      rotate_left 1
                      · (intro w; first | (go_simp; done) | (go_simp; with_reducible rfl))
                      change wpAny _ _ _ _ _ _ (Act.put _ (some 73) _) _
                      refine wpAny_take (i := 4) (v := ?_) rfl (by kernel_rfl) (by kernel_rfl) (by kernel_rfl) (fun _ _ _ h => h) (Or.inl ⟨by kernel_rfl, ?_⟩) ?_
                      rotate_left 1
                      · (intro w; first | (go_simp; done) | (go_simp; with_reducible rfl))
                      change wpAny _ _ _ _ _ _ (Act.put _ (some 74) _) _
                      refine wpAny_take (i := 5) (v := ?_) rfl (by kernel_rfl) (by kernel_rfl) (by kernel_rfl) (fun _ _ _ h => h) (Or.inl ⟨by kernel_rfl, ?_⟩) ?_
                      rotate_left 1
                      · (intro w; first | (go_simp; done) | (go_simp; with_reducible rfl))
                      change wpAny _ _ _ _ _ _ (Act.put _ (some 75) _) _
                      refine wpAny_take (i := 6) (v := ?_) rfl (by kernel_rfl) (by kernel_rfl) (by kernel_rfl) (fun _ _ _ h => h) (Or.inl ⟨by kernel_rfl, ?_⟩) ?_
                      rotate_left 1
                      · (intro w; first | (go_simp; done) | (go_simp; with_reducible rfl))
                      change wpAny _ _ _ _ _ _ (Act.put _ (some 76) _) _
                      refine wpAny_ready (rs := [2]) (by kernel_rfl) (by simp) ?_
                      refine AllReady.cons rfl (fun K hK => ?_) AllReady.nil
                      go_simp
                      refine hK _ _ ?_
                      clear hK K
                      refine wpAny_ready (rs := [7]) (by kernel_rfl) (by simp) ?_
                      refine AllReady.cons rfl (fun K hK => ?_) AllReady.nil
                      go_simp
                      go_wp2_with (refine HC1.out.mono ?_; rintro e w5 ⟨rfl, hg⟩; obtain ⟨y0, y1, hg2⟩ := hg)
                      refine wpAny_take (i := 8) (v := ?_) rfl (by kernel_rfl) (by kernel_rfl) (by kernel_rfl) (fun _ _ _ h => h) (Or.inl ⟨by kernel_rfl, ?_⟩) ?_
                      rotate_left 1
                      · (intro w; first | (go_simp; done) | (go_simp; with_reducible rfl))
                      change wpAny _ _ _ _ _ _ (Act.put _ (some 78) _) _
                      refine wpAny_take (i := 9) (v := ?_) rfl (by kernel_rfl) (by kernel_rfl) (by kernel_rfl) (fun _ _ _ h => h) (Or.inl ⟨by kernel_rfl, ?_⟩) ?_
                      rotate_left 1
                      · (intro w; first | (go_simp; done) | (go_simp; with_reducible rfl))
                      change wpAny _ _ _ _ _ _ (Act.put _ (some 79) _) _
                      refine wpAny_ready (rs := [10]) (by kernel_rfl) (by simp) ?_
                      refine AllReady.cons rfl (fun K hK => ?_) AllReady.nil
                      go_simp
                      refine hK _ _ ?_
                      clear hK K
                      refine wpAny_take (i := 11) (v := ?_) rfl (by kernel_rfl) (by kernel_rfl) (by kernel_rfl) (fun _ _ _ h => h) (Or.inl ⟨by kernel_rfl, ?_⟩) ?_
                      rotate_left 1
                      · (intro w; first | (go_simp; done) | (go_simp; with_reducible rfl))
                      change wpAny _ _ _ _ _ _ (Act.put _ (some 81) _) _
                      refine wpAny_take (i := 12) (v := ?_) rfl (by kernel_rfl) (by kernel_rfl) (by kernel_rfl) (fun _ _ _ h => h) (Or.inl ⟨by kernel_rfl, ?_⟩) ?_
                      rotate_left 1
                      · (intro w; first | (go_simp; done) | (go_simp; with_reducible rfl))
                      change wpAny _ _ _ _ _ _ (Act.put _ (some 82) _) _
                      refine wpAny_take (i := 13) (v := undef) rfl (by kernel_rfl) (by kernel_rfl) (by kernel_rfl) (fun _ _ _ h => h) (Or.inr ⟨by kernel_rfl, rfl⟩) ?_
                      change wpAny _ _ _ _ _ _ (Act.put _ (some 83) _) _
                      refine wpAny_take (i := 14) (v := undef) rfl (by kernel_rfl) (by kernel_rfl) (by kernel_rfl) (fun _ _ _ h => h) (Or.inr ⟨by kernel_rfl, rfl⟩) ?_
                      change wpAny _ _ _ _ _ _ (Act.put _ (some 84) _) _
                      refine wpAny_take (i := 15) (v := ?_) rfl (by kernel_rfl) (by kernel_rfl) (by kernel_rfl) (fun _ _ _ h => h) (Or.inl ⟨by kernel_rfl, ?_⟩) ?_
                      rotate_left 1
                      · (intro w; first | (go_simp; done) | (go_simp; with_reducible rfl))
                      change wpAny _ _ _ _ _ _ (Act.put _ (some 85) _) _
                      refine wpAny_take (i := 16) (v := ?_) rfl (by kernel_rfl) (by kernel_rfl) (by kernel_rfl) (fun _ _ _ h => h) (Or.inl ⟨by kernel_rfl, ?_⟩) ?_
                      rotate_left 1
                      · (intro w; first | (go_simp; done) | (go_simp; with_reducible rfl))
                      change wpAny _ _ _ _ _ _ (Act.put _ (some 86) _) _
                      refine wpAny_take (i := 17) (v := ?_) rfl (by kernel_rfl) (by kernel_rfl) (by kernel_rfl) (fun _ _ _ h => h) (Or.inl ⟨by kernel_rfl, ?_⟩) ?_
                      rotate_left 1
                      · (intro w; first | (go_simp; done) | (go_simp; with_reducible rfl))
                      change wpAny _ _ _ _ _ _ (Act.put _ (some 87) _) _
                      refine wpAny_take (i := 18) (v := ?_) rfl (by kernel_rfl) (by kernel_rfl) (by kernel_rfl) (fun _ _ _ h => h) (Or.inl ⟨by kernel_rfl, ?_⟩) ?_
                      rotate_left 1
                      · (intro w; first | (go_simp; done) | (go_simp; with_reducible rfl))
                      change wpAny _ _ _ _ _ _ (Act.put _ (some 9) _) _
                      refine wpAny_done (by kernel_rfl) ?_ _
                      go_simp
                      have HG := Lib.hid hg2
                      clear hg2 y0 y1
                      go_wp2
                      go_roundg (n + 1 - (h + 1))
                      case measure => omega
                      case rel => exact ⟨h + 1, by rw [HV.out], by simp, by omega, by omega, rfl, HG⟩
                    | true =>
                      have HV : Hid (aheB true X L 0 (h + 1 - 0) = true) := Lib.hid (by rw [show h + 1 - 0 = (h - 0) + 1 from by omega, aheB_more, show 0 + (h - 0) = h from by omega, hv, hb1]; rfl)
                      clear hb1 hv
                      go_wp2_with fail
                      refine wp_region_any (by kernel_rfl) ?_
                      try (change wpAny _ _ _ _ _ _ _ (World.drew _))
                      refine wpAny_take (i := 0) (v := ?_) rfl (by kernel_rfl) (by kernel_rfl) (by kernel_rfl) (fun _ _ _ h => h) (Or.inl ⟨by kernel_rfl, ?_⟩) ?_
                      rotate_left 1
                      · (intro w; first | (go_simp; done) | (go_simp; with_reducible rfl))
                      change wpAny _ _ _ _ _ _ (Act.put _ (some 70) _) _
                      refine wpAny_take (i := 1) (v := ?_) rfl (by kernel_rfl) (by kernel_rfl) (by kernel_rfl) (fun _ _ _ h => h) (Or.inl ⟨by kernel_rfl, ?_⟩) ?_
                      rotate_left 1
                      · (intro w; first | (go_simp; done) | (go_simp; with_reducible rfl))
                      change wpAny _ _ _ _ _ _ (Act.put _ (some 71) _) _
                      refine wpAny_take (i := 3) (v := ?_) rfl (by kernel_rfl) (by kernel_rfl) (by kernel_rfl) (fun _ _ _ h => h) (Or.inl ⟨by kernel_rfl, ?_⟩) ?_
                      rotate_left 1
                      · (intro w; first | (go_simp; done) | (go_simp; with_reducible rfl))
                      change wpAny _ _ _ _ _ _ (Act.put _ (some 73) _) _
                      refine wpAny_take (i := 4) (v := ?_) rfl (by kernel_rfl) (by kernel_rfl) (by kernel_rfl) (fun _ _ _ h => h) (Or.inl ⟨by kernel_rfl, ?_⟩) ?_
                      rotate_left 1
                      · (intro w; first | (go_simp; done) | (go_simp; with_reducible rfl))
                      change wpAny _ _ _ _ _ _ (Act.put _ (some 74) _) _
                      refine wpAny_take (i := 5) (v := ?_) rfl (by kernel_rfl) (by kernel_rfl) (by kernel_rfl) (fun _ _ _ h => h) (Or.inl ⟨by kernel_rfl, ?_⟩) ?_
                      rotate_left 1
                      · (intro w; first | (go_simp; done) | (go_simp; with_reducible rfl))
                      change wpAny _ _ _ _ _ _ (Act.put _ (some 75) _) _
                      refine wpAny_take (i := 6) (v := ?_) rfl (by kernel_rfl) (by kernel_rfl) (by kernel_rfl) (fun _ _ _ h => h) (Or.inl ⟨by kernel_rfl, ?_⟩) ?_
                      rotate_left 1
                      · (intro w; first | (go_simp; done) | (go_simp; with_reducible rfl))
                      change wpAny _ _ _ _ _ _ (Act.put _ (some 76) _) _
                      refine wpAny_ready (rs := [2]) (by kernel_rfl) (by simp) ?_
                      refine AllReady.cons rfl (fun K hK => ?_) AllReady.nil
                      go_simp
                      refine hK _ _ ?_
                      clear hK K
                      refine wpAny_ready (rs := [7]) (by kernel_rfl) (by simp) ?_
                      refine AllReady.cons rfl (fun K hK => ?_) AllReady.nil
                      go_simp
                      go_wp2_with (refine HC1.out.mono ?_; rintro e w5 ⟨rfl, hg⟩; obtain ⟨y0, y1, hg2⟩ := hg)
                      refine wpAny_take (i := 8) (v := ?_) rfl (by kernel_rfl) (by kernel_rfl) (by kernel_rfl) (fun _ _ _ h => h) (Or.inl ⟨by kernel_rfl, ?_⟩) ?_
                      rotate_left 1
                      · (intro w; first | (go_simp; done) | (go_simp; with_reducible rfl))
                      change wpAny _ _ _ _ _ _ (Act.put _ (some 78) _) _
                      refine wpAny_take (i := 9) (v := ?_) rfl (by kernel_rfl) (by kernel_rfl) (by kernel_rfl) (fun _ _ _ h => h) (Or.inl ⟨by kernel_rfl, ?_⟩) ?_
                      rotate_left 1
                      · (intro w; first | (go_simp; done) | (go_simp; with_reducible rfl))
                      change wpAny _ _ _ _ _ _ (Act.put _ (some 79) _) _
                      refine wpAny_ready (rs := [10]) (by kernel_rfl) (by simp) ?_
                      refine AllReady.cons rfl (fun K hK => ?_) AllReady.nil
                      go_simp
                      refine hK _ _ ?_
                      clear hK K
                      refine wpAny_take (i := 11) (v := ?_) rfl (by kernel_rfl) (by kernel_rfl) (by kernel_rfl) (fun _ _ _ h => h) (Or.inl ⟨by kernel_rfl, ?_⟩) ?_
                      rotate_left 1
                      · (intro w; first | (go_simp; done) | (go_simp; with_reducible rfl))
                      change wpAny _ _ _ _ _ _ (Act.put _ (some 81) _) _
                      refine wpAny_take (i := 12) (v := ?_) rfl (by kernel_rfl) (by kernel_rfl) (by kernel_rfl) (fun _ _ _ h => h) (Or.inl ⟨by kernel_rfl, ?_⟩) ?_
                      rotate_left 1
                      · (intro w; first | (go_simp; done) | (go_simp; with_reducible rfl))
                      change wpAny _ _ _ _ _ _ (Act.put _ (some 82) _) _
                      refine wpAny_take (i := 13) (v := ?_) rfl (by kernel_rfl) (by kernel_rfl) (by kernel_rfl) (fun _ _ _ h => h) (Or.inl ⟨by kernel_rfl, ?_⟩) ?_
                      rotate_left 1
                      · (intro w; first | (go_simp; done) | (go_simp; with_reducible rfl))
                      change wpAny _ _ _ _ _ _ (Act.put _ (some 83) _) _
                      refine wpAny_take (i := 14) (v := ?_) rfl (by kernel_rfl) (by kernel_rfl) (by kernel_rfl) (fun _ _ _ h => h) (Or.inl ⟨by kernel_rfl, ?_⟩) ?_
                      rotate_left 1
                      · (intro w; first | (go_simp; done) | (go_simp; with_reducible rfl))
                      change wpAny _ _ _ _ _ _ (Act.put _ (some 84) _) _
                      refine wpAny_take (i := 15) (v := ?_) rfl (by kernel_rfl) (by kernel_rfl) (by kernel_rfl) (fun _ _ _ h => h) (Or.inl ⟨by kernel_rfl, ?_⟩) ?_
                      rotate_left 1
                      · (intro w; first | (go_simp; done) | (go_simp; with_reducible rfl))
                      change wpAny _ _ _ _ _ _ (Act.put _ (some 85) _) _
                      refine wpAny_take (i := 16) (v := ?_) rfl (by kernel_rfl) (by kernel_rfl) (by kernel_rfl) (fun _ _ _ h => h) (Or.inl ⟨by kernel_rfl, ?_⟩) ?_
                      rotate_left 1
                      · (intro w; first | (go_simp; done) | (go_simp; with_reducible rfl))
                      change wpAny _ _ _ _ _ _ (Act.put _ (some 86) _) _
                      refine wpAny_take (i := 17) (v := ?_) rfl (by kernel_rfl) (by kernel_rfl) (by kernel_rfl) (fun _ _ _ h => h) (Or.inl ⟨by kernel_rfl, ?_⟩) ?_
                      rotate_left 1
                      · (intro w; first | (go_simp; done) | (go_simp; with_reducible rfl))
                      change wpAny _ _ _ _ _ _ (Act.put _ (some 87) _) _
                      refine wpAny_take (i := 18) (v := ?_) rfl (by kernel_rfl) (by kernel_rfl) (by kernel_rfl) (fun _ _ _ h => h) (Or.inl ⟨by kernel_rfl, ?_⟩) ?_
                      rotate_left 1
                      · (intro w; first | (go_simp; done) | (go_simp; with_reducible rfl))
                      change wpAny _ _ _ _ _ _ (Act.put _ (some 9) _) _
                      refine wpAny_done (by kernel_rfl) ?_ _
                      go_simp
                      have HG := Lib.hid hg2
                      clear hg2 y0 y1
                      go_wp2
                      go_roundg (n + 1 - (h + 1))
                      case measure => omega
                      case rel => exact ⟨h + 1, by rw [HV.out], by simp, by omega, by omega, rfl, HG⟩
                · have hI : (((a : Nat) : Int) == 0) = false := by rw [beq_eq_false_iff_ne]; omega
                  by_cases hje : lcap = a
                  · subst hje
                    obtain rfl : n = lcap := by omega
                    obtain rfl : h = n := by omega
                    replace HC1 : Hid (Calls Tryz.prog 15 #[patV st o k cap, .slice (some ⟨g, off, none⟩) 0 0] wr.drew fun e w' => e = .returned (.bool (fitsA X (segP L h h))) ∧ w'.cell? ⟨w.heap.size, 0, none⟩ = some (.bool st) ∧ w'.cell? ⟨w.heap.size, 1, none⟩ = some (.slice o k cap) ∧ Below w3.heap.size w3 w') := by
                      have e : dropO (some ⟨g, off, none⟩) h h = some ⟨g, off, none⟩ := by unfold dropO; simp
                      rw [e, Nat.sub_self] at HC1
                      exact HC1
                    cases hb1 : fitsA X (segP L h h) with
                    | false =>
                      rw [hb1] at HC1
                      have HV : Hid (aheB st X L h (h + 1 - h) = false) := Lib.hid (by rw [show h + 1 - h = (h - h) + 1 from by omega, aheB_more, show h + (h - h) = h from by omega, hv, hb1]; rfl)
                      clear hb1 hv
                      go_wp2_with fail
                      refine wp_region_any (by kernel_rfl) ?_
                      try (change wpAny _ _ _ _ _ _ _ (World.drew _))
                      refine wpAny_take (i := 0) (v := ?_) rfl (by kernel_rfl) (by kernel_rfl) (by kernel_rfl) (fun _ _ _ h => h) (Or.inl ⟨by kernel_rfl, ?_⟩) ?_
                      rotate_left 1
                      · (intro w; first | (go_simp; done) | (go_simp; with_reducible rfl))
                      change wpAny _ _ _ _ _ _ (Act.put _ (some 70) _) _
                      refine wpAny_take (i := 1) (v := ?_) rfl (by kernel_rfl) (by kernel_rfl) (by kernel_rfl) (fun _ _ _ h => h) (Or.inl ⟨by kernel_rfl, ?_⟩) ?_
                      rotate_left 1
                      · (intro w; first | (go_simp; done) | (go_simp; with_reducible rfl))
                      change wpAny _ _ _ _ _ _ (Act.put _ (some 71) _) _
                      refine wpAny_take (i := 3) (v := ?_) rfl (by kernel_rfl) (by kernel_rfl) (by kernel_rfl) (fun _ _ _ h => h) (Or.inl ⟨by kernel_rfl, ?_⟩) ?_
                      rotate_left 1
                      · (intro w; first | (go_simp; done) | (go_simp; with_reducible rfl))
                      change wpAny _ _ _ _ _ _ (Act.put _ (some 73) _) _
                      refine wpAny_take (i := 4) (v := ?_) rfl (by kernel_rfl) (by kernel_rfl) (by kernel_rfl) (fun _ _ _ h => h) (Or.inl ⟨by kernel_rfl, ?_⟩) ?_
                      rotate_left 1
                      · (intro w; first | (go_simp; done) | (go_simp; with_reducible rfl))
                      change wpAny _ _ _ _ _ _ (Act.put _ (some 74) _) _
                      refine wpAny_take (i := 5) (v := ?_) rfl (by kernel_rfl) (by kernel_rfl) (by kernel_rfl) (fun _ _ _ h => h) (Or.inl ⟨by kernel_rfl, ?_⟩) ?_
                      rotate_left 1
                      · (intro w; first | (go_simp; done) | (go_simp; with_reducible rfl))
                      change wpAny _ _ _ _ _ _ (Act.put _ (some 75) _) _
                      refine wpAny_take (i := 6) (v := ?_) rfl (by kernel_rfl) (by kernel_rfl) (by kernel_rfl) (fun _ _ _ h => h) (Or.inl ⟨by kernel_rfl, ?_⟩) ?_
                      rotate_left 1
                      · (intro w; first | (go_simp; done) | (go_simp; with_reducible rfl))
                      change wpAny _ _ _ _ _ _ (Act.put _ (some 76) _) _
                      refine wpAny_ready (rs := [2]) (by kernel_rfl) (by simp) ?_
                      refine AllReady.cons rfl (fun K hK => ?_) AllReady.nil
                      go_simp
                      refine hK _ _ ?_
                      clear hK K
                      refine wpAny_ready (rs := [7]) (by kernel_rfl) (by simp) ?_
                      refine AllReady.cons rfl (fun K hK => ?_) AllReady.nil
                      go_simp
                      go_wp2_with (refine HC1.out.mono ?_; rintro e w5 ⟨rfl, hg⟩; obtain ⟨y0, y1, hg2⟩ := hg)
                      refine wpAny_take (i := 8) (v := ?_) rfl (by kernel_rfl) (by kernel_rfl) (by kernel_rfl) (fun _ _ _ h => h) (Or.inl ⟨by kernel_rfl, ?_⟩) ?_
                      rotate_left 1
                      · (intro w; first | (go_simp; done) | (go_simp; with_reducible rfl))
                      change wpAny _ _ _ _ _ _ (Act.put _ (some 78) _) _
                      refine wpAny_take (i := 9) (v := undef) rfl (by kernel_rfl) (by kernel_rfl) (by kernel_rfl) (fun _ _ _ h => h) (Or.inr ⟨by kernel_rfl, rfl⟩) ?_
                      change wpAny _ _ _ _ _ _ (Act.put _ (some 79) _) _
                      refine wpAny_take (i := 10) (v := undef) rfl (by kernel_rfl) (by kernel_rfl) (by kernel_rfl) (fun _ _ _ h => h) (Or.inr ⟨by kernel_rfl, rfl⟩) ?_
                      change wpAny _ _ _ _ _ _ (Act.put _ (some 80) _) _
                      refine wpAny_take (i := 11) (v := undef) rfl (by kernel_rfl) (by kernel_rfl) (by kernel_rfl) (fun _ _ _ h => h) (Or.inr ⟨by kernel_rfl, rfl⟩) ?_
                      change wpAny _ _ _ _ _ _ (Act.put _ (some 81) _) _
                      refine wpAny_take (i := 12) (v := undef) rfl (by kernel_rfl) (by kernel_rfl) (by kernel_rfl) (fun _ _ _ h => h) (Or.inr ⟨by kernel_rfl, rfl⟩) ?_
                      change wpAny _ _ _ _ _ _ (Act.put _ (some 82) _) _
                      refine wpAny_take (i := 13) (v := undef) rfl (by kernel_rfl) (by kernel_rfl) (by kernel_rfl) (fun _ _ _ h => h) (Or.inr ⟨by kernel_rfl, rfl⟩) ?_
                      change wpAny _ _ _ _ _ _ (Act.put _ (some 83) _) _
                      refine wpAny_take (i := 14) (v := undef) rfl (by kernel_rfl) (by kernel_rfl) (by kernel_rfl) (fun _ _ _ h => h) (Or.inr ⟨by kernel_rfl, rfl⟩) ?_
                      change wpAny _ _ _ _ _ _ (Act.put _ (some 84) _) _
                      refine wpAny_take (i := 15) (v := undef) rfl (by kernel_rfl) (by kernel_rfl) (by kernel_rfl) (fun _ _ _ h => h) (Or.inr ⟨by kernel_rfl, rfl⟩) ?_
                      change wpAny _ _ _ _ _ _ (Act.put _ (some 85) _) _
                      refine wpAny_take (i := 16) (v := ?_) rfl (by kernel_rfl) (by kernel_rfl) (by kernel_rfl) (fun _ _ _ h => h) (Or.inl ⟨by kernel_rfl, ?_⟩) ?_
                      rotate_left 1
                      · (intro w; first | (go_simp; done) | (go_simp; with_reducible rfl))
                      change wpAny _ _ _ _ _ _ (Act.put _ (some 86) _) _
                      refine wpAny_take (i := 17) (v := ?_) rfl (by kernel_rfl) (by kernel_rfl) (by kernel_rfl) (fun _ _ _ h => h) (Or.inl ⟨by kernel_rfl, ?_⟩) ?_
                      rotate_left 1
                      · (intro w; first | (go_simp; done) | (go_simp; with_reducible rfl))
                      change wpAny _ _ _ _ _ _ (Act.put _ (some 87) _) _
                      refine wpAny_take (i := 18) (v := ?_) rfl (by kernel_rfl) (by kernel_rfl) (by kernel_rfl) (fun _ _ _ h => h) (Or.inl ⟨by kernel_rfl, ?_⟩) ?_
                      rotate_left 1
                      · (intro w; first | (go_simp; done) | (go_simp; with_reducible rfl))
                      change wpAny _ _ _ _ _ _ (Act.put _ (some 9) _) _
                      refine wpAny_done (by kernel_rfl) ?_ _
                      go_simp
                      have HG := Lib.hid hg2
                      clear hg2 y0 y1
                      go_wp2
                      go_roundg (h + 1 - (h + 1))
                      case measure => omega
                      case rel => exact ⟨h + 1, by rw [HV.out], by simp, by omega, by omega, rfl, HG⟩
                    | true =>
                      rw [hb1] at HC1
                      cases st with
                      | false =>
                        have HV : Hid (aheB false X L h (h + 1 - h) = true) := Lib.hid (by rw [show h + 1 - h = (h - h) + 1 from by omega, aheB_more, show h + (h - h) = h from by omega, hv, hb1]; rfl)
                        clear hb1 hv
                        go_wp2_with fail
                        refine wp_region_any (by kernel_rfl) ?_
                        try (change wpAny _ _ _ _ _ _ _ (World.drew _))
                        refine wpAny_take (i := 0) (v := ?_) rfl (by kernel_rfl) (by kernel_rfl) (by kernel_rfl) (fun _ _ _ h => h) (Or.inl ⟨by kernel_rfl, ?_⟩) ?_
                        rotate_left 1
                        · (intro w; first | (go_simp; done) | (go_simp; with_reducible rfl))
                        change wpAny _ _ _ _ _ _ (Act.put _ (some 70) _) _
                        refine wpAny_take (i := 1) (v := ?_) rfl (by kernel_rfl) (by kernel_rfl) (by kernel_rfl) (fun _ _ _ h => h) (Or.inl ⟨by kernel_rfl, ?_⟩) ?_
                        rotate_left 1
                        · (intro w; first | (go_simp; done) | (go_simp; with_reducible rfl))
                        change wpAny _ _ _ _ _ _ (Act.put _ (some 71) _) _
                        refine wpAny_take (i := 3) (v := ?_) rfl (by kernel_rfl) (by kernel_rfl) (by kernel_rfl) (fun _ _ _ h => h) (Or.inl ⟨by kernel_rfl, ?_⟩) ?_
                        rotate_left 1
                        · (intro w; first | (go_simp; done) | (go_simp; with_reducible rfl))
                        change wpAny _ _ _ _ _ _ (Act.put _ (some 73) _) _
                        refine wpAny_take (i := 4) (v := ?_) rfl (by kernel_rfl) (by kernel_rfl) (by kernel_rfl) (fun _ _ _ h => h) (Or.inl ⟨by kernel_rfl, ?_⟩) ?_
                        rotate_left 1
                        · (intro w; first | (go_simp; done) | (go_simp; with_reducible rfl))
                        change wpAny _ _ _ _ _ _ (Act.put _ (some 74) _) _
                        refine wpAny_take (i := 5) (v := ?_) rfl (by kernel_rfl) (by kernel_rfl) (by kernel_rfl) (fun _ _ _ h => h) (Or.inl ⟨by kernel_rfl, ?_⟩) ?_
                        rotate_left 1
                        · (intro w; first | (go_simp; done) | (go_simp; with_reducible rfl))
                        change wpAny _ _ _ _ _ _ (Act.put _ (some 75) _) _
                        refine wpAny_take (i := 6) (v := ?_) rfl (by kernel_rfl) (by kernel_rfl) (by kernel_rfl) (fun _ _ _ h => h) (Or.inl ⟨by kernel_rfl, ?_⟩) ?_
                        rotate_left 1
                        · (intro w; first | (go_simp; done) | (go_simp; with_reducible rfl))
                        change wpAny _ _ _ _ _ _ (Act.put _ (some 76) _) _
                        refine wpAny_ready (rs := [2]) (by kernel_rfl) (by simp) ?_
                        refine AllReady.cons rfl (fun K hK => ?_) AllReady.nil
                        go_simp
                        refine hK _ _ ?_
                        clear hK K
                        refine wpAny_ready (rs := [7]) (by kernel_rfl) (by simp) ?_
                        refine AllReady.cons rfl (fun K hK => ?_) AllReady.nil
                        go_simp
                        go_wp2_with (refine HC1.out.mono ?_; rintro e w5 ⟨rfl, hg⟩; obtain ⟨y0, y1, hg2⟩ := hg)
                        refine wpAny_take (i := 8) (v := ?_) rfl (by kernel_rfl) (by kernel_rfl) (by kernel_rfl) (fun _ _ _ h => h) (Or.inl ⟨by kernel_rfl, ?_⟩) ?_
                        rotate_left 1
                        · (intro w; first | (go_simp; done) | (go_simp; with_reducible rfl))
                        change wpAny _ _ _ _ _ _ (Act.put _ (some 78) _) _
                        refine wpAny_take (i := 9) (v := ?_) rfl (by kernel_rfl) (by kernel_rfl) (by kernel_rfl) (fun _ _ _ h => h) (Or.inl ⟨by kernel_rfl, ?_⟩) ?_
                        rotate_left 1
                        · (intro w; first | (go_simp; done) | (go_simp; with_reducible rfl))
                        change wpAny _ _ _ _ _ _ (Act.put _ (some 79) _) _
                        refine wpAny_ready (rs := [10]) (by kernel_rfl) (by simp) ?_
                        refine AllReady.cons rfl (fun K hK => ?_) AllReady.nil
                        go_simp
                        refine hK _ _ ?_
                        clear hK K
                        refine wpAny_take (i := 11) (v := ?_) rfl (by kernel_rfl) (by kernel_rfl) (by kernel_rfl) (fun _ _ _ h => h) (Or.inl ⟨by kernel_rfl, ?_⟩) ?_
                        rotate_left 1
                        · (intro w; first | (go_simp; done) | (go_simp; with_reducible rfl))
                        change wpAny _ _ _ _ _ _ (Act.put _ (some 81) _) _
                        refine wpAny_take (i := 12) (v := ?_) rfl (by kernel_rfl) (by kernel_rfl) (by kernel_rfl) (fun _ _ _ h => h) (Or.inl ⟨by kernel_rfl, ?_⟩) ?_
                        rotate_left 1
                        · (intro w; first | (go_simp; done) | (go_simp; with_reducible rfl))
                        change wpAny _ _ _ _ _ _ (Act.put _ (some 82) _) _
                        refine wpAny_take (i := 13) (v := undef) rfl (by kernel_rfl) (by kernel_rfl) (by kernel_rfl) (fun _ _ _ h => h) (Or.inr ⟨by kernel_rfl, rfl⟩) ?_
                        change wpAny _ _ _ _ _ _ (Act.put _ (some 83) _) _
                        refine wpAny_take (i := 14) (v := undef) rfl (by kernel_rfl) (by kernel_rfl) (by kernel_rfl) (fun _ _ _ h => h) (Or.inr ⟨by kernel_rfl, rfl⟩) ?_
                        change wpAny _ _ _ _ _ _ (Act.put _ (some 84) _) _
                        refine wpAny_take (i := 15) (v := ?_) rfl (by kernel_rfl) (by kernel_rfl) (by kernel_rfl) (fun _ _ _ h => h) (Or.inl ⟨by kernel_rfl, ?_⟩) ?_
                        rotate_left 1
                        · (intro w; first | (go_simp; done) | (go_simp; with_reducible rfl))
                        change wpAny _ _ _ _ _ _ (Act.put _ (some 85) _) _
                        refine wpAny_take (i := 16) (v := ?_) rfl (by kernel_rfl) (by kernel_rfl) (by kernel_rfl) (fun _ _ _ h => h) (Or.inl ⟨by kernel_rfl, ?_⟩) ?_
                        rotate_left 1
                        · (intro w; first | (go_simp; done) | (go_simp; with_reducible rfl))
                        change wpAny _ _ _ _ _ _ (Act.put _ (some 86) _) _
                        refine wpAny_take (i := 17) (v := ?_) rfl (by kernel_rfl) (by kernel_rfl) (by kernel_rfl) (fun _ _ _ h => h) (Or.inl ⟨by kernel_rfl, ?_⟩) ?_
                        rotate_left 1
                        · (intro w; first | (go_simp; done) | (go_simp; with_reducible rfl))
                        change wpAny _ _ _ _ _ _ (Act.put _ (some 87) _) _
                        refine wpAny_take (i := 18) (v := ?_) rfl (by kernel_rfl) (by kernel_rfl) (by kernel_rfl) (fun _ _ _ h => h) (Or.inl ⟨by kernel_rfl, ?_⟩) ?_
                        rotate_left 1
                        · (intro w; first | (go_simp; done) | (go_simp; with_reducible rfl))
                        change wpAny _ _ _ _ _ _ (Act.put _ (some 9) _) _
                        refine wpAny_done (by kernel_rfl) ?_ _
                        go_simp
                        have HG := Lib.hid hg2
                        clear hg2 y0 y1
                        go_wp2
                        go_roundg (h + 1 - (h + 1))
                        case measure => omega
                        case rel => exact ⟨h + 1, by rw [HV.out], by simp, by omega, by omega, rfl, HG⟩
                      | true =>
                        have HV : Hid (aheB true X L h (h + 1 - h) = false) := Lib.hid (by rw [show h + 1 - h = (h - h) + 1 from by omega, aheB_more, show h + (h - h) = h from by omega, hv, hb1]; simp [hi0])
                        clear hb1 hv
                        go_wp2_with fail
                        refine wp_region_any (by kernel_rfl) ?_
                        try (change wpAny _ _ _ _ _ _ _ (World.drew _))
                        refine wpAny_take (i := 0) (v := ?_) rfl (by kernel_rfl) (by kernel_rfl) (by kernel_rfl) (fun _ _ _ h => h) (Or.inl ⟨by kernel_rfl, ?_⟩) ?_
                        rotate_left 1
                        · (intro w; first | (go_simp; done) | (go_simp; with_reducible rfl))
                        change wpAny _ _ _ _ _ _ (Act.put _ (some 70) _) _
                        refine wpAny_take (i := 1) (v := ?_) rfl (by kernel_rfl) (by kernel_rfl) (by kernel_rfl) (fun _ _ _ h => h) (Or.inl ⟨by kernel_rfl, ?_⟩) ?_
                        rotate_left 1
                        · (intro w; first | (go_simp; done) | (go_simp; with_reducible rfl))
                        change wpAny _ _ _ _ _ _ (Act.put _ (some 71) _) _
                        refine wpAny_take (i := 3) (v := ?_) rfl (by kernel_rfl) (by kernel_rfl) (by kernel_rfl) (fun _ _ _ h => h) (Or.inl ⟨by kernel_rfl, ?_⟩) ?_
                        rotate_left 1
                        · (intro w; first | (go_simp; done) | (go_simp; with_reducible rfl))
                        change wpAny _ _ _ _ _ _ (Act.put _ (some 73) _) _
                        refine wpAny_take (i := 4) (v := ?_) rfl (by kernel_rfl) (by kernel_rfl) (by kernel_rfl) (fun _ _ _ h => h) (Or.inl ⟨by kernel_rfl, ?_⟩) ?_
                        rotate_left 1
                        · (intro w; first | (go_simp; done) | (go_simp; with_reducible rfl))
                        change wpAny _ _ _ _ _ _ (Act.put _ (some 74) _) _
                        refine wpAny_take (i := 5) (v := ?_) rfl (by kernel_rfl) (by kernel_rfl) (by kernel_rfl) (fun _ _ _ h => h) (Or.inl ⟨by kernel_rfl, ?_⟩) ?_
                        rotate_left 1
                        · (intro w; first | (go_simp; done) | (go_simp; with_reducible rfl))
                        change wpAny _ _ _ _ _ _ (Act.put _ (some 75) _) _
                        refine wpAny_take (i := 6) (v := ?_) rfl (by kernel_rfl) (by kernel_rfl) (by kernel_rfl) (fun _ _ _ h => h) (Or.inl ⟨by kernel_rfl, ?_⟩) ?_
                        rotate_left 1
                        · (intro w; first | (go_simp; done) | (go_simp; with_reducible rfl))
                        change wpAny _ _ _ _ _ _ (Act.put _ (some 76) _) _
                        refine wpAny_ready (rs := [2]) (by kernel_rfl) (by simp) ?_
                        refine AllReady.cons rfl (fun K hK => ?_) AllReady.nil
                        go_simp
                        refine hK _ _ ?_
                        clear hK K
                        refine wpAny_ready (rs := [7]) (by kernel_rfl) (by simp) ?_
                        refine AllReady.cons rfl (fun K hK => ?_) AllReady.nil
                        go_simp
                        go_wp2_with (refine HC1.out.mono ?_; rintro e w5 ⟨rfl, hg⟩; obtain ⟨y0, y1, hg2⟩ := hg)
                        refine wpAny_take (i := 8) (v := ?_) rfl (by kernel_rfl) (by kernel_rfl) (by kernel_rfl) (fun _ _ _ h => h) (Or.inl ⟨by kernel_rfl, ?_⟩) ?_
                        rotate_left 1
                        · (intro w; first | (go_simp; done) | (go_simp; with_reducible rfl))
                        change wpAny _ _ _ _ _ _ (Act.put _ (some 78) _) _
                        refine wpAny_take (i := 9) (v := ?_) rfl (by kernel_rfl) (by kernel_rfl) (by kernel_rfl) (fun _ _ _ h => h) (Or.inl ⟨by kernel_rfl, ?_⟩) ?_
                        rotate_left 1
                        · (intro w; first | (go_simp; done) | (go_simp; with_reducible rfl))
                        change wpAny _ _ _ _ _ _ (Act.put _ (some 79) _) _
                        refine wpAny_ready (rs := [10]) (by kernel_rfl) (by simp) ?_
                        refine AllReady.cons rfl (fun K hK => ?_) AllReady.nil
                        go_simp
                        refine hK _ _ ?_
                        clear hK K
                        refine wpAny_take (i := 11) (v := ?_) rfl (by kernel_rfl) (by kernel_rfl) (by kernel_rfl) (fun _ _ _ h => h) (Or.inl ⟨by kernel_rfl, ?_⟩) ?_
                        rotate_left 1
                        · (intro w; first | (go_simp; done) | (go_simp; with_reducible rfl))
                        change wpAny _ _ _ _ _ _ (Act.put _ (some 81) _) _
                        refine wpAny_take (i := 12) (v := ?_) rfl (by kernel_rfl) (by kernel_rfl) (by kernel_rfl) (fun _ _ _ h => h) (Or.inl ⟨by kernel_rfl, ?_⟩) ?_
                        rotate_left 1
                        · (intro w; first | (go_simp; done) | (go_simp; with_reducible rfl))
                        change wpAny _ _ _ _ _ _ (Act.put _ (some 82) _) _
                        refine wpAny_take (i := 13) (v := ?_) rfl (by kernel_rfl) (by kernel_rfl) (by kernel_rfl) (fun _ _ _ h => h) (Or.inl ⟨by kernel_rfl, ?_⟩) ?_
                        rotate_left 1
                        · (intro w; first | (go_simp; done) | (go_simp; with_reducible rfl))
                        change wpAny _ _ _ _ _ _ (Act.put _ (some 83) _) _
                        refine wpAny_take (i := 14) (v := ?_) rfl (by kernel_rfl) (by kernel_rfl) (by kernel_rfl) (fun _ _ _ h => h) (Or.inl ⟨by kernel_rfl, ?_⟩) ?_
                        rotate_left 1
                        · (intro w; first | (go_simp; done) | (go_simp; with_reducible rfl))
                        change wpAny _ _ _ _ _ _ (Act.put _ (some 84) _) _
                        refine wpAny_take (i := 15) (v := ?_) rfl (by kernel_rfl) (by kernel_rfl) (by kernel_rfl) (fun _ _ _ h => h) (Or.inl ⟨by kernel_rfl, ?_⟩) ?_
                        rotate_left 1
                        · (intro w; first | (go_simp; done) | (go_simp; with_reducible rfl))
                        change wpAny _ _ _ _ _ _ (Act.put _ (some 85) _) _
                        refine wpAny_take (i := 16) (v := ?_) rfl (by kernel_rfl) (by kernel_rfl) (by kernel_rfl) (fun _ _ _ h => h) (Or.inl ⟨by kernel_rfl, ?_⟩) ?_
                        rotate_left 1
                        · (intro w; first | (go_simp; done) | (go_simp; with_reducible rfl))
                        change wpAny _ _ _ _ _ _ (Act.put _ (some 86) _) _
                        refine wpAny_take (i := 17) (v := ?_) rfl (by kernel_rfl) (by kernel_rfl) (by kernel_rfl) (fun _ _ _ h => h) (Or.inl ⟨by kernel_rfl, ?_⟩) ?_
                        rotate_left 1
                        · (intro w; first | (go_simp; done) | (go_simp; with_reducible rfl))
                        change wpAny _ _ _ _ _ _ (Act.put _ (some 87) _) _
                        refine wpAny_take (i := 18) (v := ?_) rfl (by kernel_rfl) (by kernel_rfl) (by kernel_rfl) (fun _ _ _ h => h) (Or.inl ⟨by kernel_rfl, ?_⟩) ?_
                        rotate_left 1
                        · (intro w; first | (go_simp; done) | (go_simp; with_reducible rfl))
                        change wpAny _ _ _ _ _ _ (Act.put _ (some 9) _) _
                        refine wpAny_done (by kernel_rfl) ?_ _
                        go_simp
                        have HG := Lib.hid hg2
                        clear hg2 y0 y1
                        go_wp2
                        go_roundg (h + 1 - (h + 1))
                        case measure => omega
                        case rel => exact ⟨h + 1, by rw [HV.out], by simp, by omega, by omega, rfl, HG⟩
                  · replace HC1 : Hid (Calls Tryz.prog 15 #[patV st o k cap, .slice (some ⟨g, off + a, none⟩) (h - a) (lcap - a)] wr.drew fun e w' => e = .returned (.bool (fitsA X (segP L a h))) ∧ w'.cell? ⟨w.heap.size, 0, none⟩ = some (.bool st) ∧ w'.cell? ⟨w.heap.size, 1, none⟩ = some (.slice o k cap) ∧ Below w3.heap.size w3 w') := by
                      have e : dropO (some ⟨g, off, none⟩) lcap a = some ⟨g, off + a, none⟩ := by unfold dropO; simp [hje]
                      rw [e] at HC1
                      exact HC1
                    cases hb1 : fitsA X (segP L a h) with
                    | false =>
                      rw [hb1] at HC1
                      have HV : Hid (aheB st X L a (h + 1 - a) = false) := Lib.hid (by rw [show h + 1 - a = (h - a) + 1 from by omega, aheB_more, show a + (h - a) = h from by omega, hv, hb1]; rfl)
                      clear hb1 hv
                      go_wp2_with fail
                      refine wp_region_any (by kernel_rfl) ?_
                      try (change wpAny _ _ _ _ _ _ _ (World.drew _))
                      refine wpAny_take (i := 0) (v := ?_) rfl (by kernel_rfl) (by kernel_rfl) (by kernel_rfl) (fun _ _ _ h => h) (Or.inl ⟨by kernel_rfl, ?_⟩) ?_
                      rotate_left 1
                      · (intro w; first | (go_simp; done) | (go_simp; with_reducible rfl))
                      change wpAny _ _ _ _ _ _ (Act.put _ (some 70) _) _
                      refine wpAny_take (i := 1) (v := ?_) rfl (by kernel_rfl) (by kernel_rfl) (by kernel_rfl) (fun _ _ _ h => h) (Or.inl ⟨by kernel_rfl, ?_⟩) ?_
                      rotate_left 1
                      · (intro w; first | (go_simp; done) | (go_simp; with_reducible rfl))
                      change wpAny _ _ _ _ _ _ (Act.put _ (some 71) _) _
                      refine wpAny_take (i := 3) (v := ?_) rfl (by kernel_rfl) (by kernel_rfl) (by kernel_rfl) (fun _ _ _ h => h) (Or.inl ⟨by kernel_rfl, ?_⟩) ?_
                      rotate_left 1
                      · (intro w; first | (go_simp; done) | (go_simp; with_reducible rfl))
                      change wpAny _ _ _ _ _ _ (Act.put _ (some 73) _) _
                      refine wpAny_take (i := 4) (v := ?_) rfl (by kernel_rfl) (by kernel_rfl) (by kernel_rfl) (fun _ _ _ h => h) (Or.inl ⟨by kernel_rfl, ?_⟩) ?_
                      rotate_left 1
                      · (intro w; first | (go_simp; done) | (go_simp; with_reducible rfl))
                      change wpAny _ _ _ _ _ _ (Act.put _ (some 74) _) _
                      refine wpAny_take (i := 5) (v := ?_) rfl (by kernel_rfl) (by kernel_rfl) (by kernel_rfl) (fun _ _ _ h => h) (Or.inl ⟨by kernel_rfl, ?_⟩) ?_
                      rotate_left 1
                      · (intro w; first | (go_simp; done) | (go_simp; with_reducible rfl))
                      change wpAny _ _ _ _ _ _ (Act.put _ (some 75) _) _
                      refine wpAny_take (i := 6) (v := ?_) rfl (by kernel_rfl) (by kernel_rfl) (by kernel_rfl) (fun _ _ _ h => h) (Or.inl ⟨by kernel_rfl, ?_⟩) ?_
                      rotate_left 1
                      · (intro w; first | (go_simp; done) | (go_simp; with_reducible rfl))
                      change wpAny _ _ _ _ _ _ (Act.put _ (some 76) _) _
                      refine wpAny_ready (rs := [2]) (by kernel_rfl) (by simp) ?_
                      refine AllReady.cons rfl (fun K hK => ?_) AllReady.nil
                      go_simp
                      refine hK _ _ ?_
                      clear hK K
                      refine wpAny_ready (rs := [7]) (by kernel_rfl) (by simp) ?_
                      refine AllReady.cons rfl (fun K hK => ?_) AllReady.nil
                      go_simp
                      go_wp2_with (refine HC1.out.mono ?_; rintro e w5 ⟨rfl, hg⟩; obtain ⟨y0, y1, hg2⟩ := hg)
                      refine wpAny_take (i := 8) (v := ?_) rfl (by kernel_rfl) (by kernel_rfl) (by kernel_rfl) (fun _ _ _ h => h) (Or.inl ⟨by kernel_rfl, ?_⟩) ?_
                      rotate_left 1
                      · (intro w; first | (go_simp; done) | (go_simp; with_reducible rfl))
                      change wpAny _ _ _ _ _ _ (Act.put _ (some 78) _) _
                      refine wpAny_take (i := 9) (v := undef) rfl (by kernel_rfl) (by kernel_rfl) (by kernel_rfl) (fun _ _ _ h => h) (Or.inr ⟨by kernel_rfl, rfl⟩) ?_
                      change wpAny _ _ _ _ _ _ (Act.put _ (some 79) _) _
                      refine wpAny_take (i := 10) (v := undef) rfl (by kernel_rfl) (by kernel_rfl) (by kernel_rfl) (fun _ _ _ h => h) (Or.inr ⟨by kernel_rfl, rfl⟩) ?_
                      change wpAny _ _ _ _ _ _ (Act.put _ (some 80) _) _
                      refine wpAny_take (i := 11) (v := undef) rfl (by kernel_rfl) (by kernel_rfl) (by kernel_rfl) (fun _ _ _ h => h) (Or.inr ⟨by kernel_rfl, rfl⟩) ?_
                      change wpAny _ _ _ _ _ _ (Act.put _ (some 81) _) _
                      refine wpAny_take (i := 12) (v := undef) rfl (by kernel_rfl) (by kernel_rfl) (by kernel_rfl) (fun _ _ _ h => h) (Or.inr ⟨by kernel_rfl, rfl⟩) ?_
                      change wpAny _ _ _ _ _ _ (Act.put _ (some 82) _) _
                      refine wpAny_take (i := 13) (v := undef) rfl (by kernel_rfl) (by kernel_rfl) (by kernel_rfl) (fun _ _ _ h => h) (Or.inr ⟨by kernel_rfl, rfl⟩) ?_
                      change wpAny _ _ _ _ _ _ (Act.put _ (some 83) _) _
                      refine wpAny_take (i := 14) (v := undef) rfl (by kernel_rfl) (by kernel_rfl) (by kernel_rfl) (fun _ _ _ h => h) (Or.inr ⟨by kernel_rfl, rfl⟩) ?_
                      change wpAny _ _ _ _ _ _ (Act.put _ (some 84) _) _
                      refine wpAny_take (i := 15) (v := undef) rfl (by kernel_rfl) (by kernel_rfl) (by kernel_rfl) (fun _ _ _ h => h) (Or.inr ⟨by kernel_rfl, rfl⟩) ?_
                      change wpAny _ _ _ _ _ _ (Act.put _ (some 85) _) _
                      refine wpAny_take (i := 16) (v := ?_) rfl (by kernel_rfl) (by kernel_rfl) (by kernel_rfl) (fun _ _ _ h => h) (Or.inl ⟨by kernel_rfl, ?_⟩) ?_
                      rotate_left 1
                      · (intro w; first | (go_simp; done) | (go_simp; with_reducible rfl))
                      change wpAny _ _ _ _ _ _ (Act.put _ (some 86) _) _
                      refine wpAny_take (i := 17) (v := ?_) rfl (by kernel_rfl) (by kernel_rfl) (by kernel_rfl) (fun _ _ _ h => h) (Or.inl ⟨by kernel_rfl, ?_⟩) ?_
                      rotate_left 1
                      · (intro w; first | (go_simp; done) | (go_simp; with_reducible rfl))
                      change wpAny _ _ _ _ _ _ (Act.put _ (some 87) _) _
                      refine wpAny_take (i := 18) (v := ?_) rfl (by kernel_rfl) (by kernel_rfl) (by kernel_rfl) (fun _ _ _ h => h) (Or.inl ⟨by kernel_rfl, ?_⟩) ?_
                      rotate_left 1
                      · (intro w; first | (go_simp; done) | (go_simp; with_reducible rfl))
                      change wpAny _ _ _ _ _ _ (Act.put _ (some 9) _) _
                      refine wpAny_done (by kernel_rfl) ?_ _
                      go_simp
                      have HG := Lib.hid hg2
                      clear hg2 y0 y1
                      go_wp2
                      go_roundg (n + 1 - (h + 1))
                      case measure => omega
                      case rel => exact ⟨h + 1, by rw [HV.out], by simp, by omega, by omega, rfl, HG⟩
                    | true =>
                      rw [hb1] at HC1
                      cases st with
                      | false =>
                        have HV : Hid (aheB false X L a (h + 1 - a) = true) := Lib.hid (by rw [show h + 1 - a = (h - a) + 1 from by omega, aheB_more, show a + (h - a) = h from by omega, hv, hb1]; rfl)
                        clear hb1 hv
                        go_wp2_with fail
                        refine wp_region_any (by kernel_rfl) ?_
                        try (change wpAny _ _ _ _ _ _ _ (World.drew _))
                        refine wpAny_take (i := 0) (v := ?_) rfl (by kernel_rfl) (by kernel_rfl) (by kernel_rfl) (fun _ _ _ h => h) (Or.inl ⟨by kernel_rfl, ?_⟩) ?_
                        rotate_left 1
                        · (intro w; first | (go_simp; done) | (go_simp; with_reducible rfl))
                        change wpAny _ _ _ _ _ _ (Act.put _ (some 70) _) _
                        refine wpAny_take (i := 1) (v := ?_) rfl (by kernel_rfl) (by kernel_rfl) (by kernel_rfl) (fun _ _ _ h => h) (Or.inl ⟨by kernel_rfl, ?_⟩) ?_
                        rotate_left 1
                        · (intro w; first | (go_simp; done) | (go_simp; with_reducible rfl))
                        change wpAny _ _ _ _ _ _ (Act.put _ (some 71) _) _
                        refine wpAny_take (i := 3) (v := ?_) rfl (by kernel_rfl) (by kernel_rfl) (by kernel_rfl) (fun _ _ _ h => h) (Or.inl ⟨by kernel_rfl, ?_⟩) ?_
                        rotate_left 1
                        · (intro w; first | (go_simp; done) | (go_simp; with_reducible rfl))
                        change wpAny _ _ _ _ _ _ (Act.put _ (some 73) _) _
                        refine wpAny_take (i := 4) (v := ?_) rfl (by kernel_rfl) (by kernel_rfl) (by kernel_rfl) (fun _ _ _ h => h) (Or.inl ⟨by kernel_rfl, ?_⟩) ?_
                        rotate_left 1
                        · (intro w; first | (go_simp; done) | (go_simp; with_reducible rfl))
                        change wpAny _ _ _ _ _ _ (Act.put _ (some 74) _) _
                        refine wpAny_take (i := 5) (v := ?_) rfl (by kernel_rfl) (by kernel_rfl) (by kernel_rfl) (fun _ _ _ h => h) (Or.inl ⟨by kernel_rfl, ?_⟩) ?_
                        rotate_left 1
                        · (intro w; first | (go_simp; done) | (go_simp; with_reducible rfl))
                        change wpAny _ _ _ _ _ _ (Act.put _ (some 75) _) _
                        refine wpAny_take (i := 6) (v := ?_) rfl (by kernel_rfl) (by kernel_rfl) (by kernel_rfl) (fun _ _ _ h => h) (Or.inl ⟨by kernel_rfl, ?_⟩) ?_
                        rotate_left 1
                        · (intro w; first | (go_simp; done) | (go_simp; with_reducible rfl))
                        change wpAny _ _ _ _ _ _ (Act.put _ (some 76) _) _
                        refine wpAny_ready (rs := [2]) (by kernel_rfl) (by simp) ?_
                        refine AllReady.cons rfl (fun K hK => ?_) AllReady.nil
                        go_simp
                        refine hK _ _ ?_
                        clear hK K
                        refine wpAny_ready (rs := [7]) (by kernel_rfl) (by simp) ?_
                        refine AllReady.cons rfl (fun K hK => ?_) AllReady.nil
                        go_simp
                        go_wp2_with (refine HC1.out.mono ?_; rintro e w5 ⟨rfl, hg⟩; obtain ⟨y0, y1, hg2⟩ := hg)
                        refine wpAny_take (i := 8) (v := ?_) rfl (by kernel_rfl) (by kernel_rfl) (by kernel_rfl) (fun _ _ _ h => h) (Or.inl ⟨by kernel_rfl, ?_⟩) ?_
                        rotate_left 1
                        · (intro w; first | (go_simp; done) | (go_simp; with_reducible rfl))
                        change wpAny _ _ _ _ _ _ (Act.put _ (some 78) _) _
                        refine wpAny_take (i := 9) (v := ?_) rfl (by kernel_rfl) (by kernel_rfl) (by kernel_rfl) (fun _ _ _ h => h) (Or.inl ⟨by kernel_rfl, ?_⟩) ?_
                        rotate_left 1
                        · (intro w; first | (go_simp; done) | (go_simp; with_reducible rfl))
                        change wpAny _ _ _ _ _ _ (Act.put _ (some 79) _) _
                        refine wpAny_ready (rs := [10]) (by kernel_rfl) (by simp) ?_
                        refine AllReady.cons rfl (fun K hK => ?_) AllReady.nil
                        go_simp
                        refine hK _ _ ?_
                        clear hK K
                        refine wpAny_take (i := 11) (v := ?_) rfl (by kernel_rfl) (by kernel_rfl) (by kernel_rfl) (fun _ _ _ h => h) (Or.inl ⟨by kernel_rfl, ?_⟩) ?_
                        rotate_left 1
                        · (intro w; first | (go_simp; done) | (go_simp; with_reducible rfl))
                        change wpAny _ _ _ _ _ _ (Act.put _ (some 81) _) _
                        refine wpAny_take (i := 12) (v := ?_) rfl (by kernel_rfl) (by kernel_rfl) (by kernel_rfl) (fun _ _ _ h => h) (Or.inl ⟨by kernel_rfl, ?_⟩) ?_
                        rotate_left 1
                        · (intro w; first | (go_simp; done) | (go_simp; with_reducible rfl))
                        change wpAny _ _ _ _ _ _ (Act.put _ (some 82) _) _
                        refine wpAny_take (i := 13) (v := undef) rfl (by kernel_rfl) (by kernel_rfl) (by kernel_rfl) (fun _ _ _ h => h) (Or.inr ⟨by kernel_rfl, rfl⟩) ?_
                        change wpAny _ _ _ _ _ _ (Act.put _ (some 83) _) _
                        refine wpAny_take (i := 14) (v := undef) rfl (by kernel_rfl) (by kernel_rfl) (by kernel_rfl) (fun _ _ _ h => h) (Or.inr ⟨by kernel_rfl, rfl⟩) ?_
                        change wpAny _ _ _ _ _ _ (Act.put _ (some 84) _) _
                        refine wpAny_take (i := 15) (v := ?_) rfl (by kernel_rfl) (by kernel_rfl) (by kernel_rfl) (fun _ _ _ h => h) (Or.inl ⟨by kernel_rfl, ?_⟩) ?_
                        rotate_left 1
                        · (intro w; first | (go_simp; done) | (go_simp; with_reducible rfl))
                        change wpAny _ _ _ _ _ _ (Act.put _ (some 85) _) _
                        refine wpAny_take (i := 16) (v := ?_) rfl (by kernel_rfl) (by kernel_rfl) (by kernel_rfl) (fun _ _ _ h => h) (Or.inl ⟨by kernel_rfl, ?_⟩) ?_
                        rotate_left 1
                        · (intro w; first | (go_simp; done) | (go_simp; with_reducible rfl))
                        change wpAny _ _ _ _ _ _ (Act.put _ (some 86) _) _
                        refine wpAny_take (i := 17) (v := ?_) rfl (by kernel_rfl) (by kernel_rfl) (by kernel_rfl) (fun _ _ _ h => h) (Or.inl ⟨by kernel_rfl, ?_⟩) ?_
                        rotate_left 1
                        · (intro w; first | (go_simp; done) | (go_simp; with_reducible rfl))
                        change wpAny _ _ _ _ _ _ (Act.put _ (some 87) _) _
                        refine wpAny_take (i := 18) (v := ?_) rfl (by kernel_rfl) (by kernel_rfl) (by kernel_rfl) (fun _ _ _ h => h) (Or.inl ⟨by kernel_rfl, ?_⟩) ?_
                        rotate_left 1
                        · (intro w; first | (go_simp; done) | (go_simp; with_reducible rfl))
                        change wpAny _ _ _ _ _ _ (Act.put _ (some 9) _) _
                        refine wpAny_done (by kernel_rfl) ?_ _
                        go_simp
                        have HG := Lib.hid hg2
                        clear hg2 y0 y1
                        go_wp2
                        go_roundg (n + 1 - (h + 1))
                        case measure => omega
                        case rel => exact ⟨h + 1, by rw [HV.out], by simp, by omega, by omega, rfl, HG⟩
                      | true =>
                        have HV : Hid (aheB true X L a (h + 1 - a) = false) := Lib.hid (by rw [show h + 1 - a = (h - a) + 1 from by omega, aheB_more, show a + (h - a) = h from by omega, hv, hb1]; simp [hi0])
                        clear hb1 hv
                        go_wp2_with fail
                        refine wp_region_any (by kernel_rfl) ?_
                        try (change wpAny _ _ _ _ _ _ _ (World.drew _))
                        refine wpAny_take (i := 0) (v := ?_) rfl (by kernel_rfl) (by kernel_rfl) (by kernel_rfl) (fun _ _ _ h => h) (Or.inl ⟨by kernel_rfl, ?_⟩) ?_
                        rotate_left 1
                        · (intro w; first | (go_simp; done) | (go_simp; with_reducible rfl))
                        change wpAny _ _ _ _ _ _ (Act.put _ (some 70) _) _
                        refine wpAny_take (i := 1) (v := ?_) rfl (by kernel_rfl) (by kernel_rfl) (by kernel_rfl) (fun _ _ _ h => h) (Or.inl ⟨by kernel_rfl, ?_⟩) ?_
                        rotate_left 1
                        · (intro w; first | (go_simp; done) | (go_simp; with_reducible rfl))
                        change wpAny _ _ _ _ _ _ (Act.put _ (some 71) _) _
                        refine wpAny_take (i := 3) (v := ?_) rfl (by kernel_rfl) (by kernel_rfl) (by kernel_rfl) (fun _ _ _ h => h) (Or.inl ⟨by kernel_rfl, ?_⟩) ?_
                        rotate_left 1
                        · (intro w; first | (go_simp; done) | (go_simp; with_reducible rfl))
                        change wpAny _ _ _ _ _ _ (Act.put _ (some 73) _) _
                        refine wpAny_take (i := 4) (v := ?_) rfl (by kernel_rfl) (by kernel_rfl) (by kernel_rfl) (fun _ _ _ h => h) (Or.inl ⟨by kernel_rfl, ?_⟩) ?_
                        rotate_left 1
                        · (intro w; first | (go_simp; done) | (go_simp; with_reducible rfl))
                        change wpAny _ _ _ _ _ _ (Act.put _ (some 74) _) _
                        refine wpAny_take (i := 5) (v := ?_) rfl (by kernel_rfl) (by kernel_rfl) (by kernel_rfl) (fun _ _ _ h => h) (Or.inl ⟨by kernel_rfl, ?_⟩) ?_
                        rotate_left 1
                        · (intro w; first | (go_simp; done) | (go_simp; with_reducible rfl))
                        change wpAny _ _ _ _ _ _ (Act.put _ (some 75) _) _
                        refine wpAny_take (i := 6) (v := ?_) rfl (by kernel_rfl) (by kernel_rfl) (by kernel_rfl) (fun _ _ _ h => h) (Or.inl ⟨by kernel_rfl, ?_⟩) ?_
                        rotate_left 1
                        · (intro w; first | (go_simp; done) | (go_simp; with_reducible rfl))
                        change wpAny _ _ _ _ _ _ (Act.put _ (some 76) _) _
                        refine wpAny_ready (rs := [2]) (by kernel_rfl) (by simp) ?_
                        refine AllReady.cons rfl (fun K hK => ?_) AllReady.nil
                        go_simp
                        refine hK _ _ ?_
                        clear hK K
                        refine wpAny_ready (rs := [7]) (by kernel_rfl) (by simp) ?_
                        refine AllReady.cons rfl (fun K hK => ?_) AllReady.nil
                        go_simp
                        go_wp2_with (refine HC1.out.mono ?_; rintro e w5 ⟨rfl, hg⟩; obtain ⟨y0, y1, hg2⟩ := hg)
                        refine wpAny_take (i := 8) (v := ?_) rfl (by kernel_rfl) (by kernel_rfl) (by kernel_rfl) (fun _ _ _ h => h) (Or.inl ⟨by kernel_rfl, ?_⟩) ?_
                        rotate_left 1
                        · (intro w; first | (go_simp; done) | (go_simp; with_reducible rfl))
                        change wpAny _ _ _ _ _ _ (Act.put _ (some 78) _) _
                        refine wpAny_take (i := 9) (v := ?_) rfl (by kernel_rfl) (by kernel_rfl) (by kernel_rfl) (fun _ _ _ h => h) (Or.inl ⟨by kernel_rfl, ?_⟩) ?_
                        rotate_left 1
                        · (intro w; first | (go_simp; done) | (go_simp; with_reducible rfl))
                        change wpAny _ _ _ _ _ _ (Act.put _ (some 79) _) _
                        refine wpAny_ready (rs := [10]) (by kernel_rfl) (by simp) ?_
                        refine AllReady.cons rfl (fun K hK => ?_) AllReady.nil
                        go_simp
                        refine hK _ _ ?_
                        clear hK K
                        refine wpAny_take (i := 11) (v := ?_) rfl (by kernel_rfl) (by kernel_rfl) (by kernel_rfl) (fun _ _ _ h => h) (Or.inl ⟨by kernel_rfl, ?_⟩) ?_
                        rotate_left 1
                        · (intro w; first | (go_simp; done) | (go_simp; with_reducible rfl))
                        change wpAny _ _ _ _ _ _ (Act.put _ (some 81) _) _
                        refine wpAny_take (i := 12) (v := ?_) rfl (by kernel_rfl) (by kernel_rfl) (by kernel_rfl) (fun _ _ _ h => h) (Or.inl ⟨by kernel_rfl, ?_⟩) ?_
                        rotate_left 1
                        · (intro w; first | (go_simp; done) | (go_simp; with_reducible rfl))
                        change wpAny _ _ _ _ _ _ (Act.put _ (some 82) _) _
                        refine wpAny_take (i := 13) (v := ?_) rfl (by kernel_rfl) (by kernel_rfl) (by kernel_rfl) (fun _ _ _ h => h) (Or.inl ⟨by kernel_rfl, ?_⟩) ?_
                        rotate_left 1
                        · (intro w; first | (go_simp; done) | (go_simp; with_reducible rfl))
                        change wpAny _ _ _ _ _ _ (Act.put _ (some 83) _) _
                        refine wpAny_take (i := 14) (v := ?_) rfl (by kernel_rfl) (by kernel_rfl) (by kernel_rfl) (fun _ _ _ h => h) (Or.inl ⟨by kernel_rfl, ?_⟩) ?_
                        rotate_left 1
                        · (intro w; first | (go_simp; done) | (go_simp; with_reducible rfl))
                        change wpAny _ _ _ _ _ _ (Act.put _ (some 84) _) _
                        refine wpAny_take (i := 15) (v := ?_) rfl (by kernel_rfl) (by kernel_rfl) (by kernel_rfl) (fun _ _ _ h => h) (Or.inl ⟨by kernel_rfl, ?_⟩) ?_
                        rotate_left 1
                        · (intro w; first | (go_simp; done) | (go_simp; with_reducible rfl))
                        change wpAny _ _ _ _ _ _ (Act.put _ (some 85) _) _
                        refine wpAny_take (i := 16) (v := ?_) rfl (by kernel_rfl) (by kernel_rfl) (by kernel_rfl) (fun _ _ _ h => h) (Or.inl ⟨by kernel_rfl, ?_⟩) ?_
                        rotate_left 1
                        · (intro w; first | (go_simp; done) | (go_simp; with_reducible rfl))
                        change wpAny _ _ _ _ _ _ (Act.put _ (some 86) _) _
                        refine wpAny_take (i := 17) (v := ?_) rfl (by kernel_rfl) (by kernel_rfl) (by kernel_rfl) (fun _ _ _ h => h) (Or.inl ⟨by kernel_rfl, ?_⟩) ?_
                        rotate_left 1
                        · (intro w; first | (go_simp; done) | (go_simp; with_reducible rfl))
                        change wpAny _ _ _ _ _ _ (Act.put _ (some 87) _) _
                        refine wpAny_take (i := 18) (v := ?_) rfl (by kernel_rfl) (by kernel_rfl) (by kernel_rfl) (fun _ _ _ h => h) (Or.inl ⟨by kernel_rfl, ?_⟩) ?_
                        rotate_left 1
                        · (intro w; first | (go_simp; done) | (go_simp; with_reducible rfl))
                        change wpAny _ _ _ _ _ _ (Act.put _ (some 9) _) _
                        refine wpAny_done (by kernel_rfl) ?_ _
                        go_simp
                        have HG := Lib.hid hg2
                        clear hg2 y0 y1
                        go_wp2
                        go_roundg (n + 1 - (h + 1))
                        case measure => omega
                        case rel => exact ⟨h + 1, by rw [HV.out], by simp, by omega, by omega, rfl, HG⟩
    · have hic : i ≤ lcap := by omega
      cases hv : behB st X L a i with
      | true =>
        have HV : Hid (behB st X L a (i + 1) = true) := Lib.hid (by rw [behB_more, hv]; rfl)
        clear hv
        go_wp2_with fail
        go_region
        all_goals
          go_wp2
          go_roundg (a + 1 - (i + 1))
          case measure => omega
          case rel => exact ⟨i + 1, by rw [HV.out], by simp, by omega, rfl, Lib.hid HB.out.drew⟩
      | false =>
        have HC1 : Hid (Calls Tryz.prog 15 #[patV st o k cap, .slice (dropO lo lcap i) (a - i) (lcap - i)] wr.drew fun e w' => e = .returned (.bool (fitsA X (segP L i a))) ∧ w'.cell? ⟨w.heap.size, 0, none⟩ = some (.bool st) ∧ w'.cell? ⟨w.heap.size, 1, none⟩ = some (.slice o k cap) ∧ Below w3.heap.size w3 w') := Lib.hid ((KF.out i a wr.drew hle han HBW.out.drew).mono fun e w' h => ⟨h.1, cell_keepQ (w := wr.drew) h.2 p0, cell_keepQ (w := wr.drew) h.2 p1, HB.out.drew.trans (h.2.mono HB.out.drew.size)⟩)
        cases lo with
        | none =>
          have hc0 := HSP.out.1 rfl
          subst hc0
          obtain rfl : i = 0 := by omega
          obtain rfl : a = 0 := by omega
          obtain rfl : n = 0 := by omega
          replace HC1 : Hid (Calls Tryz.prog 15 #[patV st o k cap, .slice none 0 0] wr.drew fun e w' => e = .returned (.bool (fitsA X (segP L 0 0))) ∧ w'.cell? ⟨w.heap.size, 0, none⟩ = some (.bool st) ∧ w'.cell? ⟨w.heap.size, 1, none⟩ = some (.slice o k cap) ∧ Below w3.heap.size w3 w') := HC1
          cases hb1 : fitsA X (segP L 0 0) with
          | false =>
            rw [hb1] at HC1
            have HV : Hid (behB st X L 0 (0 + 1) = false) := Lib.hid (by rw [behB_more, hv, hb1]; rfl)
            clear hb1 hv
            go_wp2_with fail
            refine wp_region_any (by kernel_rfl) ?_
            try (change wpAny _ _ _ _ _ _ _ (World.drew _))
            refine wpAny_take (i := 0) (v := ?_) rfl (by kernel_rfl) (by kernel_rfl) (by kernel_rfl) (fun _ _ _ h => h) (Or.inl ⟨by kernel_rfl, ?_⟩) ?_
            rotate_left 1
            · (intro w; first | (go_simp; done) | (go_simp; with_reducible rfl))
            change wpAny _ _ _ _ _ _ (Act.put _ (some 45) _) _
            refine wpAny_take (i := 1) (v := ?_) rfl (by kernel_rfl) (by kernel_rfl) (by kernel_rfl) (fun _ _ _ h => h) (Or.inl ⟨by kernel_rfl, ?_⟩) ?_
            rotate_left 1
            · (intro w; first | (go_simp; done) | (go_simp; with_reducible rfl))
            change wpAny _ _ _ _ _ _ (Act.put _ (some 46) _) _
            refine wpAny_take (i := 3) (v := ?_) rfl (by kernel_rfl) (by kernel_rfl) (by kernel_rfl) (fun _ _ _ h => h) (Or.inl ⟨by kernel_rfl, ?_⟩) ?_
            rotate_left 1
            · (intro w; first | (go_simp; done) | (go_simp; with_reducible rfl))
            change wpAny _ _ _ _ _ _ (Act.put _ (some 48) _) _
            refine wpAny_take (i := 4) (v := ?_) rfl (by kernel_rfl) (by kernel_rfl) (by kernel_rfl) (fun _ _ _ h => h) (Or.inl ⟨by kernel_rfl, ?_⟩) ?_
            rotate_left 1
            · (intro w; first | (go_simp; done) | (go_simp; with_reducible rfl))
            change wpAny _ _ _ _ _ _ (Act.put _ (some 49) _) _
            refine wpAny_take (i := 5) (v := ?_) rfl (by kernel_rfl) (by kernel_rfl) (by kernel_rfl) (fun _ _ _ h => h) (Or.inl ⟨by kernel_rfl, ?_⟩) ?_
            rotate_left 1
            · (intro w; first | (go_simp; done) | (go_simp; with_reducible rfl))
            change wpAny _ _ _ _ _ _ (Act.put _ (some 50) _) _
            refine wpAny_take (i := 6) (v := ?_) rfl (by kernel_rfl) (by kernel_rfl) (by kernel_rfl) (fun _ _ _ h => h) (Or.inl ⟨by kernel_rfl, ?_⟩) ?_
            rotate_left 1
            · (intro w; first | (go_simp; done) | (go_simp; with_reducible rfl))
            change wpAny _ _ _ _ _ _ (Act.put _ (some 51) _) _
            refine wpAny_ready (rs := [2]) (by kernel_rfl) (by simp) ?_
            refine AllReady.cons rfl (fun K hK => ?_) AllReady.nil
            go_simp
            refine hK _ _ ?_
            clear hK K
            refine wpAny_ready (rs := [7]) (by kernel_rfl) (by simp) ?_
            refine AllReady.cons rfl (fun K hK => ?_) AllReady.nil
            go_simp
            go_wp2_with (refine HC1.out.mono ?_; rintro e w5 ⟨rfl, hg⟩; obtain ⟨y0, y1, hg2⟩ := hg)
            refine wpAny_take (i := 8) (v := ?_) rfl (by kernel_rfl) (by kernel_rfl) (by kernel_rfl) (fun _ _ _ h => h) (Or.inl ⟨by kernel_rfl, ?_⟩) ?_
            rotate_left 1
            · (intro w; first | (go_simp; done) | (go_simp; with_reducible rfl))
            change wpAny _ _ _ _ _ _ (Act.put _ (some 53) _) _
            refine wpAny_take (i := 9) (v := undef) rfl (by kernel_rfl) (by kernel_rfl) (by kernel_rfl) (fun _ _ _ h => h) (Or.inr ⟨by kernel_rfl, rfl⟩) ?_
            change wpAny _ _ _ _ _ _ (Act.put _ (some 54) _) _
            refine wpAny_take (i := 10) (v := undef) rfl (by kernel_rfl) (by kernel_rfl) (by kernel_rfl) (fun _ _ _ h => h) (Or.inr ⟨by kernel_rfl, rfl⟩) ?_
            change wpAny _ _ _ _ _ _ (Act.put _ (some 55) _) _
            refine wpAny_take (i := 11) (v := undef) rfl (by kernel_rfl) (by kernel_rfl) (by kernel_rfl) (fun _ _ _ h => h) (Or.inr ⟨by kernel_rfl, rfl⟩) ?_
            change wpAny _ _ _ _ _ _ (Act.put _ (some 56) _) _
            refine wpAny_take (i := 12) (v := undef) rfl (by kernel_rfl) (by kernel_rfl) (by kernel_rfl) (fun _ _ _ h => h) (Or.inr ⟨by kernel_rfl, rfl⟩) ?_
            change wpAny _ _ _ _ _ _ (Act.put _ (some 57) _) _
            refine wpAny_take (i := 13) (v := undef) rfl (by kernel_rfl) (by kernel_rfl) (by kernel_rfl) (fun _ _ _ h => h) (Or.inr ⟨by kernel_rfl, rfl⟩) ?_
            change wpAny _ _ _ _ _ _ (Act.put _ (some 58) _) _
            refine wpAny_take (i := 14) (v := undef) rfl (by kernel_rfl) (by kernel_rfl) (by kernel_rfl) (fun _ _ _ h => h) (Or.inr ⟨by kernel_rfl, rfl⟩) ?_
            change wpAny _ _ _ _ _ _ (Act.put _ (some 59) _) _
            refine wpAny_take (i := 15) (v := undef) rfl (by kernel_rfl) (by kernel_rfl) (by kernel_rfl) (fun _ _ _ h => h) (Or.inr ⟨by kernel_rfl, rfl⟩) ?_
            change wpAny _ _ _ _ _ _ (Act.put _ (some 60) _) _
            refine wpAny_take (i := 16) (v := ?_) rfl (by kernel_rfl) (by kernel_rfl) (by kernel_rfl) (fun _ _ _ h => h) (Or.inl ⟨by kernel_rfl, ?_⟩) ?_
            rotate_left 1
            · (intro w; first | (go_simp; done) | (go_simp; with_reducible rfl))
            change wpAny _ _ _ _ _ _ (Act.put _ (some 61) _) _
            refine wpAny_take (i := 17) (v := ?_) rfl (by kernel_rfl) (by kernel_rfl) (by kernel_rfl) (fun _ _ _ h => h) (Or.inl ⟨by kernel_rfl, ?_⟩) ?_
            rotate_left 1
            · (intro w; first | (go_simp; done) | (go_simp; with_reducible rfl))
            change wpAny _ _ _ _ _ _ (Act.put _ (some 62) _) _
            refine wpAny_take (i := 18) (v := ?_) rfl (by kernel_rfl) (by kernel_rfl) (by kernel_rfl) (fun _ _ _ h => h) (Or.inl ⟨by kernel_rfl, ?_⟩) ?_
            rotate_left 1
            · (intro w; first | (go_simp; done) | (go_simp; with_reducible rfl))
            change wpAny _ _ _ _ _ _ (Act.put _ (some 8) _) _
            refine wpAny_done (by kernel_rfl) ?_ _
            go_simp
            have HG := Lib.hid hg2
            clear hg2 y0 y1
            go_wp2
            go_roundg (0 + 1 - (0 + 1))
            case measure => omega
            case rel => exact ⟨0 + 1, by rw [HV.out], by simp, by omega, rfl, HG⟩
          | true =>
            rw [hb1] at HC1
            cases st with
            | false =>
              have HV : Hid (behB false X L 0 (0 + 1) = true) := Lib.hid (by rw [behB_more, hv, hb1]; rfl)
              clear hb1 hv
              go_wp2_with fail
              refine wp_region_any (by kernel_rfl) ?_
              try (change wpAny _ _ _ _ _ _ _ (World.drew _))
              refine wpAny_take (i := 0) (v := ?_) rfl (by kernel_rfl) (by kernel_rfl) (by kernel_rfl) (fun _ _ _ h => h) (Or.inl ⟨by kernel_rfl, ?_⟩) ?_
              rotate_left 1
              · (intro w; first | (go_simp; done) | (go_simp; with_reducible rfl))
              change wpAny _ _ _ _ _ _ (Act.put _ (some 45) _) _
              refine wpAny_take (i := 1) (v := ?_) rfl (by kernel_rfl) (by kernel_rfl) (by kernel_rfl) (fun _ _ _ h => h) (Or.inl ⟨by kernel_rfl, ?_⟩) ?_
              rotate_left 1
              · (intro w; first | (go_simp; done) | (go_simp; with_reducible rfl))
              change wpAny _ _ _ _ _ _ (Act.put _ (some 46) _) _
              refine wpAny_take (i := 3) (v := ?_) rfl (by kernel_rfl) (by kernel_rfl) (by kernel_rfl) (fun _ _ _ h => h) (Or.inl ⟨by kernel_rfl, ?_⟩) ?_
              rotate_left 1
              · (intro w; first | (go_simp; done) | (go_simp; with_reducible rfl))
              change wpAny _ _ _ _ _ _ (Act.put _ (some 48) _) _
              refine wpAny_take (i := 4) (v := ?_) rfl (by kernel_rfl) (by kernel_rfl) (by kernel_rfl) (fun _ _ _ h => h) (Or.inl ⟨by kernel_rfl, ?_⟩) ?_
              rotate_left 1
              · (intro w; first | (go_simp; done) | (go_simp; with_reducible rfl))
              change wpAny _ _ _ _ _ _ (Act.put _ (some 49) _) _
              refine wpAny_take (i := 5) (v := ?_) rfl (by kernel_rfl) (by kernel_rfl) (by kernel_rfl) (fun _ _ _ h => h) (Or.inl ⟨by kernel_rfl, ?_⟩) ?_
              rotate_left 1
              · (intro w; first | (go_simp; done) | (go_simp; with_reducible rfl))
              change wpAny _ _ _ _ _ _ (Act.put _ (some 50) _) _
              refine wpAny_take (i := 6) (v := ?_) rfl (by kernel_rfl) (by kernel_rfl) (by kernel_rfl) (fun _ _ _ h => h) (Or.inl ⟨by kernel_rfl, ?_⟩) ?_
              rotate_left 1
              · (intro w; first | (go_simp; done) | (go_simp; with_reducible rfl))
              change wpAny _ _ _ _ _ _ (Act.put _ (some 51) _) _
              refine wpAny_ready (rs := [2]) (by kernel_rfl) (by simp) ?_
              refine AllReady.cons rfl (fun K hK => ?_) AllReady.nil
              go_simp
              refine hK _ _ ?_
              clear hK K
              refine wpAny_ready (rs := [7]) (by kernel_rfl) (by simp) ?_
              refine AllReady.cons rfl (fun K hK => ?_) AllReady.nil
              go_simp
              go_wp2_with (refine HC1.out.mono ?_; rintro e w5 ⟨rfl, hg⟩; obtain ⟨y0, y1, hg2⟩ := hg)
              refine wpAny_take (i := 8) (v := ?_) rfl (by kernel_rfl) (by kernel_rfl) (by kernel_rfl) (fun _ _ _ h => h) (Or.inl ⟨by kernel_rfl, ?_⟩) ?_
              rotate_left 1
              · (intro w; first | (go_simp; done) | (go_simp; with_reducible rfl))
              change wpAny _ _ _ _ _ _ (Act.put _ (some 53) _) _
              refine wpAny_take (i := 9) (v := ?_) rfl (by kernel_rfl) (by kernel_rfl) (by kernel_rfl) (fun _ _ _ h => h) (Or.inl ⟨by kernel_rfl, ?_⟩) ?_
              rotate_left 1
              · (intro w; first | (go_simp; done) | (go_simp; with_reducible rfl))
              change wpAny _ _ _ _ _ _ (Act.put _ (some 54) _) _
              refine wpAny_ready (rs := [10]) (by kernel_rfl) (by simp) ?_
              refine AllReady.cons rfl (fun K hK => ?_) AllReady.nil
              go_simp
              refine hK _ _ ?_
              clear hK K
              refine wpAny_take (i := 11) (v := ?_) rfl (by kernel_rfl) (by kernel_rfl) (by kernel_rfl) (fun _ _ _ h => h) (Or.inl ⟨by kernel_rfl, ?_⟩) ?_
              rotate_left 1
              · (intro w; first | (go_simp; done) | (go_simp; with_reducible rfl))
              change wpAny _ _ _ _ _ _ (Act.put _ (some 56) _) _
              refine wpAny_take (i := 12) (v := ?_) rfl (by kernel_rfl) (by kernel_rfl) (by kernel_rfl) (fun _ _ _ h => h) (Or.inl ⟨by kernel_rfl, ?_⟩) ?_
              rotate_left 1
              · (intro w; first | (go_simp; done) | (go_simp; with_reducible rfl))
              change wpAny _ _ _ _ _ _ (Act.put _ (some 57) _) _
              refine wpAny_take (i := 13) (v := undef) rfl (by kernel_rfl) (by kernel_rfl) (by kernel_rfl) (fun _ _ _ h => h) (Or.inr ⟨by kernel_rfl, rfl⟩) ?_
              change wpAny _ _ _ _ _ _ (Act.put _ (some 58) _) _
              refine wpAny_take (i := 14) (v := undef) rfl (by kernel_rfl) (by kernel_rfl) (by kernel_rfl) (fun _ _ _ h => h) (Or.inr ⟨by kernel_rfl, rfl⟩) ?_
              change wpAny _ _ _ _ _ _ (Act.put _ (some 59) _) _
              refine wpAny_take (i := 15) (v := ?_) rfl (by kernel_rfl) (by kernel_rfl) (by kernel_rfl) (fun _ _ _ h => h) (Or.inl ⟨by kernel_rfl, ?_⟩) ?_
              rotate_left 1
              · (intro w; first | (go_simp; done) | (go_simp; with_reducible rfl))
              change wpAny _ _ _ _ _ _ (Act.put _ (some 60) _) _
              refine wpAny_take (i := 16) (v := ?_) rfl (by kernel_rfl) (by kernel_rfl) (by kernel_rfl) (fun _ _ _ h => h) (Or.inl ⟨by kernel_rfl, ?_⟩) ?_
              rotate_left 1
              · (intro w; first | (go_simp; done) | (go_simp; with_reducible rfl))
              change wpAny _ _ _ _ _ _ (Act.put _ (some 61) _) _
              refine wpAny_take (i := 17) (v := ?_) rfl (by kernel_rfl) (by kernel_rfl) (by kernel_rfl) (fun _ _ _ h => h) (Or.inl ⟨by kernel_rfl, ?_⟩) ?_
              rotate_left 1
              · (intro w; first | (go_simp; done) | (go_simp; with_reducible rfl))
              change wpAny _ _ _ _ _ _ (Act.put _ (some 62) _) _
              refine wpAny_take (i := 18) (v := ?_) rfl (by kernel_rfl) (by kernel_rfl) (by kernel_rfl) (fun _ _ _ h => h) (Or.inl ⟨by kernel_rfl, ?_⟩) ?_
              rotate_left 1
              · (intro w; first | (go_simp; done) | (go_simp; with_reducible rfl))
              change wpAny _ _ _ _ _ _ (Act.put _ (some 8) _) _
              refine wpAny_done (by kernel_rfl) ?_ _
              go_simp
              have HG := Lib.hid hg2
              clear hg2 y0 y1
              go_wp2
              go_roundg (0 + 1 - (0 + 1))
              case measure => omega
              case rel => exact ⟨0 + 1, by rw [HV.out], by simp, by omega, rfl, HG⟩
            | true =>
              have HV : Hid (behB true X L 0 (0 + 1) = true) := Lib.hid (by rw [behB_more, hv, hb1]; rfl)
              clear hb1 hv
              go_wp2_with fail
              refine wp_region_any (by kernel_rfl) ?_
              try (change wpAny _ _ _ _ _ _ _ (World.drew _))
              refine wpAny_take (i := 0) (v := ?_) rfl (by kernel_rfl) (by kernel_rfl) (by kernel_rfl) (fun _ _ _ h => h) (Or.inl ⟨by kernel_rfl, ?_⟩) ?_
              rotate_left 1
              · (intro w; first | (go_simp; done) | (go_simp; with_reducible rfl))
              change wpAny _ _ _ _ _ _ (Act.put _ (some 45) _) _
              refine wpAny_take (i := 1) (v := ?_) rfl (by kernel_rfl) (by kernel_rfl) (by kernel_rfl) (fun _ _ _ h => h) (Or.inl ⟨by kernel_rfl, ?_⟩) ?_
              rotate_left 1
              · (intro w; first | (go_simp; done) | (go_simp; with_reducible rfl))
              change wpAny _ _ _ _ _ _ (Act.put _ (some 46) _) _
              refine wpAny_take (i := 3) (v := ?_) rfl (by kernel_rfl) (by kernel_rfl) (by kernel_rfl) (fun _ _ _ h => h) (Or.inl ⟨by kernel_rfl, ?_⟩) ?_
              rotate_left 1
              · (intro w; first | (go_simp; done) | (go_simp; with_reducible rfl))
              change wpAny _ _ _ _ _ _ (Act.put _ (some 48) _) _
              refine wpAny_take (i := 4) (v := ?_) rfl (by kernel_rfl) (by kernel_rfl) (by kernel_rfl) (fun _ _ _ h => h) (Or.inl ⟨by kernel_rfl, ?_⟩) ?_
              rotate_left 1
              · (intro w; first | (go_simp; done) | (go_simp; with_reducible rfl))
              change wpAny _ _ _ _ _ _ (Act.put _ (some 49) _) _
              refine wpAny_take (i := 5) (v := ?_) rfl (by kernel_rfl) (by kernel_rfl) (by kernel_rfl) (fun _ _ _ h => h) (Or.inl ⟨by kernel_rfl, ?_⟩) ?_
              rotate_left 1
              · (intro w; first | (go_simp; done) | (go_simp; with_reducible rfl))
              change wpAny _ _ _ _ _ _ (Act.put _ (some 50) _) _
              refine wpAny_take (i := 6) (v := ?_) rfl (by kernel_rfl) (by kernel_rfl) (by kernel_rfl) (fun _ _ _ h => h) (Or.inl ⟨by kernel_rfl, ?_⟩) ?_
              rotate_left 1
              · (intro w; first | (go_simp; done) | (go_simp; with_reducible rfl))
              change wpAny _ _ _ _ _ _ (Act.put _ (some 51) _) _
              refine wpAny_ready (rs := [2]) (by kernel_rfl) (by simp) ?_
              refine AllReady.cons rfl (fun K hK => ?_) AllReady.nil
              go_simp
              refine hK _ _ ?_
              clear hK K
              refine wpAny_ready (rs := [7]) (by kernel_rfl) (by simp) ?_
              refine AllReady.cons rfl (fun K hK => ?_) AllReady.nil
              go_simp
              go_wp2_with (refine HC1.out.mono ?_; rintro e w5 ⟨rfl, hg⟩; obtain ⟨y0, y1, hg2⟩ := hg)
              refine wpAny_take (i := 8) (v := ?_) rfl (by kernel_rfl) (by kernel_rfl) (by kernel_rfl) (fun _ _ _ h => h) (Or.inl ⟨by kernel_rfl, ?_⟩) ?_
              rotate_left 1
              · (intro w; first | (go_simp; done) | (go_simp; with_reducible rfl))
              change wpAny _ _ _ _ _ _ (Act.put _ (some 53) _) _
              refine wpAny_take (i := 9) (v := ?_) rfl (by kernel_rfl) (by kernel_rfl) (by kernel_rfl) (fun _ _ _ h => h) (Or.inl ⟨by kernel_rfl, ?_⟩) ?_
              rotate_left 1
              · (intro w; first | (go_simp; done) | (go_simp; with_reducible rfl))
              change wpAny _ _ _ _ _ _ (Act.put _ (some 54) _) _
              refine wpAny_ready (rs := [10]) (by kernel_rfl) (by simp) ?_
              refine AllReady.cons rfl (fun K hK => ?_) AllReady.nil
              go_simp
              refine hK _ _ ?_
              clear hK K
              refine wpAny_take (i := 11) (v := ?_) rfl (by kernel_rfl) (by kernel_rfl) (by kernel_rfl) (fun _ _ _ h => h) (Or.inl ⟨by kernel_rfl, ?_⟩) ?_
              rotate_left 1
              · (intro w; first | (go_simp; done) | (go_simp; with_reducible rfl))
              change wpAny _ _ _ _ _ _ (Act.put _ (some 56) _) _
              refine wpAny_take (i := 12) (v := ?_) rfl (by kernel_rfl) (by kernel_rfl) (by kernel_rfl) (fun _ _ _ h => h) (Or.inl ⟨by kernel_rfl, ?_⟩) ?_
              rotate_left 1
              · (intro w; first | (go_simp; done) | (go_simp; with_reducible rfl))
              change wpAny _ _ _ _ _ _ (Act.put _ (some 57) _) _
              refine wpAny_take (i := 13) (v := ?_) rfl (by kernel_rfl) (by kernel_rfl) (by kernel_rfl) (fun _ _ _ h => h) (Or.inl ⟨by kernel_rfl, ?_⟩) ?_
              rotate_left 1
              · (intro w; first | (go_simp; done) | (go_simp; with_reducible rfl))
              change wpAny _ _ _ _ _ _ (Act.put _ (some 58) _) _
              refine wpAny_take (i := 14) (v := ?_) rfl (by kernel_rfl) (by kernel_rfl) (by kernel_rfl) (fun _ _ _ h => h) (Or.inl ⟨by kernel_rfl, ?_⟩) ?_
              rotate_left 1
              · (intro w; first | (go_simp; done) | (go_simp; with_reducible rfl))
              change wpAny _ _ _ _ _ _ (Act.put _ (some 59) _) _
              refine wpAny_take (i := 15) (v := ?_) rfl (by kernel_rfl) (by kernel_rfl) (by kernel_rfl) (fun _ _ _ h => h) (Or.inl ⟨by kernel_rfl, ?_⟩) ?_
              rotate_left 1
              · (intro w; first | (go_simp; done) | (go_simp; with_reducible rfl))
              change wpAny _ _ _ _ _ _ (Act.put _ (some 60) _) _
              refine wpAny_take (i := 16) (v := ?_) rfl (by kernel_rfl) (by kernel_rfl) (by kernel_rfl) (fun _ _ _ h => h) (Or.inl ⟨by kernel_rfl, ?_⟩) ?_
              rotate_left 1
              · (intro w; first | (go_simp; done) | (go_simp; with_reducible rfl))
              change wpAny _ _ _ _ _ _ (Act.put _ (some 61) _) _
              refine wpAny_take (i := 17) (v := ?_) rfl (by kernel_rfl) (by kernel_rfl) (by kernel_rfl) (fun _ _ _ h => h) (Or.inl ⟨by kernel_rfl, ?_⟩) ?_
              rotate_left 1
              · (intro w; first | (go_simp; done) | (go_simp; with_reducible rfl))
              change wpAny _ _ _ _ _ _ (Act.put _ (some 62) _) _
              refine wpAny_take (i := 18) (v := ?_) rfl (by kernel_rfl) (by kernel_rfl) (by kernel_rfl) (fun _ _ _ h => h) (Or.inl ⟨by kernel_rfl, ?_⟩) ?_
              rotate_left 1
              · (intro w; first | (go_simp; done) | (go_simp; with_reducible rfl))
              change wpAny _ _ _ _ _ _ (Act.put _ (some 8) _) _
              refine wpAny_done (by kernel_rfl) ?_ _
              go_simp
              have HG := Lib.hid hg2
              clear hg2 y0 y1
              go_wp2
              go_roundg (0 + 1 - (0 + 1))
              case measure => omega
              case rel => exact ⟨0 + 1, by rw [HV.out], by simp, by omega, rfl, HG⟩
        | some pp =>
          by_cases hc0 : lcap = 0
          · subst hc0
            obtain rfl : i = 0 := by omega
            obtain rfl : a = 0 := by omega
            obtain rfl : n = 0 := by omega
            replace HC1 : Hid (Calls Tryz.prog 15 #[patV st o k cap, .slice (some pp) 0 0] wr.drew fun e w' => e = .returned (.bool (fitsA X (segP L 0 0))) ∧ w'.cell? ⟨w.heap.size, 0, none⟩ = some (.bool st) ∧ w'.cell? ⟨w.heap.size, 1, none⟩ = some (.slice o k cap) ∧ Below w3.heap.size w3 w') := HC1
            cases hb1 : fitsA X (segP L 0 0) with
            | false =>
              rw [hb1] at HC1
              have HV : Hid (behB st X L 0 (0 + 1) = false) := Lib.hid (by rw [behB_more, hv, hb1]; rfl)
              clear hb1 hv
              go_wp2_with fail
              refine wp_region_any (by kernel_rfl) ?_
              try (change wpAny _ _ _ _ _ _ _ (World.drew _))
              refine wpAny_take (i := 0) (v := ?_) rfl (by kernel_rfl) (by kernel_rfl) (by kernel_rfl) (fun _ _ _ h => h) (Or.inl ⟨by kernel_rfl, ?_⟩) ?_
              rotate_left 1
              · (intro w; first | (go_simp; done) | (go_simp; with_reducible rfl))
              change wpAny _ _ _ _ _ _ (Act.put _ (some 45) _) _
              refine wpAny_take (i := 1) (v := ?_) rfl (by kernel_rfl) (by kernel_rfl) (by kernel_rfl) (fun _ _ _ h => h) (Or.inl ⟨by kernel_rfl, ?_⟩) ?_
              rotate_left 1
              · (intro w; first | (go_simp; done) | (go_simp; with_reducible rfl))
              change wpAny _ _ _ _ _ _ (Act.put _ (some 46) _) _
              refine wpAny_take (i := 3) (v := ?_) rfl (by kernel_rfl) (by kernel_rfl) (by kernel_rfl) (fun _ _ _ h => h) (Or.inl ⟨by kernel_rfl, ?_⟩) ?_
              rotate_left 1
              · (intro w; first | (go_simp; done) | (go_simp; with_reducible rfl))
              change wpAny _ _ _ _ _ _ (Act.put _ (some 48) _) _
              refine wpAny_take (i := 4) (v := ?_) rfl (by kernel_rfl) (by kernel_rfl) (by kernel_rfl) (fun _ _ _ h => h) (Or.inl ⟨by kernel_rfl, ?_⟩) ?_
              rotate_left 1
              · (intro w; first | (go_simp; done) | (go_simp; with_reducible rfl))
              change wpAny _ _ _ _ _ _ (Act.put _ (some 49) _) _
              refine wpAny_take (i := 5) (v := ?_) rfl (by kernel_rfl) (by kernel_rfl) (by kernel_rfl) (fun _ _ _ h => h) (Or.inl ⟨by kernel_rfl, ?_⟩) ?_
              rotate_left 1
              · (intro w; first | (go_simp; done) | (go_simp; with_reducible rfl))
              change wpAny _ _ _ _ _ _ (Act.put _ (some 50) _) _
              refine wpAny_take (i := 6) (v := ?_) rfl (by kernel_rfl) (by kernel_rfl) (by kernel_rfl) (fun _ _ _ h => h) (Or.inl ⟨by kernel_rfl, ?_⟩) ?_
              rotate_left 1
              · (intro w; first | (go_simp; done) | (go_simp; with_reducible rfl))
              change wpAny _ _ _ _ _ _ (Act.put _ (some 51) _) _
              refine wpAny_ready (rs := [2]) (by kernel_rfl) (by simp) ?_
              refine AllReady.cons rfl (fun K hK => ?_) AllReady.nil
              go_simp
              refine hK _ _ ?_
              clear hK K
              refine wpAny_ready (rs := [7]) (by kernel_rfl) (by simp) ?_
              refine AllReady.cons rfl (fun K hK => ?_) AllReady.nil
              go_simp
              go_wp2_with (refine HC1.out.mono ?_; rintro e w5 ⟨rfl, hg⟩; obtain ⟨y0, y1, hg2⟩ := hg)
              refine wpAny_take (i := 8) (v := ?_) rfl (by kernel_rfl) (by kernel_rfl) (by kernel_rfl) (fun _ _ _ h => h) (Or.inl ⟨by kernel_rfl, ?_⟩) ?_
              rotate_left 1
              · (intro w; first | (go_simp; done) | (go_simp; with_reducible rfl))
              change wpAny _ _ _ _ _ _ (Act.put _ (some 53) _) _
              refine wpAny_take (i := 9) (v := undef) rfl (by kernel_rfl) (by kernel_rfl) (by kernel_rfl) (fun _ _ _ h => h) (Or.inr ⟨by kernel_rfl, rfl⟩) ?_
              change wpAny _ _ _ _ _ _ (Act.put _ (some 54) _) _
              refine wpAny_take (i := 10) (v := undef) rfl (by kernel_rfl) (by kernel_rfl) (by kernel_rfl) (fun _ _ _ h => h) (Or.inr ⟨by kernel_rfl, rfl⟩) ?_
              change wpAny _ _ _ _ _ _ (Act.put _ (some 55) _) _
              refine wpAny_take (i := 11) (v := undef) rfl (by kernel_rfl) (by kernel_rfl) (by kernel_rfl) (fun _ _ _ h => h) (Or.inr ⟨by kernel_rfl, rfl⟩) ?_
              change wpAny _ _ _ _ _ _ (Act.put _ (some 56) _) _
              refine wpAny_take (i := 12) (v := undef) rfl (by kernel_rfl) (by kernel_rfl) (by kernel_rfl) (fun _ _ _ h => h) (Or.inr ⟨by kernel_rfl, rfl⟩) ?_
              change wpAny _ _ _ _ _ _ (Act.put _ (some 57) _) _
              refine wpAny_take (i := 13) (v := undef) rfl (by kernel_rfl) (by kernel_rfl) (by kernel_rfl) (fun _ _ _ h => h) (Or.inr ⟨by kernel_rfl, rfl⟩) ?_
              change wpAny _ _ _ _ _ _ (Act.put _ (some 58) _) _
              refine wpAny_take (i := 14) (v := undef) rfl (by kernel_rfl) (by kernel_rfl) (by kernel_rfl) (fun _ _ _ h => h) (Or.inr ⟨by kernel_rfl, rfl⟩) ?_
              change wpAny _ _ _ _ _ _ (Act.put _ (some 59) _) _
              refine wpAny_take (i := 15) (v := undef) rfl (by kernel_rfl) (by kernel_rfl) (by kernel_rfl) (fun _ _ _ h => h) (Or.inr ⟨by kernel_rfl, rfl⟩) ?_
              change wpAny _ _ _ _ _ _ (Act.put _ (some 60) _) _
              refine wpAny_take (i := 16) (v := ?_) rfl (by kernel_rfl) (by kernel_rfl) (by kernel_rfl) (fun _ _ _ h => h) (Or.inl ⟨by kernel_rfl, ?_⟩) ?_
              rotate_left 1
              · (intro w; first | (go_simp; done) | (go_simp; with_reducible rfl))
              change wpAny _ _ _ _ _ _ (Act.put _ (some 61) _) _
              refine wpAny_take (i := 17) (v := ?_) rfl (by kernel_rfl) (by kernel_rfl) (by kernel_rfl) (fun _ _ _ h => h) (Or.inl ⟨by kernel_rfl, ?_⟩) ?_
              rotate_left 1
              · (intro w; first | (go_simp; done) | (go_simp; with_reducible rfl))
              change wpAny _ _ _ _ _ _ (Act.put _ (some 62) _) _
              refine wpAny_take (i := 18) (v := ?_) rfl (by kernel_rfl) (by kernel_rfl) (by kernel_rfl) (fun _ _ _ h => h) (Or.inl ⟨by kernel_rfl, ?_⟩) ?_
              rotate_left 1
              · (intro w; first | (go_simp; done) | (go_simp; with_reducible rfl))
              change wpAny _ _ _ _ _ _ (Act.put _ (some 8) _) _
              refine wpAny_done (by kernel_rfl) ?_ _
              go_simp
              have HG := Lib.hid hg2
              clear hg2 y0 y1
              go_wp2
              go_roundg (0 + 1 - (0 + 1))
              case measure => omega
              case rel => exact ⟨0 + 1, by rw [HV.out], by simp, by omega, rfl, HG⟩
            | true =>
              rw [hb1] at HC1
              cases st with
              | false =>
                have HV : Hid (behB false X L 0 (0 + 1) = true) := Lib.hid (by rw [behB_more, hv, hb1]; rfl)
                clear hb1 hv
                go_wp2_with fail
                refine wp_region_any (by kernel_rfl) ?_
                try (change wpAny _ _ _ _ _ _ _ (World.drew _))
                refine wpAny_take (i := 0) (v := ?_) rfl (by kernel_rfl) (by kernel_rfl) (by kernel_rfl) (fun _ _ _ h => h) (Or.inl ⟨by kernel_rfl, ?_⟩) ?_
                rotate_left 1
                · (intro w; first | (go_simp; done) | (go_simp; with_reducible rfl))
                change wpAny _ _ _ _ _ _ (Act.put _ (some 45) _) _
                refine wpAny_take (i := 1) (v := ?_) rfl (by kernel_rfl) (by kernel_rfl) (by kernel_rfl) (fun _ _ _ h => h) (Or.inl ⟨by kernel_rfl, ?_⟩) ?_
                rotate_left 1
                · (intro w; first | (go_simp; done) | (go_simp; with_reducible rfl))
                change wpAny _ _ _ _ _ _ (Act.put _ (some 46) _) _
                refine wpAny_take (i := 3) (v := ?_) rfl (by kernel_rfl) (by kernel_rfl) (by kernel_rfl) (fun _ _ _ h => h) (Or.inl ⟨by kernel_rfl, ?_⟩) ?_
                rotate_left 1
                · (intro w; first | (go_simp; done) | (go_simp; with_reducible rfl))
                change wpAny _ _ _ _ _ _ (Act.put _ (some 48) _) _
                refine wpAny_take (i := 4) (v := ?_) rfl (by kernel_rfl) (by kernel_rfl) (by kernel_rfl) (fun _ _ _ h => h) (Or.inl ⟨by kernel_rfl, ?_⟩) ?_
                rotate_left 1
                · (intro w; first | (go_simp; done) | (go_simp; with_reducible rfl))
                change wpAny _ _ _ _ _ _ (Act.put _ (some 49) _) _
                refine wpAny_take (i := 5) (v := ?_) rfl (by kernel_rfl) (by kernel_rfl) (by kernel_rfl) (fun _ _ _ h => h) (Or.inl ⟨by kernel_rfl, ?_⟩) ?_
                rotate_left 1
                · (intro w; first | (go_simp; done) | (go_simp; with_reducible rfl))
                change wpAny _ _ _ _ _ _ (Act.put _ (some 50) _) _
                refine wpAny_take (i := 6) (v := ?_) rfl (by kernel_rfl) (by kernel_rfl) (by kernel_rfl) (fun _ _ _ h => h) (Or.inl ⟨by kernel_rfl, ?_⟩) ?_
                rotate_left 1
                · (intro w; first | (go_simp; done) | (go_simp; with_reducible rfl))
                change wpAny _ _ _ _ _ _ (Act.put _ (some 51) _) _
                refine wpAny_ready (rs := [2]) (by kernel_rfl) (by simp) ?_
                refine AllReady.cons rfl (fun K hK => ?_) AllReady.nil
                go_simp
                refine hK _ _ ?_
                clear hK K
                refine wpAny_ready (rs := [7]) (by kernel_rfl) (by simp) ?_
                refine AllReady.cons rfl (fun K hK => ?_) AllReady.nil
                go_simp
                go_wp2_with (refine HC1.out.mono ?_; rintro e w5 ⟨rfl, hg⟩; obtain ⟨y0, y1, hg2⟩ := hg)
                refine wpAny_take (i := 8) (v := ?_) rfl (by kernel_rfl) (by kernel_rfl) (by kernel_rfl) (fun _ _ _ h => h) (Or.inl ⟨by kernel_rfl, ?_⟩) ?_
                rotate_left 1
                · (intro w; first | (go_simp; done) | (go_simp; with_reducible rfl))
                change wpAny _ _ _ _ _ _ (Act.put _ (some 53) _) _
                refine wpAny_take (i := 9) (v := ?_) rfl (by kernel_rfl) (by kernel_rfl) (by kernel_rfl) (fun _ _ _ h => h) (Or.inl ⟨by kernel_rfl, ?_⟩) ?_
                rotate_left 1
                · (intro w; first | (go_simp; done) | (go_simp; with_reducible rfl))
                change wpAny _ _ _ _ _ _ (Act.put _ (some 54) _) _
                refine wpAny_ready (rs := [10]) (by kernel_rfl) (by simp) ?_
                refine AllReady.cons rfl (fun K hK => ?_) AllReady.nil
                go_simp
                refine hK _ _ ?_
                clear hK K
                refine wpAny_take (i := 11) (v := ?_) rfl (by kernel_rfl) (by kernel_rfl) (by kernel_rfl) (fun _ _ _ h => h) (Or.inl ⟨by kernel_rfl, ?_⟩) ?_
                rotate_left 1
                · (intro w; first | (go_simp; done) | (go_simp; with_reducible rfl))
                change wpAny _ _ _ _ _ _ (Act.put _ (some 56) _) _
                refine wpAny_take (i := 12) (v := ?_) rfl (by kernel_rfl) (by kernel_rfl) (by kernel_rfl) (fun _ _ _ h => h) (Or.inl ⟨by kernel_rfl, ?_⟩) ?_
                rotate_left 1
                · (intro w; first | (go_simp; done) | (go_simp; with_reducible rfl))
                change wpAny _ _ _ _ _ _ (Act.put _ (some 57) _) _
                refine wpAny_take (i := 13) (v := undef) rfl (by kernel_rfl) (by kernel_rfl) (by kernel_rfl) (fun _ _ _ h => h) (Or.inr ⟨by kernel_rfl, rfl⟩) ?_
                change wpAny _ _ _ _ _ _ (Act.put _ (some 58) _) _
                refine wpAny_take (i := 14) (v := undef) rfl (by kernel_rfl) (by kernel_rfl) (by kernel_rfl) (fun _ _ _ h => h) (Or.inr ⟨by kernel_rfl, rfl⟩) ?_
                change wpAny _ _ _ _ _ _ (Act.put _ (some 59) _) _
                refine wpAny_take (i := 15) (v := ?_) rfl (by kernel_rfl) (by kernel_rfl) (by kernel_rfl) (fun _ _ _ h => h) (Or.inl ⟨by kernel_rfl, ?_⟩) ?_
                rotate_left 1
                · (intro w; first | (go_simp; done) | (go_simp; with_reducible rfl))
                change wpAny _ _ _ _ _ _ (Act.put _ (some 60) _) _
                refine wpAny_take (i := 16) (v := ?_) rfl (by kernel_rfl) (by kernel_rfl) (by kernel_rfl) (fun _ _ _ h => h) (Or.inl ⟨by kernel_rfl, ?_⟩) ?_
                rotate_left 1
                · (intro w; first | (go_simp; done) | (go_simp; with_reducible rfl))
                change wpAny _ _ _ _ _ _ (Act.put _ (some 61) _) _
                refine wpAny_take (i := 17) (v := ?_) rfl (by kernel_rfl) (by kernel_rfl) (by kernel_rfl) (fun _ _ _ h => h) (Or.inl ⟨by kernel_rfl, ?_⟩) ?_
                rotate_left 1
                · (intro w; first | (go_simp; done) | (go_simp; with_reducible rfl))
                change wpAny _ _ _ _ _ _ (Act.put _ (some 62) _) _
                refine wpAny_take (i := 18) (v := ?_) rfl (by kernel_rfl) (by kernel_rfl) (by kernel_rfl) (fun _ _ _ h => h) (Or.inl ⟨by kernel_rfl, ?_⟩) ?_
                rotate_left 1
                · (intro w; first | (go_simp; done) | (go_simp; with_reducible rfl))
                change wpAny _ _ _ _ _ _ (Act.put _ (some 8) _) _
                refine wpAny_done (by kernel_rfl) ?_ _
                go_simp
                have HG := Lib.hid hg2
                clear hg2 y0 y1
                go_wp2
                go_roundg (0 + 1 - (0 + 1))
                case measure => omega
                case rel => exact ⟨0 + 1, by rw [HV.out], by simp, by omega, rfl, HG⟩
              | true =>
                have HV : Hid (behB true X L 0 (0 + 1) = true) := Lib.hid (by rw [behB_more, hv, hb1]; rfl)
                clear hb1 hv
                go_wp2_with fail
                refine wp_region_any (by kernel_rfl) ?_
                try (change wpAny _ _ _ _ _ _ _ (World.drew _))
                refine wpAny_take (i := 0) (v := ?_) rfl (by kernel_rfl) (by kernel_rfl) (by kernel_rfl) (fun _ _ _ h => h) (Or.inl ⟨by kernel_rfl, ?_⟩) ?_
                rotate_left 1
                · (intro w; first | (go_simp; done) | (go_simp; with_reducible rfl))
                change wpAny _ _ _ _ _ _ (Act.put _ (some 45) _) _
                refine wpAny_take (i := 1) (v := ?_) rfl (by kernel_rfl) (by kernel_rfl) (by kernel_rfl) (fun _ _ _ h => h) (Or.inl ⟨by kernel_rfl, ?_⟩) ?_
                rotate_left 1
                · (intro w; first | (go_simp; done) | (go_simp; with_reducible rfl))
                change wpAny _ _ _ _ _ _ (Act.put _ (some 46) _) _
                refine wpAny_take (i := 3) (v := ?_) rfl (by kernel_rfl) (by kernel_rfl) (by kernel_rfl) (fun _ _ _ h => h) (Or.inl ⟨by kernel_rfl, ?_⟩) ?_
                rotate_left 1
                · (intro w; first | (go_simp; done) | (go_simp; with_reducible rfl))
                change wpAny _ _ _ _ _ _ (Act.put _ (some 48) _) _
                refine wpAny_take (i := 4) (v := ?_) rfl (by kernel_rfl) (by kernel_rfl) (by kernel_rfl) (fun _ _ _ h => h) (Or.inl ⟨by kernel_rfl, ?_⟩) ?_
                rotate_left 1
                · (intro w; first | (go_simp; done) | (go_simp; with_reducible rfl))
                change wpAny _ _ _ _ _ _ (Act.put _ (some 49) _) _
                refine wpAny_take (i := 5) (v := ?_) rfl (by kernel_rfl) (by kernel_rfl) (by kernel_rfl) (fun _ _ _ h => h) (Or.inl ⟨by kernel_rfl, ?_⟩) ?_
                rotate_left 1
                · (intro w; first | (go_simp; done) | (go_simp; with_reducible rfl))
                change wpAny _ _ _ _ _ _ (Act.put _ (some 50) _) _
                refine wpAny_take (i := 6) (v := ?_) rfl (by kernel_rfl) (by kernel_rfl) (by kernel_rfl) (fun _ _ _ h => h) (Or.inl ⟨by kernel_rfl, ?_⟩) ?_
                rotate_left 1
                · (intro w; first | (go_simp; done) | (go_simp; with_reducible rfl))
                change wpAny _ _ _ _ _ _ (Act.put _ (some 51) _) _
                refine wpAny_ready (rs := [2]) (by kernel_rfl) (by simp) ?_
                refine AllReady.cons rfl (fun K hK => ?_) AllReady.nil
                go_simp
                refine hK _ _ ?_
                clear hK K
                refine wpAny_ready (rs := [7]) (by kernel_rfl) (by simp) ?_
                refine AllReady.cons rfl (fun K hK => ?_) AllReady.nil
                go_simp
                go_wp2_with (refine HC1.out.mono ?_; rintro e w5 ⟨rfl, hg⟩; obtain ⟨y0, y1, hg2⟩ := hg)
                refine wpAny_take (i := 8) (v := ?_) rfl (by kernel_rfl) (by kernel_rfl) (by kernel_rfl) (fun _ _ _ h => h) (Or.inl ⟨by kernel_rfl, ?_⟩) ?_
                rotate_left 1
                · (intro w; first | (go_simp; done) | (go_simp; with_reducible rfl))
                change wpAny _ _ _ _ _ _ (Act.put _ (some 53) _) _
                refine wpAny_take (i := 9) (v := ?_) rfl (by kernel_rfl) (by kernel_rfl) (by kernel_rfl) (fun _ _ _ h => h) (Or.inl ⟨by kernel_rfl, ?_⟩) ?_
                rotate_left 1
                · (intro w; first | (go_simp; done) | (go_simp; with_reducible rfl))
                change wpAny _ _ _ _ _ _ (Act.put _ (some 54) _) _
                refine wpAny_ready (rs := [10]) (by kernel_rfl) (by simp) ?_
                refine AllReady.cons rfl (fun K hK => ?_) AllReady.nil
                go_simp
                refine hK _ _ ?_
                clear hK K
                refine wpAny_take (i := 11) (v := ?_) rfl (by kernel_rfl) (by kernel_rfl) (by kernel_rfl) (fun _ _ _ h => h) (Or.inl ⟨by kernel_rfl, ?_⟩) ?_
                rotate_left 1
                · (intro w; first | (go_simp; done) | (go_simp; with_reducible rfl))
                change wpAny _ _ _ _ _ _ (Act.put _ (some 56) _) _
                refine wpAny_take (i := 12) (v := ?_) rfl (by kernel_rfl) (by kernel_rfl) (by kernel_rfl) (fun _ _ _ h => h) (Or.inl ⟨by kernel_rfl, ?_⟩) ?_
                rotate_left 1
                · (intro w; first | (go_simp; done) | (go_simp; with_reducible rfl))
                change wpAny _ _ _ _ _ _ (Act.put _ (some 57) _) _
                refine wpAny_take (i := 13) (v := ?_) rfl (by kernel_rfl) (by kernel_rfl) (by kernel_rfl) (fun _ _ _ h => h) (Or.inl ⟨by kernel_rfl, ?_⟩) ?_
                rotate_left 1
                · (intro w; first | (go_simp; done) | (go_simp; with_reducible rfl))
                change wpAny _ _ _ _ _ _ (Act.put _ (some 58) _) _
                refine wpAny_take (i := 14) (v := ?_) rfl (by kernel_rfl) (by kernel_rfl) (by kernel_rfl) (fun _ _ _ h => h) (Or.inl ⟨by kernel_rfl, ?_⟩) ?_
                rotate_left 1
                · (intro w; first | (go_simp; done) | (go_simp; with_reducible rfl))
                change wpAny _ _ _ _ _ _ (Act.put _ (some 59) _) _
                refine wpAny_take (i := 15) (v := ?_) rfl (by kernel_rfl) (by kernel_rfl) (by kernel_rfl) (fun _ _ _ h => h) (Or.inl ⟨by kernel_rfl, ?_⟩) ?_
                rotate_left 1
                · (intro w; first | (go_simp; done) | (go_simp; with_reducible rfl))
                change wpAny _ _ _ _ _ _ (Act.put _ (some 60) _) _
                refine wpAny_take (i := 16) (v := ?_) rfl (by kernel_rfl) (by kernel_rfl) (by kernel_rfl) (fun _ _ _ h => h) (Or.inl ⟨by kernel_rfl, ?_⟩) ?_
                rotate_left 1
                · (intro w; first | (go_simp; done) | (go_simp; with_reducible rfl))
                change wpAny _ _ _ _ _ _ (Act.put _ (some 61) _) _
                refine wpAny_take (i := 17) (v := ?_) rfl (by kernel_rfl) (by kernel_rfl) (by kernel_rfl) (fun _ _ _ h => h) (Or.inl ⟨by kernel_rfl, ?_⟩) ?_
                rotate_left 1
                · (intro w; first | (go_simp; done) | (go_simp; with_reducible rfl))
                change wpAny _ _ _ _ _ _ (Act.put _ (some 62) _) _
                refine wpAny_take (i := 18) (v := ?_) rfl (by kernel_rfl) (by kernel_rfl) (by kernel_rfl) (fun _ _ _ h => h) (Or.inl ⟨by kernel_rfl, ?_⟩) ?_
                rotate_left 1
                · (intro w; first | (go_simp; done) | (go_simp; with_reducible rfl))
                change wpAny _ _ _ _ _ _ (Act.put _ (some 8) _) _
                refine wpAny_done (by kernel_rfl) ?_ _
                go_simp
                have HG := Lib.hid hg2
                clear hg2 y0 y1
                go_wp2
                go_roundg (0 + 1 - (0 + 1))
                case measure => omega
                case rel => exact ⟨0 + 1, by rw [HV.out], by simp, by omega, rfl, HG⟩
          · obtain ⟨g, off, sp⟩ := pp
            obtain rfl : sp = none := HSP.out.2 _ rfl (by omega)
            by_cases hi0 : i = 0
            · subst hi0
              replace HC1 : Hid (Calls Tryz.prog 15 #[patV st o k cap, .slice (some ⟨g, off, none⟩) a lcap] wr.drew fun e w' => e = .returned (.bool (fitsA X (segP L 0 a))) ∧ w'.cell? ⟨w.heap.size, 0, none⟩ = some (.bool st) ∧ w'.cell? ⟨w.heap.size, 1, none⟩ = some (.slice o k cap) ∧ Below w3.heap.size w3 w') := by
                have e : dropO (some ⟨g, off, none⟩) lcap 0 = some ⟨g, off, none⟩ := by unfold dropO; simp
                rw [e] at HC1
                exact HC1
              cases hb1 : fitsA X (segP L 0 a) with
              | false =>
                rw [hb1] at HC1
                have HV : Hid (behB st X L a (0 + 1) = false) := Lib.hid (by rw [behB_more, hv, hb1]; rfl)
                clear hb1 hv
                go_wp2_with fail
                refine wp_region_any (by kernel_rfl) ?_
                try (change wpAny _ _ _ _ _ _ _ (World.drew _))
                refine wpAny_take (i := 0) (v := ?_) rfl (by kernel_rfl) (by kernel_rfl) (by kernel_rfl) (fun _ _ _ h => h) (Or.inl ⟨by kernel_rfl, ?_⟩) ?_
                rotate_left 1
                · (intro w; first | (go_simp; done) | (go_simp; with_reducible rfl))
                change wpAny _ _ _ _ _ _ (Act.put _ (some 45) _) _
                refine wpAny_take (i := 1) (v := ?_) rfl (by kernel_rfl) (by kernel_rfl) (by kernel_rfl) (fun _ _ _ h => h) (Or.inl ⟨by kernel_rfl, ?_⟩) ?_
                rotate_left 1
                · (intro w; first | (go_simp; done) | (go_simp; with_reducible rfl))
                change wpAny _ _ _ _ _ _ (Act.put _ (some 46) _) _
                refine wpAny_take (i := 3) (v := ?_) rfl (by kernel_rfl) (by kernel_rfl) (by kernel_rfl) (fun _ _ _ h => h) (Or.inl ⟨by kernel_rfl, ?_⟩) ?_
                rotate_left 1
                · (intro w; first | (go_simp; done) | (go_simp; with_reducible rfl))
                change wpAny _ _ _ _ _ _ (Act.put _ (some 48) _) _
                refine wpAny_take (i := 4) (v := ?_) rfl (by kernel_rfl) (by kernel_rfl) (by kernel_rfl) (fun _ _ _ h => h) (Or.inl ⟨by kernel_rfl, ?_⟩) ?_
                rotate_left 1
                · (intro w; first | (go_simp; done) | (go_simp; with_reducible rfl))
                change wpAny _ _ _ _ _ _ (Act.put _ (some 49) _) _
                refine wpAny_take (i := 5) (v := ?_) rfl (by kernel_rfl) (by kernel_rfl) (by kernel_rfl) (fun _ _ _ h => h) (Or.inl ⟨by kernel_rfl, ?_⟩) ?_
                rotate_left 1
                · (intro w; first | (go_simp; done) | (go_simp; with_reducible rfl))
                change wpAny _ _ _ _ _ _ (Act.put _ (some 50) _) _
                refine wpAny_take (i := 6) (v := ?_) rfl (by kernel_rfl) (by kernel_rfl) (by kernel_rfl) (fun _ _ _ h => h) (Or.inl ⟨by kernel_rfl, ?_⟩) ?_
                rotate_left 1
                · (intro w; first | (go_simp; done) | (go_simp; with_reducible rfl))
                change wpAny _ _ _ _ _ _ (Act.put _ (some 51) _) _
                refine wpAny_ready (rs := [2]) (by kernel_rfl) (by simp) ?_
                refine AllReady.cons rfl (fun K hK => ?_) AllReady.nil
                go_simp
                refine hK _ _ ?_
                clear hK K
                refine wpAny_ready (rs := [7]) (by kernel_rfl) (by simp) ?_
                refine AllReady.cons rfl (fun K hK => ?_) AllReady.nil
                go_simp
                go_wp2_with (refine HC1.out.mono ?_; rintro e w5 ⟨rfl, hg⟩; obtain ⟨y0, y1, hg2⟩ := hg)
                refine wpAny_take (i := 8) (v := ?_) rfl (by kernel_rfl) (by kernel_rfl) (by kernel_rfl) (fun _ _ _ h => h) (Or.inl ⟨by kernel_rfl, ?_⟩) ?_
                rotate_left 1
                · (intro w; first | (go_simp; done) | (go_simp; with_reducible rfl))
                change wpAny _ _ _ _ _ _ (Act.put _ (some 53) _) _
                refine wpAny_take (i := 9) (v := undef) rfl (by kernel_rfl) (by kernel_rfl) (by kernel_rfl) (fun _ _ _ h => h) (Or.inr ⟨by kernel_rfl, rfl⟩) ?_
                change wpAny _ _ _ _ _ _ (Act.put _ (some 54) _) _
                refine wpAny_take (i := 10) (v := undef) rfl (by kernel_rfl) (by kernel_rfl) (by kernel_rfl) (fun _ _ _ h => h) (Or.inr ⟨by kernel_rfl, rfl⟩) ?_
                change wpAny _ _ _ _ _ _ (Act.put _ (some 55) _) _
                refine wpAny_take (i := 11) (v := undef) rfl (by kernel_rfl) (by kernel_rfl) (by kernel_rfl) (fun _ _ _ h => h) (Or.inr ⟨by kernel_rfl, rfl⟩) ?_
                change wpAny _ _ _ _ _ _ (Act.put _ (some 56) _) _
                refine wpAny_take (i := 12) (v := undef) rfl (by kernel_rfl) (by kernel_rfl) (by kernel_rfl) (fun _ _ _ h => h) (Or.inr ⟨by kernel_rfl, rfl⟩) ?_
                change wpAny _ _ _ _ _ _ (Act.put _ (some 57) _) _
                refine wpAny_take (i := 13) (v := undef) rfl (by kernel_rfl) (by kernel_rfl) (by kernel_rfl) (fun _ _ _ h => h) (Or.inr ⟨by kernel_rfl, rfl⟩) ?_
                change wpAny _ _ _ _ _ _ (Act.put _ (some 58) _) _
                refine wpAny_take (i := 14) (v := undef) rfl (by kernel_rfl) (by kernel_rfl) (by kernel_rfl) (fun _ _ _ h => h) (Or.inr ⟨by kernel_rfl, rfl⟩) ?_
                change wpAny _ _ _ _ _ _ (Act.put _ (some 59) _) _
                refine wpAny_take (i := 15) (v := undef) rfl (by kernel_rfl) (by kernel_rfl) (by kernel_rfl) (fun _ _ _ h => h) (Or.inr ⟨by kernel_rfl, rfl⟩) ?_
                change wpAny _ _ _ _ _ _ (Act.put _ (some 60) _) _
                refine wpAny_take (i := 16) (v := ?_) rfl (by kernel_rfl) (by kernel_rfl) (by kernel_rfl) (fun _ _ _ h => h) (Or.inl ⟨by kernel_rfl, ?_⟩) ?_
                rotate_left 1
                · (intro w; first | (go_simp; done) | (go_simp; with_reducible rfl))
                change wpAny _ _ _ _ _ _ (Act.put _ (some 61) _) _
                refine wpAny_take (i := 17) (v := ?_) rfl (by kernel_rfl) (by kernel_rfl) (by kernel_rfl) (fun _ _ _ h => h) (Or.inl ⟨by kernel_rfl, ?_⟩) ?_
                rotate_left 1
                · (intro w; first | (go_simp; done) | (go_simp; with_reducible rfl))
                change wpAny _ _ _ _ _ _ (Act.put _ (some 62) _) _
                refine wpAny_take (i := 18) (v := ?_) rfl (by kernel_rfl) (by kernel_rfl) (by kernel_rfl) (fun _ _ _ h => h) (Or.inl ⟨by kernel_rfl, ?_⟩) ?_
                rotate_left 1
                · (intro w; first | (go_simp; done) | (go_simp; with_reducible rfl))
                change wpAny _ _ _ _ _ _ (Act.put _ (some 8) _) _
                refine wpAny_done (by kernel_rfl) ?_ _
                go_simp
                have HG := Lib.hid hg2
                clear hg2 y0 y1
                go_wp2
                go_roundg (a + 1 - (0 + 1))
                case measure => omega
                case rel => exact ⟨0 + 1, by rw [HV.out], by simp, by omega, rfl, HG⟩
              | true =>
                rw [hb1] at HC1
                cases st with
                | false =>
                  have HV : Hid (behB false X L a (0 + 1) = true) := Lib.hid (by rw [behB_more, hv, hb1]; rfl)
                  clear hb1 hv
                  go_wp2_with fail
                  refine wp_region_any (by kernel_rfl) ?_
                  try (change wpAny _ _ _ _ _ _ _ (World.drew _))
                  refine wpAny_take (i := 0) (v := ?_) rfl (by kernel_rfl) (by kernel_rfl) (by kernel_rfl) (fun _ _ _ h => h) (Or.inl ⟨by kernel_rfl, ?_⟩) ?_
                  rotate_left 1
                  · (intro w; first | (go_simp; done) | (go_simp; with_reducible rfl))
                  change wpAny _ _ _ _ _ _ (Act.put _ (some 45) _) _
                  refine wpAny_take (i := 1) (v := ?_) rfl (by kernel_rfl) (by kernel_rfl) (by kernel_rfl) (fun _ _ _ h => h) (Or.inl ⟨by kernel_rfl, ?_⟩) ?_
                  rotate_left 1
                  · (intro w; first | (go_simp; done) | (go_simp; with_reducible rfl))
                  change wpAny _ _ _ _ _ _ (Act.put _ (some 46) _) _
                  refine wpAny_take (i := 3) (v := ?_) rfl (by kernel_rfl) (by kernel_rfl) (by kernel_rfl) (fun _ _ _ h => h) (Or.inl ⟨by kernel_rfl, ?_⟩) ?_
                  rotate_left 1
                  · (intro w; first | (go_simp; done) | (go_simp; with_reducible rfl))
                  change wpAny _ _ _ _ _ _ (Act.put _ (some 48) _) _
                  refine wpAny_take (i := 4) (v := ?_) rfl (by kernel_rfl) (by kernel_rfl) (by kernel_rfl) (fun _ _ _ h => h) (Or.inl ⟨by kernel_rfl, ?_⟩) ?_
                  rotate_left 1
                  · (intro w; first | (go_simp; done) | (go_simp; with_reducible rfl))
                  change wpAny _ _ _ _ _ _ (Act.put _ (some 49) _) _
                  refine wpAny_take (i := 5) (v := ?_) rfl (by kernel_rfl) (by kernel_rfl) (by kernel_rfl) (fun _ _ _ h => h) (Or.inl ⟨by kernel_rfl, ?_⟩) ?_
                  rotate_left 1
                  · (intro w; first | (go_simp; done) | (go_simp; with_reducible rfl))
                  change wpAny _ _ _ _ _ _ (Act.put _ (some 50) _) _
                  refine wpAny_take (i := 6) (v := ?_) rfl (by kernel_rfl) (by kernel_rfl) (by kernel_rfl) (fun _ _ _ h => h) (Or.inl ⟨by kernel_rfl, ?_⟩) ?_
                  rotate_left 1
                  · (intro w; first | (go_simp; done) | (go_simp; with_reducible rfl))
                  change wpAny _ _ _ _ _ _ (Act.put _ (some 51) _) _
                  refine wpAny_ready (rs := [2]) (by kernel_rfl) (by simp) ?_
                  refine AllReady.cons rfl (fun K hK => ?_) AllReady.nil
                  go_simp
                  refine hK _ _ ?_
                  clear hK K
                  refine wpAny_ready (rs := [7]) (by kernel_rfl) (by simp) ?_
                  refine AllReady.cons rfl (fun K hK => ?_) AllReady.nil
                  go_simp
                  go_wp2_with (refine HC1.out.mono ?_; rintro e w5 ⟨rfl, hg⟩; obtain ⟨y0, y1, hg2⟩ := hg)
                  refine wpAny_take (i := 8) (v := ?_) rfl (by kernel_rfl) (by kernel_rfl) (by kernel_rfl) (fun _ _ _ h => h) (Or.inl ⟨by kernel_rfl, ?_⟩) ?_
                  rotate_left 1
                  · (intro w; first | (go_simp; done) | (go_simp; with_reducible rfl))
                  change wpAny _ _ _ _ _ _ (Act.put _ (some 53) _) _
                  refine wpAny_take (i := 9) (v := ?_) rfl (by kernel_rfl) (by kernel_rfl) (by kernel_rfl) (fun _ _ _ h => h) (Or.inl ⟨by kernel_rfl, ?_⟩) ?_
                  rotate_left 1
                  · (intro w; first | (go_simp; done) | (go_simp; with_reducible rfl))
                  change wpAny _ _ _ _ _ _ (Act.put _ (some 54) _) _
                  refine wpAny_ready (rs := [10]) (by kernel_rfl) (by simp) ?_
                  refine AllReady.cons rfl (fun K hK => ?_) AllReady.nil
                  go_simp
                  refine hK _ _ ?_
                  clear hK K
                  refine wpAny_take (i := 11) (v := ?_) rfl (by kernel_rfl) (by kernel_rfl) (by kernel_rfl) (fun _ _ _ h => h) (Or.inl ⟨by kernel_rfl, ?_⟩) ?_
                  rotate_left 1
                  · (intro w; first | (go_simp; done) | (go_simp; with_reducible rfl))
                  change wpAny _ _ _ _ _ _ (Act.put _ (some 56) _) _
                  refine wpAny_take (i := 12) (v := ?_) rfl (by kernel_rfl) (by kernel_rfl) (by kernel_rfl) (fun _ _ _ h => h) (Or.inl ⟨by kernel_rfl, ?_⟩) ?_
                  rotate_left 1
                  · (intro w; first | (go_simp; done) | (go_simp; with_reducible rfl))
                  change wpAny _ _ _ _ _ _ (Act.put _ (some 57) _) _
                  refine wpAny_take (i := 13) (v := undef) rfl (by kernel_rfl) (by kernel_rfl) (by kernel_rfl) (fun _ _ _ h => h) (Or.inr ⟨by kernel_rfl, rfl⟩) ?_
                  change wpAny _ _ _ _ _ _ (Act.put _ (some 58) _) _
                  refine wpAny_take (i := 14) (v := undef) rfl (by kernel_rfl) (by kernel_rfl) (by kernel_rfl) (fun _ _ _ h => h) (Or.inr ⟨by kernel_rfl, rfl⟩) ?_
                  change wpAny _ _ _ _ _ _ (Act.put _ (some 59) _) _
                  refine wpAny_take (i := 15) (v := ?_) rfl (by kernel_rfl) (by kernel_rfl) (by kernel_rfl) (fun _ _ _ h => h) (Or.inl ⟨by kernel_rfl, ?_⟩) ?_
                  rotate_left 1
                  · (intro w; first | (go_simp; done) | (go_simp; with_reducible rfl))
                  change wpAny _ _ _ _ _ _ (Act.put _ (some 60) _) _
                  refine wpAny_take (i := 16) (v := ?_) rfl (by kernel_rfl) (by kernel_rfl) (by kernel_rfl) (fun _ _ _ h => h) (Or.inl ⟨by kernel_rfl, ?_⟩) ?_
                  rotate_left 1
                  · (intro w; first | (go_simp; done) | (go_simp; with_reducible rfl))
                  change wpAny _ _ _ _ _ _ (Act.put _ (some 61) _) _
                  refine wpAny_take (i := 17) (v := ?_) rfl (by kernel_rfl) (by kernel_rfl) (by kernel_rfl) (fun _ _ _ h => h) (Or.inl ⟨by kernel_rfl, ?_⟩) ?_
                  rotate_left 1
                  · (intro w; first | (go_simp; done) | (go_simp; with_reducible rfl))
                  change wpAny _ _ _ _ _ _ (Act.put _ (some 62) _) _
                  refine wpAny_take (i := 18) (v := ?_) rfl (by kernel_rfl) (by kernel_rfl) (by kernel_rfl) (fun _ _ _ h => h) (Or.inl ⟨by kernel_rfl, ?_⟩) ?_
                  rotate_left 1
                  · (intro w; first | (go_simp; done) | (go_simp; with_reducible rfl))
                  change wpAny _ _ _ _ _ _ (Act.put _ (some 8) _) _
                  refine wpAny_done (by kernel_rfl) ?_ _
                  go_simp
                  have HG := Lib.hid hg2
                  clear hg2 y0 y1
                  go_wp2
                  go_roundg (a + 1 - (0 + 1))
                  case measure => omega
                  case rel => exact ⟨0 + 1, by rw [HV.out], by simp, by omega, rfl, HG⟩
                | true =>
                  have HV : Hid (behB true X L a (0 + 1) = true) := Lib.hid (by rw [behB_more, hv, hb1]; rfl)
                  clear hb1 hv
                  go_wp2_with fail
                  refine wp_region_any (by kernel_rfl) ?_
                  try (change wpAny _ _ _ _ _ _ _ (World.drew _))
                  refine wpAny_take (i := 0) (v := ?_) rfl (by kernel_rfl) (by kernel_rfl) (by kernel_rfl) (fun _ _ _ h => h) (Or.inl ⟨by kernel_rfl, ?_⟩) ?_
                  rotate_left 1
                  · (intro w; first | (go_simp; done) | (go_simp; with_reducible rfl))
                  change wpAny _ _ _ _ _ _ (Act.put _ (some 45) _) _
                  refine wpAny_take (i := 1) (v := ?_) rfl (by kernel_rfl) (by kernel_rfl) (by kernel_rfl) (fun _ _ _ h => h) (Or.inl ⟨by kernel_rfl, ?_⟩) ?_
                  rotate_left 1
                  · (intro w; first | (go_simp; done) | (go_simp; with_reducible rfl))
                  change wpAny _ _ _ _ _ _ (Act.put _ (some 46) _) _
                  refine wpAny_take (i := 3) (v := ?_) rfl (by kernel_rfl) (by kernel_rfl) (by kernel_rfl) (fun _ _ _ h => h) (Or.inl ⟨by kernel_rfl, ?_⟩) ?_
                  rotate_left 1
                  · (intro w; first | (go_simp; done) | (go_simp; with_reducible rfl))
                  change wpAny _ _ _ _ _ _ (Act.put _ (some 48) _) _
                  refine wpAny_take (i := 4) (v := ?_) rfl (by kernel_rfl) (by kernel_rfl) (by kernel_rfl) (fun _ _ _ h => h) (Or.inl ⟨by kernel_rfl, ?_⟩) ?_
                  rotate_left 1
                  · (intro w; first | (go_simp; done) | (go_simp; with_reducible rfl))
                  change wpAny _ _ _ _ _ _ (Act.put _ (some 49) _) _
                  refine wpAny_take (i := 5) (v := ?_) rfl (by kernel_rfl) (by kernel_rfl) (by kernel_rfl) (fun _ _ _ h => h) (Or.inl ⟨by kernel_rfl, ?_⟩) ?_
                  rotate_left 1
                  · (intro w; first | (go_simp; done) | (go_simp; with_reducible rfl))
                  change wpAny _ _ _ _ _ _ (Act.put _ (some 50) _) _
                  refine wpAny_take (i := 6) (v := ?_) rfl (by kernel_rfl) (by kernel_rfl) (by kernel_rfl) (fun _ _ _ h => h) (Or.inl ⟨by kernel_rfl, ?_⟩) ?_
                  rotate_left 1
                  · (intro w; first | (go_simp; done) | (go_simp; with_reducible rfl))
                  change wpAny _ _ _ _ _ _ (Act.put _ (some 51) _) _
                  refine wpAny_ready (rs := [2]) (by kernel_rfl) (by simp) ?_
                  refine AllReady.cons rfl (fun K hK => ?_) AllReady.nil
                  go_simp
                  refine hK _ _ ?_
                  clear hK K
                  refine wpAny_ready (rs := [7]) (by kernel_rfl) (by simp) ?_
                  refine AllReady.cons rfl (fun K hK => ?_) AllReady.nil
                  go_simp
                  go_wp2_with (refine HC1.out.mono ?_; rintro e w5 ⟨rfl, hg⟩; obtain ⟨y0, y1, hg2⟩ := hg)
                  refine wpAny_take (i := 8) (v := ?_) rfl (by kernel_rfl) (by kernel_rfl) (by kernel_rfl) (fun _ _ _ h => h) (Or.inl ⟨by kernel_rfl, ?_⟩) ?_
                  rotate_left 1
                  · (intro w; first | (go_simp; done) | (go_simp; with_reducible rfl))
                  change wpAny _ _ _ _ _ _ (Act.put _ (some 53) _) _
                  refine wpAny_take (i := 9) (v := ?_) rfl (by kernel_rfl) (by kernel_rfl) (by kernel_rfl) (fun _ _ _ h => h) (Or.inl ⟨by kernel_rfl, ?_⟩) ?_
                  rotate_left 1
                  · (intro w; first | (go_simp; done) | (go_simp; with_reducible rfl))
                  change wpAny _ _ _ _ _ _ (Act.put _ (some 54) _) _
                  refine wpAny_ready (rs := [10]) (by kernel_rfl) (by simp) ?_
                  refine AllReady.cons rfl (fun K hK => ?_) AllReady.nil
                  go_simp
                  refine hK _ _ ?_
                  clear hK K
                  refine wpAny_take (i := 11) (v := ?_) rfl (by kernel_rfl) (by kernel_rfl) (by kernel_rfl) (fun _ _ _ h => h) (Or.inl ⟨by kernel_rfl, ?_⟩) ?_
                  rotate_left 1
                  · (intro w; first | (go_simp; done) | (go_simp; with_reducible rfl))
                  change wpAny _ _ _ _ _ _ (Act.put _ (some 56) _) _
                  refine wpAny_take (i := 12) (v := ?_) rfl (by kernel_rfl) (by kernel_rfl) (by kernel_rfl) (fun _ _ _ h => h) (Or.inl ⟨by kernel_rfl, ?_⟩) ?_
                  rotate_left 1
                  · (intro w; first | (go_simp; done) | (go_simp; with_reducible rfl))
                  change wpAny _ _ _ _ _ _ (Act.put _ (some 57) _) _
                  refine wpAny_take (i := 13) (v := ?_) rfl (by kernel_rfl) (by kernel_rfl) (by kernel_rfl) (fun _ _ _ h => h) (Or.inl ⟨by kernel_rfl, ?_⟩) ?_
                  rotate_left 1
                  · (intro w; first | (go_simp; done) | (go_simp; with_reducible rfl))
                  change wpAny _ _ _ _ _ _ (Act.put _ (some 58) _) _
                  refine wpAny_take (i := 14) (v := ?_) rfl (by kernel_rfl) (by kernel_rfl) (by kernel_rfl) (fun _ _ _ h => h) (Or.inl ⟨by kernel_rfl, ?_⟩) ?_
                  rotate_left 1
                  · (intro w; first | (go_simp; done) | (go_simp; with_reducible rfl))
                  change wpAny _ _ _ _ _ _ (Act.put _ (some 59) _) _
                  refine wpAny_take (i := 15) (v := ?_) rfl (by kernel_rfl) (by kernel_rfl) (by kernel_rfl) (fun _ _ _ h => h) (Or.inl ⟨by kernel_rfl, ?_⟩) ?_
                  rotate_left 1
                  · (intro w; first | (go_simp; done) | (go_simp; with_reducible rfl))
                  change wpAny _ _ _ _ _ _ (Act.put _ (some 60) _) _
                  refine wpAny_take (i := 16) (v := ?_) rfl (by kernel_rfl) (by kernel_rfl) (by kernel_rfl) (fun _ _ _ h => h) (Or.inl ⟨by kernel_rfl, ?_⟩) ?_
                  rotate_left 1
                  · (intro w; first | (go_simp; done) | (go_simp; with_reducible rfl))
                  change wpAny _ _ _ _ _ _ (Act.put _ (some 61) _) _
                  refine wpAny_take (i := 17) (v := ?_) rfl (by kernel_rfl) (by kernel_rfl) (by kernel_rfl) (fun _ _ _ h => h) (Or.inl ⟨by kernel_rfl, ?_⟩) ?_
                  rotate_left 1
                  · (intro w; first | (go_simp; done) | (go_simp; with_reducible rfl))
                  change wpAny _ _ _ _ _ _ (Act.put _ (some 62) _) _
                  refine wpAny_take (i := 18) (v := ?_) rfl (by kernel_rfl) (by kernel_rfl) (by kernel_rfl) (fun _ _ _ h => h) (Or.inl ⟨by kernel_rfl, ?_⟩) ?_
                  rotate_left 1
                  · (intro w; first | (go_simp; done) | (go_simp; with_reducible rfl))
                  change wpAny _ _ _ _ _ _ (Act.put _ (some 8) _) _
                  refine wpAny_done (by kernel_rfl) ?_ _
                  go_simp
                  have HG := Lib.hid hg2
                  clear hg2 y0 y1
                  go_wp2
                  go_roundg (a + 1 - (0 + 1))
                  case measure => omega
                  case rel => exact ⟨0 + 1, by rw [HV.out], by simp, by omega, rfl, HG⟩
            · have hI : (((i : Nat) : Int) == 0) = false := by rw [beq_eq_false_iff_ne]; omega
              by_cases hje : lcap = i
              · subst hje
                obtain rfl : n = lcap := by omega
                obtain rfl : a = n := by omega
                replace HC1 : Hid (Calls Tryz.prog 15 #[patV st o k cap, .slice (some ⟨g, off, none⟩) 0 0] wr.drew fun e w' => e = .returned (.bool (fitsA X (segP L a a))) ∧ w'.cell? ⟨w.heap.size, 0, none⟩ = some (.bool st) ∧ w'.cell? ⟨w.heap.size, 1, none⟩ = some (.slice o k cap) ∧ Below w3.heap.size w3 w') := by
                  have e : dropO (some ⟨g, off, none⟩) a a = some ⟨g, off, none⟩ := by unfold dropO; simp
                  rw [e, Nat.sub_self] at HC1
                  exact HC1
                cases hb1 : fitsA X (segP L a a) with
                | false =>
                  rw [hb1] at HC1
                  have HV : Hid (behB st X L a (a + 1) = false) := Lib.hid (by rw [behB_more, hv, hb1]; rfl)
                  clear hb1 hv
                  go_wp2_with fail
                  refine wp_region_any (by kernel_rfl) ?_
                  try (change wpAny _ _ _ _ _ _ _ (World.drew _))
                  refine wpAny_take (i := 0) (v := ?_) rfl (by kernel_rfl) (by kernel_rfl) (by kernel_rfl) (fun _ _ _ h => h) (Or.inl ⟨by kernel_rfl, ?_⟩) ?_
                  rotate_left 1
                  · (intro w; first | (go_simp; done) | (go_simp; with_reducible rfl))
                  change wpAny _ _ _ _ _ _ (Act.put _ (some 45) _) _
                  refine wpAny_take (i := 1) (v := ?_) rfl (by kernel_rfl) (by kernel_rfl) (by kernel_rfl) (fun _ _ _ h => h) (Or.inl ⟨by kernel_rfl, ?_⟩) ?_
                  rotate_left 1
                  · (intro w; first | (go_simp; done) | (go_simp; with_reducible rfl))
                  change wpAny _ _ _ _ _ _ (Act.put _ (some 46) _) _
                  refine wpAny_take (i := 3) (v := ?_) rfl (by kernel_rfl) (by kernel_rfl) (by kernel_rfl) (fun _ _ _ h => h) (Or.inl ⟨by kernel_rfl, ?_⟩) ?_
                  rotate_left 1
                  · (intro w; first | (go_simp; done) | (go_simp; with_reducible rfl))
                  change wpAny _ _ _ _ _ _ (Act.put _ (some 48) _) _
                  refine wpAny_take (i := 4) (v := ?_) rfl (by kernel_rfl) (by kernel_rfl) (by kernel_rfl) (fun _ _ _ h => h) (Or.inl ⟨by kernel_rfl, ?_⟩) ?_
                  rotate_left 1
                  · (intro w; first | (go_simp; done) | (go_simp; with_reducible rfl))
                  change wpAny _ _ _ _ _ _ (Act.put _ (some 49) _) _
                  refine wpAny_take (i := 5) (v := ?_) rfl (by kernel_rfl) (by kernel_rfl) (by kernel_rfl) (fun _ _ _ h => h) (Or.inl ⟨by kernel_rfl, ?_⟩) ?_
                  rotate_left 1
                  · (intro w; first | (go_simp; done) | (go_simp; with_reducible rfl))
                  change wpAny _ _ _ _ _ _ (Act.put _ (some 50) _) _
                  refine wpAny_take (i := 6) (v := ?_) rfl (by kernel_rfl) (by kernel_rfl) (by kernel_rfl) (fun _ _ _ h => h) (Or.inl ⟨by kernel_rfl, ?_⟩) ?_
                  rotate_left 1
                  · (intro w; first | (go_simp; done) | (go_simp; with_reducible rfl))
                  change wpAny _ _ _ _ _ _ (Act.put _ (some 51) _) _
                  refine wpAny_ready (rs := [2]) (by kernel_rfl) (by simp) ?_
                  refine AllReady.cons rfl (fun K hK => ?_) AllReady.nil
                  go_simp
                  refine hK _ _ ?_
                  clear hK K
                  refine wpAny_ready (rs := [7]) (by kernel_rfl) (by simp) ?_
                  refine AllReady.cons rfl (fun K hK => ?_) AllReady.nil
                  go_simp
                  go_wp2_with (refine HC1.out.mono ?_; rintro e w5 ⟨rfl, hg⟩; obtain ⟨y0, y1, hg2⟩ := hg)
                  refine wpAny_take (i := 8) (v := ?_) rfl (by kernel_rfl) (by kernel_rfl) (by kernel_rfl) (fun _ _ _ h => h) (Or.inl ⟨by kernel_rfl, ?_⟩) ?_
                  rotate_left 1
                  · (intro w; first | (go_simp; done) | (go_simp; with_reducible rfl))
                  change wpAny _ _ _ _ _ _ (Act.put _ (some 53) _) _
                  refine wpAny_take (i := 9) (v := undef) rfl (by kernel_rfl) (by kernel_rfl) (by kernel_rfl) (fun _ _ _ h => h) (Or.inr ⟨by kernel_rfl, rfl⟩) ?_
                  change wpAny _ _ _ _ _ _ (Act.put _ (some 54) _) _
                  refine wpAny_take (i := 10) (v := undef) rfl (by kernel_rfl) (by kernel_rfl) (by kernel_rfl) (fun _ _ _ h => h) (Or.inr ⟨by kernel_rfl, rfl⟩) ?_
                  change wpAny _ _ _ _ _ _ (Act.put _ (some 55) _) _
                  refine wpAny_take (i := 11) (v := undef) rfl (by kernel_rfl) (by kernel_rfl) (by kernel_rfl) (fun _ _ _ h => h) (Or.inr ⟨by kernel_rfl, rfl⟩) ?_
                  change wpAny _ _ _ _ _ _ (Act.put _ (some 56) _) _
                  refine wpAny_take (i := 12) (v := undef) rfl (by kernel_rfl) (by kernel_rfl) (by kernel_rfl) (fun _ _ _ h => h) (Or.inr ⟨by kernel_rfl, rfl⟩) ?_
                  change wpAny _ _ _ _ _ _ (Act.put _ (some 57) _) _
                  refine wpAny_take (i := 13) (v := undef) rfl (by kernel_rfl) (by kernel_rfl) (by kernel_rfl) (fun _ _ _ h => h) (Or.inr ⟨by kernel_rfl, rfl⟩) ?_
                  change wpAny _ _ _ _ _ _ (Act.put _ (some 58) _) _
                  refine wpAny_take (i := 14) (v := undef) rfl (by kernel_rfl) (by kernel_rfl) (by kernel_rfl) (fun _ _ _ h => h) (Or.inr ⟨by kernel_rfl, rfl⟩) ?_
                  change wpAny _ _ _ _ _ _ (Act.put _ (some 59) _) _
                  refine wpAny_take (i := 15) (v := undef) rfl (by kernel_rfl) (by kernel_rfl) (by kernel_rfl) (fun _ _ _ h => h) (Or.inr ⟨by kernel_rfl, rfl⟩) ?_
                  change wpAny _ _ _ _ _ _ (Act.put _ (some 60) _) _
                  refine wpAny_take (i := 16) (v := ?_) rfl (by kernel_rfl) (by kernel_rfl) (by kernel_rfl) (fun _ _ _ h => h) (Or.inl ⟨by kernel_rfl, ?_⟩) ?_
                  rotate_left 1
                  · (intro w; first | (go_simp; done) | (go_simp; with_reducible rfl))
                  change wpAny _ _ _ _ _ _ (Act.put _ (some 61) _) _
                  refine wpAny_take (i := 17) (v := ?_) rfl (by kernel_rfl) (by kernel_rfl) (by kernel_rfl) (fun _ _ _ h => h) (Or.inl ⟨by kernel_rfl, ?_⟩) ?_
                  rotate_left 1
                  · (intro w; first | (go_simp; done) | (go_simp; with_reducible rfl))
                  change wpAny _ _ _ _ _ _ (Act.put _ (some 62) _) _
                  refine wpAny_take (i := 18) (v := ?_) rfl (by kernel_rfl) (by kernel_rfl) (by kernel_rfl) (fun _ _ _ h => h) (Or.inl ⟨by kernel_rfl, ?_⟩) ?_
                  rotate_left 1
                  · (intro w; first | (go_simp; done) | (go_simp; with_reducible rfl))
                  change wpAny _ _ _ _ _ _ (Act.put _ (some 8) _) _
                  refine wpAny_done (by kernel_rfl) ?_ _
                  go_simp
                  have HG := Lib.hid hg2
                  clear hg2 y0 y1
                  go_wp2
                  go_roundg (a + 1 - (a + 1))
                  case measure => omega
                  case rel => exact ⟨a + 1, by rw [HV.out], by simp, by omega, rfl, HG⟩
                | true =>
                  rw [hb1] at HC1
                  cases st with
                  | false =>
                    have HV : Hid (behB false X L a (a + 1) = true) := Lib.hid (by rw [behB_more, hv, hb1]; rfl)
                    clear hb1 hv
                    go_wp2_with fail
                    refine wp_region_any (by kernel_rfl) ?_
                    try (change wpAny _ _ _ _ _ _ _ (World.drew _))
                    refine wpAny_take (i := 0) (v := ?_) rfl (by kernel_rfl) (by kernel_rfl) (by kernel_rfl) (fun _ _ _ h => h) (Or.inl ⟨by kernel_rfl, ?_⟩) ?_
                    rotate_left 1
                    · (intro w; first | (go_simp; done) | (go_simp; with_reducible rfl))
                    change wpAny _ _ _ _ _ _ (Act.put _ (some 45) _) _
                    refine wpAny_take (i := 1) (v := ?_) rfl (by kernel_rfl) (by kernel_rfl) (by kernel_rfl) (fun _ _ _ h => h) (Or.inl ⟨by kernel_rfl, ?_⟩) ?_
                    rotate_left 1
                    · (intro w; first | (go_simp; done) | (go_simp; with_reducible rfl))
                    change wpAny _ _ _ _ _ _ (Act.put _ (some 46) _) _
                    refine wpAny_take (i := 3) (v := ?_) rfl (by kernel_rfl) (by kernel_rfl) (by kernel_rfl) (fun _ _ _ h => h) (Or.inl ⟨by kernel_rfl, ?_⟩) ?_
                    rotate_left 1
                    · (intro w; first | (go_simp; done) | (go_simp; with_reducible rfl))
                    change wpAny _ _ _ _ _ _ (Act.put _ (some 48) _) _
                    refine wpAny_take (i := 4) (v := ?_) rfl (by kernel_rfl) (by kernel_rfl) (by kernel_rfl) (fun _ _ _ h => h) (Or.inl ⟨by kernel_rfl, ?_⟩) ?_
                    rotate_left 1
                    · (intro w; first | (go_simp; done) | (go_simp; with_reducible rfl))
                    change wpAny _ _ _ _ _ _ (Act.put _ (some 49) _) _
                    refine wpAny_take (i := 5) (v := ?_) rfl (by kernel_rfl) (by kernel_rfl) (by kernel_rfl) (fun _ _ _ h => h) (Or.inl ⟨by kernel_rfl, ?_⟩) ?_
                    rotate_left 1
                    · (intro w; first | (go_simp; done) | (go_simp; with_reducible rfl))
                    change wpAny _ _ _ _ _ _ (Act.put _ (some 50) _) _
                    refine wpAny_take (i := 6) (v := ?_) rfl (by kernel_rfl) (by kernel_rfl) (by kernel_rfl) (fun _ _ _ h => h) (Or.inl ⟨by kernel_rfl, ?_⟩) ?_
                    rotate_left 1
                    · (intro w; first | (go_simp; done) | (go_simp; with_reducible rfl))
                    change wpAny _ _ _ _ _ _ (Act.put _ (some 51) _) _
                    refine wpAny_ready (rs := [2]) (by kernel_rfl) (by simp) ?_
                    refine AllReady.cons rfl (fun K hK => ?_) AllReady.nil
                    go_simp
                    refine hK _ _ ?_
                    clear hK K
                    refine wpAny_ready (rs := [7]) (by kernel_rfl) (by simp) ?_
                    refine AllReady.cons rfl (fun K hK => ?_) AllReady.nil
                    go_simp
                    go_wp2_with (refine HC1.out.mono ?_; rintro e w5 ⟨rfl, hg⟩; obtain ⟨y0, y1, hg2⟩ := hg)
                    refine wpAny_take (i := 8) (v := ?_) rfl (by kernel_rfl) (by kernel_rfl) (by kernel_rfl) (fun _ _ _ h => h) (Or.inl ⟨by kernel_rfl, ?_⟩) ?_
                    rotate_left 1
                    · (intro w; first | (go_simp; done) | (go_simp; with_reducible rfl))
                    change wpAny _ _ _ _ _ _ (Act.put _ (some 53) _) _
                    refine wpAny_take (i := 9) (v := ?_) rfl (by kernel_rfl) (by kernel_rfl) (by kernel_rfl) (fun _ _ _ h => h) (Or.inl ⟨by kernel_rfl, ?_⟩) ?_
                    rotate_left 1
                    · (intro w; first | (go_simp; done) | (go_simp; with_reducible rfl))
                    change wpAny _ _ _ _ _ _ (Act.put _ (some 54) _) _
                    refine wpAny_ready (rs := [10]) (by kernel_rfl) (by simp) ?_
                    refine AllReady.cons rfl (fun K hK => ?_) AllReady.nil
                    go_simp
                    refine hK _ _ ?_
                    clear hK K
                    refine wpAny_take (i := 11) (v := ?_) rfl (by kernel_rfl) (by kernel_rfl) (by kernel_rfl) (fun _ _ _ h => h) (Or.inl ⟨by kernel_rfl, ?_⟩) ?_
                    rotate_left 1
                    · (intro w; first | (go_simp; done) | (go_simp; with_reducible rfl))
                    change wpAny _ _ _ _ _ _ (Act.put _ (some 56) _) _
                    refine wpAny_take (i := 12) (v := ?_) rfl (by kernel_rfl) (by kernel_rfl) (by kernel_rfl) (fun _ _ _ h => h) (Or.inl ⟨by kernel_rfl, ?_⟩) ?_
                    rotate_left 1
                    · (intro w; first | (go_simp; done) | (go_simp; with_reducible rfl))
                    change wpAny _ _ _ _ _ _ (Act.put _ (some 57) _) _
                    refine wpAny_take (i := 13) (v := undef) rfl (by kernel_rfl) (by kernel_rfl) (by kernel_rfl) (fun _ _ _ h => h) (Or.inr ⟨by kernel_rfl, rfl⟩) ?_
                    change wpAny _ _ _ _ _ _ (Act.put _ (some 58) _) _
                    refine wpAny_take (i := 14) (v := undef) rfl (by kernel_rfl) (by kernel_rfl) (by kernel_rfl) (fun _ _ _ h => h) (Or.inr ⟨by kernel_rfl, rfl⟩) ?_
                    change wpAny _ _ _ _ _ _ (Act.put _ (some 59) _) _
                    refine wpAny_take (i := 15) (v := ?_) rfl (by kernel_rfl) (by kernel_rfl) (by kernel_rfl) (fun _ _ _ h => h) (Or.inl ⟨by kernel_rfl, ?_⟩) ?_
                    rotate_left 1
                    · (intro w; first | (go_simp; done) | (go_simp; with_reducible rfl))
                    change wpAny _ _ _ _ _ _ (Act.put _ (some 60) _) _
                    refine wpAny_take (i := 16) (v := ?_) rfl (by kernel_rfl) (by kernel_rfl) (by kernel_rfl) (fun _ _ _ h => h) (Or.inl ⟨by kernel_rfl, ?_⟩) ?_
                    rotate_left 1
                    · (intro w; first | (go_simp; done) | (go_simp; with_reducible rfl))
                    change wpAny _ _ _ _ _ _ (Act.put _ (some 61) _) _
                    refine wpAny_take (i := 17) (v := ?_) rfl (by kernel_rfl) (by kernel_rfl) (by kernel_rfl) (fun _ _ _ h => h) (Or.inl ⟨by kernel_rfl, ?_⟩) ?_
                    rotate_left 1
                    · (intro w; first | (go_simp; done) | (go_simp; with_reducible rfl))
                    change wpAny _ _ _ _ _ _ (Act.put _ (some 62) _) _
                    refine wpAny_take (i := 18) (v := ?_) rfl (by kernel_rfl) (by kernel_rfl) (by kernel_rfl) (fun _ _ _ h => h) (Or.inl ⟨by kernel_rfl, ?_⟩) ?_
                    rotate_left 1
                    · (intro w; first | (go_simp; done) | (go_simp; with_reducible rfl))
                    change wpAny _ _ _ _ _ _ (Act.put _ (some 8) _) _
                    refine wpAny_done (by kernel_rfl) ?_ _
                    go_simp
                    have HG := Lib.hid hg2
                    clear hg2 y0 y1
                    go_wp2
                    go_roundg (a + 1 - (a + 1))
                    case measure => omega
                    case rel => exact ⟨a + 1, by rw [HV.out], by simp, by omega, rfl, HG⟩
                  | true =>
                    have HV : Hid (behB true X L a (a + 1) = false) := Lib.hid (by rw [behB_more, hv, hb1]; simp [hi0])
                    clear hb1 hv
                    go_wp2_with fail
                    refine wp_region_any (by kernel_rfl) ?_
                    try (change wpAny _ _ _ _ _ _ _ (World.drew _))
                    refine wpAny_take (i := 0) (v := ?_) rfl (by kernel_rfl) (by kernel_rfl) (by kernel_rfl) (fun _ _ _ h => h) (Or.inl ⟨by kernel_rfl, ?_⟩) ?_
                    rotate_left 1
                    · (intro w; first | (go_simp; done) | (go_simp; with_reducible rfl))
                    change wpAny _ _ _ _ _ _ (Act.put _ (some 45) _) _
                    refine wpAny_take (i := 1) (v := ?_) rfl (by kernel_rfl) (by kernel_rfl) (by kernel_rfl) (fun _ _ _ h => h) (Or.inl ⟨by kernel_rfl, ?_⟩) ?_
                    rotate_left 1
                    · (intro w; first | (go_simp; done) | (go_simp; with_reducible rfl))
                    change wpAny _ _ _ _ _ _ (Act.put _ (some 46) _) _
                    refine wpAny_take (i := 3) (v := ?_) rfl (by kernel_rfl) (by kernel_rfl) (by kernel_rfl) (fun _ _ _ h => h) (Or.inl ⟨by kernel_rfl, ?_⟩) ?_
                    rotate_left 1
                    · (intro w; first | (go_simp; done) | (go_simp; with_reducible rfl))
                    change wpAny _ _ _ _ _ _ (Act.put _ (some 48) _) _
                    refine wpAny_take (i := 4) (v := ?_) rfl (by kernel_rfl) (by kernel_rfl) (by kernel_rfl) (fun _ _ _ h => h) (Or.inl ⟨by kernel_rfl, ?_⟩) ?_
                    rotate_left 1
                    · (intro w; first | (go_simp; done) | (go_simp; with_reducible rfl))
                    change wpAny _ _ _ _ _ _ (Act.put _ (some 49) _) _
                    refine wpAny_take (i := 5) (v := ?_) rfl (by kernel_rfl) (by kernel_rfl) (by kernel_rfl) (fun _ _ _ h => h) (Or.inl ⟨by kernel_rfl, ?_⟩) ?_
                    rotate_left 1
                    · (intro w; first | (go_simp; done) | (go_simp; with_reducible rfl))
                    change wpAny _ _ _ _ _ _ (Act.put _ (some 50) _) _
                    refine wpAny_take (i := 6) (v := ?_) rfl (by kernel_rfl) (by kernel_rfl) (by kernel_rfl) (fun _ _ _ h => h) (Or.inl ⟨by kernel_rfl, ?_⟩) ?_
                    rotate_left 1
                    · (intro w; first | (go_simp; done) | (go_simp; with_reducible rfl))
                    change wpAny _ _ _ _ _ _ (Act.put _ (some 51) _) _
                    refine wpAny_ready (rs := [2]) (by kernel_rfl) (by simp) ?_
                    refine AllReady.cons rfl (fun K hK => ?_) AllReady.nil
                    go_simp
                    refine hK _ _ ?_
                    clear hK K
                    refine wpAny_ready (rs := [7]) (by kernel_rfl) (by simp) ?_
                    refine AllReady.cons rfl (fun K hK => ?_) AllReady.nil
                    go_simp
                    go_wp2_with (refine HC1.out.mono ?_; rintro e w5 ⟨rfl, hg⟩; obtain ⟨y0, y1, hg2⟩ := hg)
                    refine wpAny_take (i := 8) (v := ?_) rfl (by kernel_rfl) (by kernel_rfl) (by kernel_rfl) (fun _ _ _ h => h) (Or.inl ⟨by kernel_rfl, ?_⟩) ?_
                    rotate_left 1
                    · (intro w; first | (go_simp; done) | (go_simp; with_reducible rfl))
                    change wpAny _ _ _ _ _ _ (Act.put _ (some 53) _) _
                    refine wpAny_take (i := 9) (v := ?_) rfl (by kernel_rfl) (by kernel_rfl) (by kernel_rfl) (fun _ _ _ h => h) (Or.inl ⟨by kernel_rfl, ?_⟩) ?_
                    rotate_left 1
                    · (intro w; first | (go_simp; done) | (go_simp; with_reducible rfl))
                    change wpAny _ _ _ _ _ _ (Act.put _ (some 54) _) _
                    refine wpAny_ready (rs := [10]) (by kernel_rfl) (by simp) ?_
                    refine AllReady.cons rfl (fun K hK => ?_) AllReady.nil
                    go_simp
                    refine hK _ _ ?_
                    clear hK K
                    refine wpAny_take (i := 11) (v := ?_) rfl (by kernel_rfl) (by kernel_rfl) (by kernel_rfl) (fun _ _ _ h => h) (Or.inl ⟨by kernel_rfl, ?_⟩) ?_
                    rotate_left 1
                    · (intro w; first | (go_simp; done) | (go_simp; with_reducible rfl))
                    change wpAny _ _ _ _ _ _ (Act.put _ (some 56) _) _
                    refine wpAny_take (i := 12) (v := ?_) rfl (by kernel_rfl) (by kernel_rfl) (by kernel_rfl) (fun _ _ _ h => h) (Or.inl ⟨by kernel_rfl, ?_⟩) ?_
                    rotate_left 1
                    · (intro w; first | (go_simp; done) | (go_simp; with_reducible rfl))
                    change wpAny _ _ _ _ _ _ (Act.put _ (some 57) _) _
                    refine wpAny_take (i := 13) (v := ?_) rfl (by kernel_rfl) (by kernel_rfl) (by kernel_rfl) (fun _ _ _ h => h) (Or.inl ⟨by kernel_rfl, ?_⟩) ?_
                    rotate_left 1
                    · (intro w; first | (go_simp; done) | (go_simp; with_reducible rfl))
                    change wpAny _ _ _ _ _ _ (Act.put _ (some 58) _) _
                    refine wpAny_take (i := 14) (v := ?_) rfl (by kernel_rfl) (by kernel_rfl) (by kernel_rfl) (fun _ _ _ h => h) (Or.inl ⟨by kernel_rfl, ?_⟩) ?_
                    rotate_left 1
                    · (intro w; first | (go_simp; done) | (go_simp; with_reducible rfl))
                    change wpAny _ _ _ _ _ _ (Act.put _ (some 59) _) _
                    refine wpAny_take (i := 15) (v := ?_) rfl (by kernel_rfl) (by kernel_rfl) (by kernel_rfl) (fun _ _ _ h => h) (Or.inl ⟨by kernel_rfl, ?_⟩) ?_
                    rotate_left 1
                    · (intro w; first | (go_simp; done) | (go_simp; with_reducible rfl))
                    change wpAny _ _ _ _ _ _ (Act.put _ (some 60) _) _
                    refine wpAny_take (i := 16) (v := ?_) rfl (by kernel_rfl) (by kernel_rfl) (by kernel_rfl) (fun _ _ _ h => h) (Or.inl ⟨by kernel_rfl, ?_⟩) ?_
                    rotate_left 1
                    · (intro w; first | (go_simp; done) | (go_simp; with_reducible rfl))
                    change wpAny _ _ _ _ _ _ (Act.put _ (some 61) _) _
                    refine wpAny_take (i := 17) (v := ?_) rfl (by kernel_rfl) (by kernel_rfl) (by kernel_rfl) (fun _ _ _ h => h) (Or.inl ⟨by kernel_rfl, ?_⟩) ?_
                    rotate_left 1
                    · (intro w; first | (go_simp; done) | (go_simp; with_reducible rfl))
                    change wpAny _ _ _ _ _ _ (Act.put _ (some 62) _) _
                    refine wpAny_take (i := 18) (v := ?_) rfl (by kernel_rfl) (by kernel_rfl) (by kernel_rfl) (fun _ _ _ h => h) (Or.inl ⟨by kernel_rfl, ?_⟩) ?_
                    rotate_left 1
                    · (intro w; first | (go_simp; done) | (go_simp; with_reducible rfl))
                    change wpAny _ _ _ _ _ _ (Act.put _ (some 8) _) _
                    refine wpAny_done (by kernel_rfl) ?_ _
                    go_simp
                    have HG := Lib.hid hg2
                    clear hg2 y0 y1
                    go_wp2
                    go_roundg (a + 1 - (a + 1))
                    case measure => omega
                    case rel => exact ⟨a + 1, by rw [HV.out], by simp, by omega, rfl, HG⟩
              · replace HC1 : Hid (Calls Tryz.prog 15 #[patV st o k cap, .slice (some ⟨g, off + i, none⟩) (a - i) (lcap - i)] wr.drew fun e w' => e = .returned (.bool (fitsA X (segP L i a))) ∧ w'.cell? ⟨w.heap.size, 0, none⟩ = some (.bool st) ∧ w'.cell? ⟨w.heap.size, 1, none⟩ = some (.slice o k cap) ∧ Below w3.heap.size w3 w') := by
                  have e : dropO (some ⟨g, off, none⟩) lcap i = some ⟨g, off + i, none⟩ := by unfold dropO; simp [hje]
                  rw [e] at HC1
                  exact HC1
                cases hb1 : fitsA X (segP L i a) with
                | false =>
                  rw [hb1] at HC1
                  have HV : Hid (behB st X L a (i + 1) = false) := Lib.hid (by rw [behB_more, hv, hb1]; rfl)
                  clear hb1 hv
                  go_wp2_with fail
                  refine wp_region_any (by kernel_rfl) ?_
                  try (change wpAny _ _ _ _ _ _ _ (World.drew _))
                  refine wpAny_take (i := 0) (v := ?_) rfl (by kernel_rfl) (by kernel_rfl) (by kernel_rfl) (fun _ _ _ h => h) (Or.inl ⟨by kernel_rfl, ?_⟩) ?_
                  rotate_left 1
                  · (intro w; first | (go_simp; done) | (go_simp; with_reducible rfl))
                  change wpAny _ _ _ _ _ _ (Act.put _ (some 45) _) _
                  refine wpAny_take (i := 1) (v := ?_) rfl (by kernel_rfl) (by kernel_rfl) (by kernel_rfl) (fun _ _ _ h => h) (Or.inl ⟨by kernel_rfl, ?_⟩) ?_
                  rotate_left 1
                  · (intro w; first | (go_simp; done) | (go_simp; with_reducible rfl))
                  change wpAny _ _ _ _ _ _ (Act.put _ (some 46) _) _
                  refine wpAny_take (i := 3) (v := ?_) rfl (by kernel_rfl) (by kernel_rfl) (by kernel_rfl) (fun _ _ _ h => h) (Or.inl ⟨by kernel_rfl, ?_⟩) ?_
                  rotate_left 1
                  · (intro w; first | (go_simp; done) | (go_simp; with_reducible rfl))
                  change wpAny _ _ _ _ _ _ (Act.put _ (some 48) _) _
                  refine wpAny_take (i := 4) (v := ?_) rfl (by kernel_rfl) (by kernel_rfl) (by kernel_rfl) (fun _ _ _ h => h) (Or.inl ⟨by kernel_rfl, ?_⟩) ?_
                  rotate_left 1
                  · (intro w; first | (go_simp; done) | (go_simp; with_reducible rfl))
                  change wpAny _ _ _ _ _ _ (Act.put _ (some 49) _) _
                  refine wpAny_take (i := 5) (v := ?_) rfl (by kernel_rfl) (by kernel_rfl) (by kernel_rfl) (fun _ _ _ h => h) (Or.inl ⟨by kernel_rfl, ?_⟩) ?_
                  rotate_left 1
                  · (intro w; first | (go_simp; done) | (go_simp; with_reducible rfl))
                  change wpAny _ _ _ _ _ _ (Act.put _ (some 50) _) _
                  refine wpAny_take (i := 6) (v := ?_) rfl (by kernel_rfl) (by kernel_rfl) (by kernel_rfl) (fun _ _ _ h => h) (Or.inl ⟨by kernel_rfl, ?_⟩) ?_
                  rotate_left 1
                  · (intro w; first | (go_simp; done) | (go_simp; with_reducible rfl))
                  change wpAny _ _ _ _ _ _ (Act.put _ (some 51) _) _
                  refine wpAny_ready (rs := [2]) (by kernel_rfl) (by simp) ?_
                  refine AllReady.cons rfl (fun K hK => ?_) AllReady.nil
                  go_simp
                  refine hK _ _ ?_
                  clear hK K
                  refine wpAny_ready (rs := [7]) (by kernel_rfl) (by simp) ?_
                  refine AllReady.cons rfl (fun K hK => ?_) AllReady.nil
                  go_simp
                  go_wp2_with (refine HC1.out.mono ?_; rintro e w5 ⟨rfl, hg⟩; obtain ⟨y0, y1, hg2⟩ := hg)
                  refine wpAny_take (i := 8) (v := ?_) rfl (by kernel_rfl) (by kernel_rfl) (by kernel_rfl) (fun _ _ _ h => h) (Or.inl ⟨by kernel_rfl, ?_⟩) ?_
                  rotate_left 1
                  · (intro w; first | (go_simp; done) | (go_simp; with_reducible rfl))
                  change wpAny _ _ _ _ _ _ (Act.put _ (some 53) _) _
                  refine wpAny_take (i := 9) (v := undef) rfl (by kernel_rfl) (by kernel_rfl) (by kernel_rfl) (fun _ _ _ h => h) (Or.inr ⟨by kernel_rfl, rfl⟩) ?_
                  change wpAny _ _ _ _ _ _ (Act.put _ (some 54) _) _
                  refine wpAny_take (i := 10) (v := undef) rfl (by kernel_rfl) (by kernel_rfl) (by kernel_rfl) (fun _ _ _ h => h) (Or.inr ⟨by kernel_rfl, rfl⟩) ?_
                  change wpAny _ _ _ _ _ _ (Act.put _ (some 55) _) _
                  refine wpAny_take (i := 11) (v := undef) rfl (by kernel_rfl) (by kernel_rfl) (by kernel_rfl) (fun _ _ _ h => h) (Or.inr ⟨by kernel_rfl, rfl⟩) ?_
                  change wpAny _ _ _ _ _ _ (Act.put _ (some 56) _) _
                  refine wpAny_take (i := 12) (v := undef) rfl (by kernel_rfl) (by kernel_rfl) (by kernel_rfl) (fun _ _ _ h => h) (Or.inr ⟨by kernel_rfl, rfl⟩) ?_
                  change wpAny _ _ _ _ _ _ (Act.put _ (some 57) _) _
                  refine wpAny_take (i := 13) (v := undef) rfl (by kernel_rfl) (by kernel_rfl) (by kernel_rfl) (fun _ _ _ h => h) (Or.inr ⟨by kernel_rfl, rfl⟩) ?_
                  change wpAny _ _ _ _ _ _ (Act.put _ (some 58) _) _
                  refine wpAny_take (i := 14) (v := undef) rfl (by kernel_rfl) (by kernel_rfl) (by kernel_rfl) (fun _ _ _ h => h) (Or.inr ⟨by kernel_rfl, rfl⟩) ?_
                  change wpAny _ _ _ _ _ _ (Act.put _ (some 59) _) _
                  refine wpAny_take (i := 15) (v := undef) rfl (by kernel_rfl) (by kernel_rfl) (by kernel_rfl) (fun _ _ _ h => h) (Or.inr ⟨by kernel_rfl, rfl⟩) ?_
                  change wpAny _ _ _ _ _ _ (Act.put _ (some 60) _) _
                  refine wpAny_take (i := 16) (v := ?_) rfl (by kernel_rfl) (by kernel_rfl) (by kernel_rfl) (fun _ _ _ h => h) (Or.inl ⟨by kernel_rfl, ?_⟩) ?_
                  rotate_left 1
                  · (intro w; first | (go_simp; done) | (go_simp; with_reducible rfl))
                  change wpAny _ _ _ _ _ _ (Act.put _ (some 61) _) _
                  refine wpAny_take (i := 17) (v := ?_) rfl (by kernel_rfl) (by kernel_rfl) (by kernel_rfl) (fun _ _ _ h => h) (Or.inl ⟨by kernel_rfl, ?_⟩) ?_
                  rotate_left 1
                  · (intro w; first | (go_simp; done) | (go_simp; with_reducible rfl))
                  change wpAny _ _ _ _ _ _ (Act.put _ (some 62) _) _
                  refine wpAny_take (i := 18) (v := ?_) rfl (by kernel_rfl) (by kernel_rfl) (by kernel_rfl) (fun _ _ _ h => h) (Or.inl ⟨by kernel_rfl, ?_⟩) ?_
                  rotate_left 1
                  · (intro w; first | (go_simp; done) | (go_simp; with_reducible rfl))
                  change wpAny _ _ _ _ _ _ (Act.put _ (some 8) _) _
                  refine wpAny_done (by kernel_rfl) ?_ _
                  go_simp
                  have HG := Lib.hid hg2
                  clear hg2 y0 y1
                  go_wp2
                  go_roundg (a + 1 - (i + 1))
                  case measure => omega
                  case rel => exact ⟨i + 1, by rw [HV.out], by simp, by omega, rfl, HG⟩
                | true =>
                  rw [hb1] at HC1
                  cases st with
                  | false =>
                    have HV : Hid (behB false X L a (i + 1) = true) := Lib.hid (by rw [behB_more, hv, hb1]; rfl)
                    clear hb1 hv
                    go_wp2_with fail
                    refine wp_region_any (by kernel_rfl) ?_
                    try (change wpAny _ _ _ _ _ _ _ (World.drew _))
                    refine wpAny_take (i := 0) (v := ?_) rfl (by kernel_rfl) (by kernel_rfl) (by kernel_rfl) (fun _ _ _ h => h) (Or.inl ⟨by kernel_rfl, ?_⟩) ?_
                    rotate_left 1
                    · (intro w; first | (go_simp; done) | (go_simp; with_reducible rfl))
                    change wpAny _ _ _ _ _ _ (Act.put _ (some 45) _) _
                    refine wpAny_take (i := 1) (v := ?_) rfl (by kernel_rfl) (by kernel_rfl) (by kernel_rfl) (fun _ _ _ h => h) (Or.inl ⟨by kernel_rfl, ?_⟩) ?_
                    rotate_left 1
                    · (intro w; first | (go_simp; done) | (go_simp; with_reducible rfl))
                    change wpAny _ _ _ _ _ _ (Act.put _ (some 46) _) _
                    refine wpAny_take (i := 3) (v := ?_) rfl (by kernel_rfl) (by kernel_rfl) (by kernel_rfl) (fun _ _ _ h => h) (Or.inl ⟨by kernel_rfl, ?_⟩) ?_
                    rotate_left 1
                    · (intro w; first | (go_simp; done) | (go_simp; with_reducible rfl))
                    change wpAny _ _ _ _ _ _ (Act.put _ (some 48) _) _
                    refine wpAny_take (i := 4) (v := ?_) rfl (by kernel_rfl) (by kernel_rfl) (by kernel_rfl) (fun _ _ _ h => h) (Or.inl ⟨by kernel_rfl, ?_⟩) ?_
                    rotate_left 1
                    · (intro w; first | (go_simp; done) | (go_simp; with_reducible rfl))
                    change wpAny _ _ _ _ _ _ (Act.put _ (some 49) _) _
                    refine wpAny_take (i := 5) (v := ?_) rfl (by kernel_rfl) (by kernel_rfl) (by kernel_rfl) (fun _ _ _ h => h) (Or.inl ⟨by kernel_rfl, ?_⟩) ?_
                    rotate_left 1
                    · (intro w; first | (go_simp; done) | (go_simp; with_reducible rfl))
                    change wpAny _ _ _ _ _ _ (Act.put _ (some 50) _) _
                    refine wpAny_take (i := 6) (v := ?_) rfl (by kernel_rfl) (by kernel_rfl) (by kernel_rfl) (fun _ _ _ h => h) (Or.inl ⟨by kernel_rfl, ?_⟩) ?_
                    rotate_left 1
                    · (intro w; first | (go_simp; done) | (go_simp; with_reducible rfl))
                    change wpAny _ _ _ _ _ _ (Act.put _ (some 51) _) _
                    refine wpAny_ready (rs := [2]) (by kernel_rfl) (by simp) ?_
                    refine AllReady.cons rfl (fun K hK => ?_) AllReady.nil
                    go_simp
                    refine hK _ _ ?_
                    clear hK K
                    refine wpAny_ready (rs := [7]) (by kernel_rfl) (by simp) ?_
                    refine AllReady.cons rfl (fun K hK => ?_) AllReady.nil
                    go_simp
                    go_wp2_with (refine HC1.out.mono ?_; rintro e w5 ⟨rfl, hg⟩; obtain ⟨y0, y1, hg2⟩ := hg)
                    refine wpAny_take (i := 8) (v := ?_) rfl (by kernel_rfl) (by kernel_rfl) (by kernel_rfl) (fun _ _ _ h => h) (Or.inl ⟨by kernel_rfl, ?_⟩) ?_
                    rotate_left 1
                    · (intro w; first | (go_simp; done) | (go_simp; with_reducible rfl))
                    change wpAny _ _ _ _ _ _ (Act.put _ (some 53) _) _
                    refine wpAny_take (i := 9) (v := ?_) rfl (by kernel_rfl) (by kernel_rfl) (by kernel_rfl) (fun _ _ _ h => h) (Or.inl ⟨by kernel_rfl, ?_⟩) ?_
                    rotate_left 1
                    · (intro w; first | (go_simp; done) | (go_simp; with_reducible rfl))
                    change wpAny _ _ _ _ _ _ (Act.put _ (some 54) _) _
                    refine wpAny_ready (rs := [10]) (by kernel_rfl) (by simp) ?_
                    refine AllReady.cons rfl (fun K hK => ?_) AllReady.nil
                    go_simp
                    refine hK _ _ ?_
                    clear hK K
                    refine wpAny_take (i := 11) (v := ?_) rfl (by kernel_rfl) (by kernel_rfl) (by kernel_rfl) (fun _ _ _ h => h) (Or.inl ⟨by kernel_rfl, ?_⟩) ?_
                    rotate_left 1
                    · (intro w; first | (go_simp; done) | (go_simp; with_reducible rfl))
                    change wpAny _ _ _ _ _ _ (Act.put _ (some 56) _) _
                    refine wpAny_take (i := 12) (v := ?_) rfl (by kernel_rfl) (by kernel_rfl) (by kernel_rfl) (fun _ _ _ h => h) (Or.inl ⟨by kernel_rfl, ?_⟩) ?_
                    rotate_left 1
                    · (intro w; first | (go_simp; done) | (go_simp; with_reducible rfl))
                    change wpAny _ _ _ _ _ _ (Act.put _ (some 57) _) _
                    refine wpAny_take (i := 13) (v := undef) rfl (by kernel_rfl) (by kernel_rfl) (by kernel_rfl) (fun _ _ _ h => h) (Or.inr ⟨by kernel_rfl, rfl⟩) ?_
                    change wpAny _ _ _ _ _ _ (Act.put _ (some 58) _) _
                    refine wpAny_take (i := 14) (v := undef) rfl (by kernel_rfl) (by kernel_rfl) (by kernel_rfl) (fun _ _ _ h => h) (Or.inr ⟨by kernel_rfl, rfl⟩) ?_
                    change wpAny _ _ _ _ _ _ (Act.put _ (some 59) _) _
                    refine wpAny_take (i := 15) (v := ?_) rfl (by kernel_rfl) (by kernel_rfl) (by kernel_rfl) (fun _ _ _ h => h) (Or.inl ⟨by kernel_rfl, ?_⟩) ?_
                    rotate_left 1
                    · (intro w; first | (go_simp; done) | (go_simp; with_reducible rfl))
                    change wpAny _ _ _ _ _ _ (Act.put _ (some 60) _) _
                    refine wpAny_take (i := 16) (v := ?_) rfl (by kernel_rfl) (by kernel_rfl) (by kernel_rfl) (fun _ _ _ h => h) (Or.inl ⟨by kernel_rfl, ?_⟩) ?_
                    rotate_left 1
                    · (intro w; first | (go_simp; done) | (go_simp; with_reducible rfl))
                    change wpAny _ _ _ _ _ _ (Act.put _ (some 61) _) _
                    refine wpAny_take (i := 17) (v := ?_) rfl (by kernel_rfl) (by kernel_rfl) (by kernel_rfl) (fun _ _ _ h => h) (Or.inl ⟨by kernel_rfl, ?_⟩) ?_
                    rotate_left 1
                    · (intro w; first | (go_simp; done) | (go_simp; with_reducible rfl))
                    change wpAny _ _ _ _ _ _ (Act.put _ (some 62) _) _
                    refine wpAny_take (i := 18) (v := ?_) rfl (by kernel_rfl) (by kernel_rfl) (by kernel_rfl) (fun _ _ _ h => h) (Or.inl ⟨by kernel_rfl, ?_⟩) ?_
                    rotate_left 1
                    · (intro w; first | (go_simp; done) | (go_simp; with_reducible rfl))
                    change wpAny _ _ _ _ _ _ (Act.put _ (some 8) _) _
                    refine wpAny_done (by kernel_rfl) ?_ _
                    go_simp
                    have HG := Lib.hid hg2
                    clear hg2 y0 y1
                    go_wp2
                    go_roundg (a + 1 - (i + 1))
                    case measure => omega
                    case rel => exact ⟨i + 1, by rw [HV.out], by simp, by omega, rfl, HG⟩
                  | true =>
                    have HV : Hid (behB true X L a (i + 1) = false) := Lib.hid (by rw [behB_more, hv, hb1]; simp [hi0])
                    clear hb1 hv
                    go_wp2_with fail
                    refine wp_region_any (by kernel_rfl) ?_
                    try (change wpAny _ _ _ _ _ _ _ (World.drew _))
                    refine wpAny_take (i := 0) (v := ?_) rfl (by kernel_rfl) (by kernel_rfl) (by kernel_rfl) (fun _ _ _ h => h) (Or.inl ⟨by kernel_rfl, ?_⟩) ?_
                    rotate_left 1
                    · (intro w; first | (go_simp; done) | (go_simp; with_reducible rfl))
                    change wpAny _ _ _ _ _ _ (Act.put _ (some 45) _) _
                    refine wpAny_take (i := 1) (v := ?_) rfl (by kernel_rfl) (by kernel_rfl) (by kernel_rfl) (fun _ _ _ h => h) (Or.inl ⟨by kernel_rfl, ?_⟩) ?_
                    rotate_left 1
                    · (intro w; first | (go_simp; done) | (go_simp; with_reducible rfl))
                    change wpAny _ _ _ _ _ _ (Act.put _ (some 46) _) _
                    refine wpAny_take (i := 3) (v := ?_) rfl (by kernel_rfl) (by kernel_rfl) (by kernel_rfl) (fun _ _ _ h => h) (Or.inl ⟨by kernel_rfl, ?_⟩) ?_
                    rotate_left 1
                    · (intro w; first | (go_simp; done) | (go_simp; with_reducible rfl))
                    change wpAny _ _ _ _ _ _ (Act.put _ (some 48) _) _
                    refine wpAny_take (i := 4) (v := ?_) rfl (by kernel_rfl) (by kernel_rfl) (by kernel_rfl) (fun _ _ _ h => h) (Or.inl ⟨by kernel_rfl, ?_⟩) ?_
                    rotate_left 1
                    · (intro w; first | (go_simp; done) | (go_simp; with_reducible rfl))
                    change wpAny _ _ _ _ _ _ (Act.put _ (some 49) _) _
                    refine wpAny_take (i := 5) (v := ?_) rfl (by kernel_rfl) (by kernel_rfl) (by kernel_rfl) (fun _ _ _ h => h) (Or.inl ⟨by kernel_rfl, ?_⟩) ?_
                    rotate_left 1
                    · (intro w; first | (go_simp; done) | (go_simp; with_reducible rfl))
                    change wpAny _ _ _ _ _ _ (Act.put _ (some 50) _) _
                    refine wpAny_take (i := 6) (v := ?_) rfl (by kernel_rfl) (by kernel_rfl) (by kernel_rfl) (fun _ _ _ h => h) (Or.inl ⟨by kernel_rfl, ?_⟩) ?_
                    rotate_left 1
                    · (intro w; first | (go_simp; done) | (go_simp; with_reducible rfl))
                    change wpAny _ _ _ _ _ _ (Act.put _ (some 51) _) _
                    refine wpAny_ready (rs := [2]) (by kernel_rfl) (by simp) ?_
                    refine AllReady.cons rfl (fun K hK => ?_) AllReady.nil
                    go_simp
                    refine hK _ _ ?_
                    clear hK K
                    refine wpAny_ready (rs := [7]) (by kernel_rfl) (by simp) ?_
                    refine AllReady.cons rfl (fun K hK => ?_) AllReady.nil
                    go_simp
                    go_wp2_with (refine HC1.out.mono ?_; rintro e w5 ⟨rfl, hg⟩; obtain ⟨y0, y1, hg2⟩ := hg)
                    refine wpAny_take (i := 8) (v := ?_) rfl (by kernel_rfl) (by kernel_rfl) (by kernel_rfl) (fun _ _ _ h => h) (Or.inl ⟨by kernel_rfl, ?_⟩) ?_
                    rotate_left 1
                    · (intro w; first | (go_simp; done) | (go_simp; with_reducible rfl))
                    change wpAny _ _ _ _ _ _ (Act.put _ (some 53) _) _
                    refine wpAny_take (i := 9) (v := ?_) rfl (by kernel_rfl) (by kernel_rfl) (by kernel_rfl) (fun _ _ _ h => h) (Or.inl ⟨by kernel_rfl, ?_⟩) ?_
                    rotate_left 1
                    · (intro w; first | (go_simp; done) | (go_simp; with_reducible rfl))
                    change wpAny _ _ _ _ _ _ (Act.put _ (some 54) _) _
                    refine wpAny_ready (rs := [10]) (by kernel_rfl) (by simp) ?_
                    refine AllReady.cons rfl (fun K hK => ?_) AllReady.nil
                    go_simp
                    refine hK _ _ ?_
                    clear hK K
                    refine wpAny_take (i := 11) (v := ?_) rfl (by kernel_rfl) (by kernel_rfl) (by kernel_rfl) (fun _ _ _ h => h) (Or.inl ⟨by kernel_rfl, ?_⟩) ?_
                    rotate_left 1
                    · (intro w; first | (go_simp; done) | (go_simp; with_reducible rfl))
                    change wpAny _ _ _ _ _ _ (Act.put _ (some 56) _) _
                    refine wpAny_take (i := 12) (v := ?_) rfl (by kernel_rfl) (by kernel_rfl) (by kernel_rfl) (fun _ _ _ h => h) (Or.inl ⟨by kernel_rfl, ?_⟩) ?_
                    rotate_left 1
                    · (intro w; first | (go_simp; done) | (go_simp; with_reducible rfl))
                    change wpAny _ _ _ _ _ _ (Act.put _ (some 57) _) _
                    refine wpAny_take (i := 13) (v := ?_) rfl (by kernel_rfl) (by kernel_rfl) (by kernel_rfl) (fun _ _ _ h => h) (Or.inl ⟨by kernel_rfl, ?_⟩) ?_
                    rotate_left 1
                    · (intro w; first | (go_simp; done) | (go_simp; with_reducible rfl))
                    change wpAny _ _ _ _ _ _ (Act.put _ (some 58) _) _
                    refine wpAny_take (i := 14) (v := ?_) rfl (by kernel_rfl) (by kernel_rfl) (by kernel_rfl) (fun _ _ _ h => h) (Or.inl ⟨by kernel_rfl, ?_⟩) ?_
                    rotate_left 1
                    · (intro w; first | (go_simp; done) | (go_simp; with_reducible rfl))
                    change wpAny _ _ _ _ _ _ (Act.put _ (some 59) _) _
                    refine wpAny_take (i := 15) (v := ?_) rfl (by kernel_rfl) (by kernel_rfl) (by kernel_rfl) (fun _ _ _ h => h) (Or.inl ⟨by kernel_rfl, ?_⟩) ?_
                    rotate_left 1
                    · (intro w; first | (go_simp; done) | (go_simp; with_reducible rfl))
                    change wpAny _ _ _ _ _ _ (Act.put _ (some 60) _) _
                    refine wpAny_take (i := 16) (v := ?_) rfl (by kernel_rfl) (by kernel_rfl) (by kernel_rfl) (fun _ _ _ h => h) (Or.inl ⟨by kernel_rfl, ?_⟩) ?_
                    rotate_left 1
                    · (intro w; first | (go_simp; done) | (go_simp; with_reducible rfl))
                    change wpAny _ _ _ _ _ _ (Act.put _ (some 61) _) _
                    refine wpAny_take (i := 17) (v := ?_) rfl (by kernel_rfl) (by kernel_rfl) (by kernel_rfl) (fun _ _ _ h => h) (Or.inl ⟨by kernel_rfl, ?_⟩) ?_
                    rotate_left 1
                    · (intro w; first | (go_simp; done) | (go_simp; with_reducible rfl))
                    change wpAny _ _ _ _ _ _ (Act.put _ (some 62) _) _
                    refine wpAny_take (i := 18) (v := ?_) rfl (by kernel_rfl) (by kernel_rfl) (by kernel_rfl) (fun _ _ _ h => h) (Or.inl ⟨by kernel_rfl, ?_⟩) ?_
                    rotate_left 1
                    · (intro w; first | (go_simp; done) | (go_simp; with_reducible rfl))
                    change wpAny _ _ _ _ _ _ (Act.put _ (some 8) _) _
                    refine wpAny_done (by kernel_rfl) ?_ _
                    go_simp
                    have HG := Lib.hid hg2
                    clear hg2 y0 y1
                    go_wp2
                    go_roundg (a + 1 - (i + 1))
                    case measure => omega
                    case rel => exact ⟨i + 1, by rw [HV.out], by simp, by omega, rfl, HG⟩
end Go.Proofs.YtcgljfmknggdoaaGreatDoor
