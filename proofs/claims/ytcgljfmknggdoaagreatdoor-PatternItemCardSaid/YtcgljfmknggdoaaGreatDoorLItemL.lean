/- PatternItem. -/
import Derived.Test.YtcgljfmknggdoaaGreatDoorBunA19
namespace Go.Proofs.YtcgljfmknggdoaaGreatDoor
open Go.RowKit Go.Shelf Go.Maps
attribute [local go_sem] Oper.semAt_some

/-- May so many numbers fit an item that stands so often? -/
def manyB (how : Int) (n : Nat) : Bool := decide (how = 1) || (decide (how = 0) && decide (n = 1)) || (decide (how = 2) && decide (n % 2 = 0))
theorem fits_one {s how : Int} (hr : rightB [(s, how)] 32 = true) (l : List Int) : fitsA [(s, how)] l = (manyB how l.length && l.all fun c => hasZ s c) := by
  have hw := rightB_how hr
  unfold fitsA
  rw [hr, Bool.true_and, Bool.eq_iff_iff, fitsB_iff hw, fitsP_one]
  unfold eatsP manyB
  simp only [Bool.and_eq_true, Bool.or_eq_true, decide_eq_true_eq, List.all_eq_true]
  constructor
  · rintro ⟨h1, h2⟩
    refine ⟨?_, h1⟩
    rcases h2 with h | h | h
    · exact .inl (.inl h)
    · exact .inl (.inr h)
    · exact .inr h
  · rintro ⟨h1, h2⟩
    refine ⟨h2, ?_⟩
    rcases h1 with (h | h) | h
    · exact .inl h
    · exact .inr (.inl h)
    · exact .inr (.inr h)
set_option maxRecDepth 100000 in
set_option maxHeartbeats 40000000 in
theorem item_anyL (s how : Int) (l : List Int) (lo : Option Addr) (cap : Nat) (hlc : l.length ≤ cap) (w : World) (aU aS : Addr) (hQ : GlobQ w aU aS) (hG : KGlob w) (hL : NumsInQ w lo l ∧ (lo = none → cap = 0) ∧ ∀ p, lo = some p → 0 < cap → p.spot = none) :
    Calls Tryz.prog 9 #[.int .i64 s, .int .i64 how, .slice lo l.length cap] w fun e w' => e = .returned (.bool true) ∧ Below w.heap.size w w' := by
  have HSH := Lib.hid (shownQ_any w aU aS hQ hG)
  have HFE := Lib.hid (fun W => fewL_any lo l cap hlc W)
  obtain ⟨L, hLL⟩ : ∃ L, l.take 40 = L := ⟨_, rfl⟩
  have h40 : L.length ≤ 40 := by rw [← hLL, List.length_take]; omega
  have HLT : Hid (∀ W, Below w.heap.size w W → NumsAt W lo L) := Lib.hid fun W hb => by
    rw [← hLL]
    refine (fun hn => ?_ : NumsAt W lo (l.take 40))
    obtain ⟨g, off, ho, hc⟩ := (hL.1.1.below hb) (by rw [List.length_take] at hn; omega)
    refine ⟨g, off, ho, fun j x hx => hc j x ?_⟩
    rw [List.getElem?_take] at hx
    split at hx
    · exact hx
    · cases hx
  rw [hLL] at HFE
  obtain ⟨n, hn⟩ : ∃ n, L.length = n := ⟨_, rfl⟩
  obtain ⟨m, hm⟩ : ∃ m, l.length = m := ⟨_, rfl⟩
  have HN := Lib.hid hn
  have HFI : Hid (∀ W, Below w.heap.size w W → ∀ g, W.heap[g]? = some (itO (s, how)) → Calls Tryz.prog 15 #[patV false (some ⟨g, 0, none⟩) 1 1, .slice lo n cap] W fun e w' => e = .returned (.bool (fitsA [(s, how)] L)) ∧ Below W.heap.size W w') := Lib.hid fun W hb g hg => by
    have := Fits_anyQ false (some ⟨g, 0, none⟩) lo [(s, how)] L 1 cap (by simp) (by omega) W (fun _ => ⟨g, 0, rfl, fun j x hx => by
      match j, hx with
      | 0, hx => cases hx; exact it_cells hg
      | j + 1, hx => simp at hx⟩) (HLT.out W hb)
    rw [hn] at this
    exact this
  have HRI : Hid (∀ W g, W.heap[g]? = some (itO (s, how)) → Calls Tryz.prog 13 #[patV false (some ⟨g, 0, none⟩) 1 1, .int .i64 32] W fun e w' => e = .returned (.bool (rightB [(s, how)] 32)) ∧ Below W.heap.size W w') := Lib.hid fun W g hg =>
    Right_anyQ false (some ⟨g, 0, none⟩) [(s, how)] 1 32 (by simp) W (fun _ => ⟨g, 0, rfl, fun j x hx => by
      match j, hx with
      | 0, hx => cases hx; exact it_cells hg
      | j + 1, hx => simp at hx⟩)
  have HHA := Lib.hid (fun c W => Has_anyK s c W)
  rw [hm] at HFE ⊢
  rw [hn] at HFE h40
  clear hL hQ hG hLL hn hm hlc
  cases hr : rightB [(s, how)] 32 with
  | false =>
    rw [hr] at HRI
    have hfa : fitsA [(s, how)] L = false := by unfold fitsA; rw [hr]; rfl
    rw [hfa] at HFI
    clear hr hfa
    go_enter Tryz.func9, Tryz.ntmps9
    go_wp2_with fail
    refine HSH.out.mono ?_
    rintro e w1 ⟨rfl, b1⟩
    have HB1 := Lib.hid b1
    clear b1
    go_wp2_with fail
    refine (HFE.out _).mono ?_
    rintro e _ ⟨rfl, rfl⟩
    obtain ⟨w2, hw2⟩ : ∃ w2, (w1.alloc (itO (s, how))).alloc (patO false (some ⟨w1.heap.size, 0, none⟩) 1 1) = w2 := ⟨_, rfl⟩
    have hb1 : Below w1.heap.size w1 (w1.alloc (itO (s, how))) := (Below.refl _ _).alloc (Nat.le_refl _) _
    have b2 : Below w1.heap.size w1 w2 := by rw [← hw2]; exact hb1.alloc hb1.size _
    have i2 : w2.heap[w1.heap.size]? = some (itO (s, how)) := by rw [← hw2]; exact row_below (heap_alloc_new _ _) ((Below.refl _ _).alloc (Nat.le_refl _) _)
    have p2 : w2.heap[w1.heap.size + 1]? = some (patO false (some ⟨w1.heap.size, 0, none⟩) 1 1) := by
      have := heap_alloc_new (w1.alloc (itO (s, how))) (patO false (some ⟨w1.heap.size, 0, none⟩) 1 1)
      rw [hw2] at this
      simpa using this
    have HB2 := Lib.hid (HB1.out.trans (b2.mono HB1.out.size))
    have HI2 := Lib.hid i2
    have HP2 := Lib.hid p2
    have HW2 := Lib.hid hw2
    clear hb1 b2 i2 p2 hw2
    go_wp2_with fail
    rw [HW2.out]
    refine (HFI.out w2 HB2.out _ HI2.out).mono ?_
    rintro e w3 ⟨rfl, b3⟩
    have HB3 := Lib.hid (HB2.out.trans (b3.mono HB2.out.size))
    have HI3 := Lib.hid (row_below HI2.out b3)
    obtain ⟨q0, q1⟩ := pat_cells (row_below HP2.out b3)
    clear b3
    go_wp2_with fail
    refine (HRI.out w3 _ HI3.out).mono ?_
    rintro e w4 ⟨rfl, b4⟩
    have HB4 := Lib.hid (HB3.out.trans (b4.mono HB3.out.size))
    clear b4
    go_wp2
    first | exact ⟨rfl, HB4.out⟩ | (go_ret; exact ⟨rfl, HB4.out⟩)
  | true =>
    rw [hr] at HRI
    have hfa := fits_one hr L
    obtain ⟨_, _, hall⟩ := rightB_parts hr
    have hhow := (hall _ (List.mem_singleton.2 rfl)).2
    simp only at hhow
    rw [HN.out] at hfa
    obtain ⟨q, hq⟩ : ∃ q, manyB how n = q := ⟨_, rfl⟩
    rw [hq] at hfa
    obtain ⟨b, hb⟩ : ∃ b, fitsA [(s, how)] L = b := ⟨_, rfl⟩
    rw [hb] at HFI hfa
    have HFA := Lib.hid hfa
    clear hr hall hb hfa
    rcases hhow with rfl | rfl | rfl
    · by_cases h1 : n = 1
      · subst h1
        have hq' : q = true := by rw [← hq]; rfl
        clear hq
        go_enter Tryz.func9, Tryz.ntmps9
        go_wp2_with fail
        refine HSH.out.mono ?_
        rintro e w1 ⟨rfl, b1⟩
        have HB1 := Lib.hid b1
        clear b1
        go_wp2_with fail
        refine (HFE.out _).mono ?_
        rintro e _ ⟨rfl, rfl⟩
        obtain ⟨w2, hw2⟩ : ∃ w2, (w1.alloc (itO (s, 0))).alloc (patO false (some ⟨w1.heap.size, 0, none⟩) 1 1) = w2 := ⟨_, rfl⟩
        have hb1 : Below w1.heap.size w1 (w1.alloc (itO (s, 0))) := (Below.refl _ _).alloc (Nat.le_refl _) _
        have b2 : Below w1.heap.size w1 w2 := by rw [← hw2]; exact hb1.alloc hb1.size _
        have i2 : w2.heap[w1.heap.size]? = some (itO (s, 0)) := by rw [← hw2]; exact row_below (heap_alloc_new _ _) ((Below.refl _ _).alloc (Nat.le_refl _) _)
        have p2 : w2.heap[w1.heap.size + 1]? = some (patO false (some ⟨w1.heap.size, 0, none⟩) 1 1) := by
          have := heap_alloc_new (w1.alloc (itO (s, 0))) (patO false (some ⟨w1.heap.size, 0, none⟩) 1 1)
          rw [hw2] at this
          simpa using this
        have HB2 := Lib.hid (HB1.out.trans (b2.mono HB1.out.size))
        have HI2 := Lib.hid i2
        have HP2 := Lib.hid p2
        have HW2 := Lib.hid hw2
        clear hb1 b2 i2 p2 hw2
        go_wp2_with fail
        rw [HW2.out]
        refine (HFI.out w2 HB2.out _ HI2.out).mono ?_
        rintro e w3 ⟨rfl, b3⟩
        have HB3 := Lib.hid (HB2.out.trans (b3.mono HB2.out.size))
        have HI3 := Lib.hid (row_below HI2.out b3)
        obtain ⟨q0, q1⟩ := pat_cells (row_below HP2.out b3)
        clear b3
        go_wp2_with fail
        refine (HRI.out w3 _ HI3.out).mono ?_
        rintro e w4 ⟨rfl, b4⟩
        have HB4 := Lib.hid (HB3.out.trans (b4.mono HB3.out.size))
        clear b4 q0 q1
        go_wp2_with fail
        go_loopg [10, 11] (1) (fun k' v10 v11 wr => ∃ (j : Nat), v10 = .bool (q && (L.take j).all fun c => hasZ s c) ∧ v11 = .int .i64 (j : Nat) ∧ j ≤ 1 ∧ 1 - j = k' ∧ Hid (Below w.heap.size w wr))
        case atStart => exact ⟨0, by rw [hq']; rfl, rfl, Nat.zero_le _, rfl, HB4⟩
        case round =>
          obtain ⟨j, rfl, rfl, hj, rfl, HB⟩ := hrel
          have hj6 : j < 1000000 := by omega
          rcases Nat.lt_or_ge j 1 with hlt | hge
          · obtain ⟨c, hc⟩ : ∃ c, L[j]? = some c := ⟨_, List.getElem?_eq_getElem (by rw [HN.out]; exact hlt)⟩
            have hstep : (L.take (j + 1)).all (fun c => hasZ s c) = ((L.take j).all (fun c => hasZ s c) && hasZ s c) := by
              rw [List.take_add_one, hc]
              simp
            have HST := Lib.hid hstep
            obtain ⟨g, off, rfl, hcc⟩ := (HLT.out wr HB.out) (by rw [HN.out]; omega)
            have k0 := hcc j c hc
            have HH := Lib.hid (HHA.out c wr)
            clear hstep hcc hc
            cases hv : (q && (L.take j).all fun c => hasZ s c) with
            | false =>
              have HV : Hid ((q && (L.take (j + 1)).all fun c => hasZ s c) = false) := Lib.hid (by rw [HST.out, ← Bool.and_assoc, hv]; rfl)
              clear hv
              go_wp2
              go_roundg (1 - (j + 1))
              case measure => omega
              case rel => exact ⟨j + 1, by rw [HV.out], by simp, by omega, rfl, HB⟩
            | true =>
              obtain ⟨hb, hhb⟩ : ∃ hb, hasZ s c = hb := ⟨_, rfl⟩
              have HV : Hid ((q && (L.take (j + 1)).all fun c => hasZ s c) = hb) := Lib.hid (by rw [HST.out, ← Bool.and_assoc, hv, hhb]; rfl)
              rw [hhb] at HH
              clear hv hhb
              go_wp2_with fail
              refine HH.out.mono ?_
              rintro e w6 ⟨rfl, b6⟩
              have HB6 := Lib.hid (HB.out.trans (b6.mono HB.out.size))
              clear b6
              go_wp2
              go_roundg (1 - (j + 1))
              case measure => omega
              case rel => exact ⟨j + 1, by rw [HV.out], by simp, by omega, rfl, HB6⟩
          · obtain rfl : j = 1 := by omega
            have hend : (q && (L.take 1).all fun c => hasZ s c) = b := by rw [HFA.out, List.take_of_length_le (by rw [HN.out]; exact Nat.le_refl _)]
            rw [hend]
            clear hend
            cases b <;> (go_wp2; first | exact ⟨rfl, HB.out⟩ | (go_ret; exact ⟨rfl, HB.out⟩))
      · have hq' : q = false := by rw [← hq]; unfold manyB; simp [h1]
        have h1i : ¬ ((n : Nat) : Int) = 1 := by omega
        have h1j : (((n : Nat) : Int) == 1) = false := by rw [beq_eq_false_iff_ne]; exact h1i
        clear hq
        go_enter Tryz.func9, Tryz.ntmps9
        go_wp2_with fail
        refine HSH.out.mono ?_
        rintro e w1 ⟨rfl, b1⟩
        have HB1 := Lib.hid b1
        clear b1
        go_wp2_with fail
        refine (HFE.out _).mono ?_
        rintro e _ ⟨rfl, rfl⟩
        obtain ⟨w2, hw2⟩ : ∃ w2, (w1.alloc (itO (s, 0))).alloc (patO false (some ⟨w1.heap.size, 0, none⟩) 1 1) = w2 := ⟨_, rfl⟩
        have hb1 : Below w1.heap.size w1 (w1.alloc (itO (s, 0))) := (Below.refl _ _).alloc (Nat.le_refl _) _
        have b2 : Below w1.heap.size w1 w2 := by rw [← hw2]; exact hb1.alloc hb1.size _
        have i2 : w2.heap[w1.heap.size]? = some (itO (s, 0)) := by rw [← hw2]; exact row_below (heap_alloc_new _ _) ((Below.refl _ _).alloc (Nat.le_refl _) _)
        have p2 : w2.heap[w1.heap.size + 1]? = some (patO false (some ⟨w1.heap.size, 0, none⟩) 1 1) := by
          have := heap_alloc_new (w1.alloc (itO (s, 0))) (patO false (some ⟨w1.heap.size, 0, none⟩) 1 1)
          rw [hw2] at this
          simpa using this
        have HB2 := Lib.hid (HB1.out.trans (b2.mono HB1.out.size))
        have HI2 := Lib.hid i2
        have HP2 := Lib.hid p2
        have HW2 := Lib.hid hw2
        clear hb1 b2 i2 p2 hw2
        go_wp2_with fail
        rw [HW2.out]
        refine (HFI.out w2 HB2.out _ HI2.out).mono ?_
        rintro e w3 ⟨rfl, b3⟩
        have HB3 := Lib.hid (HB2.out.trans (b3.mono HB2.out.size))
        have HI3 := Lib.hid (row_below HI2.out b3)
        obtain ⟨q0, q1⟩ := pat_cells (row_below HP2.out b3)
        clear b3
        go_wp2_with fail
        refine (HRI.out w3 _ HI3.out).mono ?_
        rintro e w4 ⟨rfl, b4⟩
        have HB4 := Lib.hid (HB3.out.trans (b4.mono HB3.out.size))
        clear b4 q0 q1
        go_wp2_with fail
        go_loopg [10, 11] (n) (fun k' v10 v11 wr => ∃ (j : Nat), v10 = .bool (q && (L.take j).all fun c => hasZ s c) ∧ v11 = .int .i64 (j : Nat) ∧ j ≤ n ∧ n - j = k' ∧ Hid (Below w.heap.size w wr))
        case atStart => exact ⟨0, by rw [hq']; rfl, rfl, Nat.zero_le _, rfl, HB4⟩
        case round =>
          obtain ⟨j, rfl, rfl, hj, rfl, HB⟩ := hrel
          have hj6 : j < 1000000 := by omega
          rcases Nat.lt_or_ge j n with hlt | hge
          · obtain ⟨c, hc⟩ : ∃ c, L[j]? = some c := ⟨_, List.getElem?_eq_getElem (by rw [HN.out]; exact hlt)⟩
            have hstep : (L.take (j + 1)).all (fun c => hasZ s c) = ((L.take j).all (fun c => hasZ s c) && hasZ s c) := by
              rw [List.take_add_one, hc]
              simp
            have HST := Lib.hid hstep
            obtain ⟨g, off, rfl, hcc⟩ := (HLT.out wr HB.out) (by rw [HN.out]; omega)
            have k0 := hcc j c hc
            have HH := Lib.hid (HHA.out c wr)
            clear hstep hcc hc
            cases hv : (q && (L.take j).all fun c => hasZ s c) with
            | false =>
              have HV : Hid ((q && (L.take (j + 1)).all fun c => hasZ s c) = false) := Lib.hid (by rw [HST.out, ← Bool.and_assoc, hv]; rfl)
              clear hv
              go_wp2
              go_roundg (n - (j + 1))
              case measure => omega
              case rel => exact ⟨j + 1, by rw [HV.out], by simp, by omega, rfl, HB⟩
            | true =>
              obtain ⟨hb, hhb⟩ : ∃ hb, hasZ s c = hb := ⟨_, rfl⟩
              have HV : Hid ((q && (L.take (j + 1)).all fun c => hasZ s c) = hb) := Lib.hid (by rw [HST.out, ← Bool.and_assoc, hv, hhb]; rfl)
              rw [hhb] at HH
              clear hv hhb
              go_wp2_with fail
              refine HH.out.mono ?_
              rintro e w6 ⟨rfl, b6⟩
              have HB6 := Lib.hid (HB.out.trans (b6.mono HB.out.size))
              clear b6
              go_wp2
              go_roundg (n - (j + 1))
              case measure => omega
              case rel => exact ⟨j + 1, by rw [HV.out], by simp, by omega, rfl, HB6⟩
          · obtain rfl : j = n := by omega
            have hend : (q && (L.take j).all fun c => hasZ s c) = b := by rw [HFA.out, List.take_of_length_le (by rw [HN.out]; exact Nat.le_refl _)]
            rw [hend]
            clear hend
            cases b <;> (go_wp2; first | exact ⟨rfl, HB.out⟩ | (go_ret; exact ⟨rfl, HB.out⟩))
    · have hq' : q = true := by rw [← hq]; rfl
      clear hq
      go_enter Tryz.func9, Tryz.ntmps9
      go_wp2_with fail
      refine HSH.out.mono ?_
      rintro e w1 ⟨rfl, b1⟩
      have HB1 := Lib.hid b1
      clear b1
      go_wp2_with fail
      refine (HFE.out _).mono ?_
      rintro e _ ⟨rfl, rfl⟩
      obtain ⟨w2, hw2⟩ : ∃ w2, (w1.alloc (itO (s, 1))).alloc (patO false (some ⟨w1.heap.size, 0, none⟩) 1 1) = w2 := ⟨_, rfl⟩
      have hb1 : Below w1.heap.size w1 (w1.alloc (itO (s, 1))) := (Below.refl _ _).alloc (Nat.le_refl _) _
      have b2 : Below w1.heap.size w1 w2 := by rw [← hw2]; exact hb1.alloc hb1.size _
      have i2 : w2.heap[w1.heap.size]? = some (itO (s, 1)) := by rw [← hw2]; exact row_below (heap_alloc_new _ _) ((Below.refl _ _).alloc (Nat.le_refl _) _)
      have p2 : w2.heap[w1.heap.size + 1]? = some (patO false (some ⟨w1.heap.size, 0, none⟩) 1 1) := by
        have := heap_alloc_new (w1.alloc (itO (s, 1))) (patO false (some ⟨w1.heap.size, 0, none⟩) 1 1)
        rw [hw2] at this
        simpa using this
      have HB2 := Lib.hid (HB1.out.trans (b2.mono HB1.out.size))
      have HI2 := Lib.hid i2
      have HP2 := Lib.hid p2
      have HW2 := Lib.hid hw2
      clear hb1 b2 i2 p2 hw2
      go_wp2_with fail
      rw [HW2.out]
      refine (HFI.out w2 HB2.out _ HI2.out).mono ?_
      rintro e w3 ⟨rfl, b3⟩
      have HB3 := Lib.hid (HB2.out.trans (b3.mono HB2.out.size))
      have HI3 := Lib.hid (row_below HI2.out b3)
      obtain ⟨q0, q1⟩ := pat_cells (row_below HP2.out b3)
      clear b3
      go_wp2_with fail
      refine (HRI.out w3 _ HI3.out).mono ?_
      rintro e w4 ⟨rfl, b4⟩
      have HB4 := Lib.hid (HB3.out.trans (b4.mono HB3.out.size))
      clear b4 q0 q1
      go_wp2_with fail
      go_loopg [10, 11] (n) (fun k' v10 v11 wr => ∃ (j : Nat), v10 = .bool (q && (L.take j).all fun c => hasZ s c) ∧ v11 = .int .i64 (j : Nat) ∧ j ≤ n ∧ n - j = k' ∧ Hid (Below w.heap.size w wr))
      case atStart => exact ⟨0, by rw [hq']; rfl, rfl, Nat.zero_le _, rfl, HB4⟩
      case round =>
        obtain ⟨j, rfl, rfl, hj, rfl, HB⟩ := hrel
        have hj6 : j < 1000000 := by omega
        rcases Nat.lt_or_ge j n with hlt | hge
        · obtain ⟨c, hc⟩ : ∃ c, L[j]? = some c := ⟨_, List.getElem?_eq_getElem (by rw [HN.out]; exact hlt)⟩
          have hstep : (L.take (j + 1)).all (fun c => hasZ s c) = ((L.take j).all (fun c => hasZ s c) && hasZ s c) := by
            rw [List.take_add_one, hc]
            simp
          have HST := Lib.hid hstep
          obtain ⟨g, off, rfl, hcc⟩ := (HLT.out wr HB.out) (by rw [HN.out]; omega)
          have k0 := hcc j c hc
          have HH := Lib.hid (HHA.out c wr)
          clear hstep hcc hc
          cases hv : (q && (L.take j).all fun c => hasZ s c) with
          | false =>
            have HV : Hid ((q && (L.take (j + 1)).all fun c => hasZ s c) = false) := Lib.hid (by rw [HST.out, ← Bool.and_assoc, hv]; rfl)
            clear hv
            go_wp2
            go_roundg (n - (j + 1))
            case measure => omega
            case rel => exact ⟨j + 1, by rw [HV.out], by simp, by omega, rfl, HB⟩
          | true =>
            obtain ⟨hb, hhb⟩ : ∃ hb, hasZ s c = hb := ⟨_, rfl⟩
            have HV : Hid ((q && (L.take (j + 1)).all fun c => hasZ s c) = hb) := Lib.hid (by rw [HST.out, ← Bool.and_assoc, hv, hhb]; rfl)
            rw [hhb] at HH
            clear hv hhb
            go_wp2_with fail
            refine HH.out.mono ?_
            rintro e w6 ⟨rfl, b6⟩
            have HB6 := Lib.hid (HB.out.trans (b6.mono HB.out.size))
            clear b6
            go_wp2
            go_roundg (n - (j + 1))
            case measure => omega
            case rel => exact ⟨j + 1, by rw [HV.out], by simp, by omega, rfl, HB6⟩
        · obtain rfl : j = n := by omega
          have hend : (q && (L.take j).all fun c => hasZ s c) = b := by rw [HFA.out, List.take_of_length_le (by rw [HN.out]; exact Nat.le_refl _)]
          rw [hend]
          clear hend
          cases b <;> (go_wp2; first | exact ⟨rfl, HB.out⟩ | (go_ret; exact ⟨rfl, HB.out⟩))
    · by_cases h2 : n % 2 = 0
      · have hq' : q = true := by rw [← hq]; unfold manyB; simp [h2]
        have hmo : ((n : Nat) : Int).tmod 2 = 0 := by rw [Int.tmod_eq_emod_of_nonneg (by omega)]; omega
        clear hq
        go_enter Tryz.func9, Tryz.ntmps9
        go_wp2_with fail
        refine HSH.out.mono ?_
        rintro e w1 ⟨rfl, b1⟩
        have HB1 := Lib.hid b1
        clear b1
        go_wp2_with fail
        refine (HFE.out _).mono ?_
        rintro e _ ⟨rfl, rfl⟩
        obtain ⟨w2, hw2⟩ : ∃ w2, (w1.alloc (itO (s, 2))).alloc (patO false (some ⟨w1.heap.size, 0, none⟩) 1 1) = w2 := ⟨_, rfl⟩
        have hb1 : Below w1.heap.size w1 (w1.alloc (itO (s, 2))) := (Below.refl _ _).alloc (Nat.le_refl _) _
        have b2 : Below w1.heap.size w1 w2 := by rw [← hw2]; exact hb1.alloc hb1.size _
        have i2 : w2.heap[w1.heap.size]? = some (itO (s, 2)) := by rw [← hw2]; exact row_below (heap_alloc_new _ _) ((Below.refl _ _).alloc (Nat.le_refl _) _)
        have p2 : w2.heap[w1.heap.size + 1]? = some (patO false (some ⟨w1.heap.size, 0, none⟩) 1 1) := by
          have := heap_alloc_new (w1.alloc (itO (s, 2))) (patO false (some ⟨w1.heap.size, 0, none⟩) 1 1)
          rw [hw2] at this
          simpa using this
        have HB2 := Lib.hid (HB1.out.trans (b2.mono HB1.out.size))
        have HI2 := Lib.hid i2
        have HP2 := Lib.hid p2
        have HW2 := Lib.hid hw2
        clear hb1 b2 i2 p2 hw2
        go_wp2_with fail
        rw [HW2.out]
        refine (HFI.out w2 HB2.out _ HI2.out).mono ?_
        rintro e w3 ⟨rfl, b3⟩
        have HB3 := Lib.hid (HB2.out.trans (b3.mono HB2.out.size))
        have HI3 := Lib.hid (row_below HI2.out b3)
        obtain ⟨q0, q1⟩ := pat_cells (row_below HP2.out b3)
        clear b3
        go_wp2_with fail
        refine (HRI.out w3 _ HI3.out).mono ?_
        rintro e w4 ⟨rfl, b4⟩
        have HB4 := Lib.hid (HB3.out.trans (b4.mono HB3.out.size))
        clear b4 q0 q1
        go_wp2_with fail
        go_loopg [10, 11] (n) (fun k' v10 v11 wr => ∃ (j : Nat), v10 = .bool (q && (L.take j).all fun c => hasZ s c) ∧ v11 = .int .i64 (j : Nat) ∧ j ≤ n ∧ n - j = k' ∧ Hid (Below w.heap.size w wr))
        case atStart => exact ⟨0, by rw [hq']; rfl, rfl, Nat.zero_le _, rfl, HB4⟩
        case round =>
          obtain ⟨j, rfl, rfl, hj, rfl, HB⟩ := hrel
          have hj6 : j < 1000000 := by omega
          rcases Nat.lt_or_ge j n with hlt | hge
          · obtain ⟨c, hc⟩ : ∃ c, L[j]? = some c := ⟨_, List.getElem?_eq_getElem (by rw [HN.out]; exact hlt)⟩
            have hstep : (L.take (j + 1)).all (fun c => hasZ s c) = ((L.take j).all (fun c => hasZ s c) && hasZ s c) := by
              rw [List.take_add_one, hc]
              simp
            have HST := Lib.hid hstep
            obtain ⟨g, off, rfl, hcc⟩ := (HLT.out wr HB.out) (by rw [HN.out]; omega)
            have k0 := hcc j c hc
            have HH := Lib.hid (HHA.out c wr)
            clear hstep hcc hc
            cases hv : (q && (L.take j).all fun c => hasZ s c) with
            | false =>
              have HV : Hid ((q && (L.take (j + 1)).all fun c => hasZ s c) = false) := Lib.hid (by rw [HST.out, ← Bool.and_assoc, hv]; rfl)
              clear hv
              go_wp2
              go_roundg (n - (j + 1))
              case measure => omega
              case rel => exact ⟨j + 1, by rw [HV.out], by simp, by omega, rfl, HB⟩
            | true =>
              obtain ⟨hb, hhb⟩ : ∃ hb, hasZ s c = hb := ⟨_, rfl⟩
              have HV : Hid ((q && (L.take (j + 1)).all fun c => hasZ s c) = hb) := Lib.hid (by rw [HST.out, ← Bool.and_assoc, hv, hhb]; rfl)
              rw [hhb] at HH
              clear hv hhb
              go_wp2_with fail
              refine HH.out.mono ?_
              rintro e w6 ⟨rfl, b6⟩
              have HB6 := Lib.hid (HB.out.trans (b6.mono HB.out.size))
              clear b6
              go_wp2
              go_roundg (n - (j + 1))
              case measure => omega
              case rel => exact ⟨j + 1, by rw [HV.out], by simp, by omega, rfl, HB6⟩
          · obtain rfl : j = n := by omega
            have hend : (q && (L.take j).all fun c => hasZ s c) = b := by rw [HFA.out, List.take_of_length_le (by rw [HN.out]; exact Nat.le_refl _)]
            rw [hend]
            clear hend
            cases b <;> (go_wp2; first | exact ⟨rfl, HB.out⟩ | (go_ret; exact ⟨rfl, HB.out⟩))
      · have hq' : q = false := by rw [← hq]; unfold manyB; simp [h2]
        have hmo : ((n : Nat) : Int).tmod 2 = 1 := by rw [Int.tmod_eq_emod_of_nonneg (by omega)]; omega
        clear hq
        go_enter Tryz.func9, Tryz.ntmps9
        go_wp2_with fail
        refine HSH.out.mono ?_
        rintro e w1 ⟨rfl, b1⟩
        have HB1 := Lib.hid b1
        clear b1
        go_wp2_with fail
        refine (HFE.out _).mono ?_
        rintro e _ ⟨rfl, rfl⟩
        obtain ⟨w2, hw2⟩ : ∃ w2, (w1.alloc (itO (s, 2))).alloc (patO false (some ⟨w1.heap.size, 0, none⟩) 1 1) = w2 := ⟨_, rfl⟩
        have hb1 : Below w1.heap.size w1 (w1.alloc (itO (s, 2))) := (Below.refl _ _).alloc (Nat.le_refl _) _
        have b2 : Below w1.heap.size w1 w2 := by rw [← hw2]; exact hb1.alloc hb1.size _
        have i2 : w2.heap[w1.heap.size]? = some (itO (s, 2)) := by rw [← hw2]; exact row_below (heap_alloc_new _ _) ((Below.refl _ _).alloc (Nat.le_refl _) _)
        have p2 : w2.heap[w1.heap.size + 1]? = some (patO false (some ⟨w1.heap.size, 0, none⟩) 1 1) := by
          have := heap_alloc_new (w1.alloc (itO (s, 2))) (patO false (some ⟨w1.heap.size, 0, none⟩) 1 1)
          rw [hw2] at this
          simpa using this
        have HB2 := Lib.hid (HB1.out.trans (b2.mono HB1.out.size))
        have HI2 := Lib.hid i2
        have HP2 := Lib.hid p2
        have HW2 := Lib.hid hw2
        clear hb1 b2 i2 p2 hw2
        go_wp2_with fail
        rw [HW2.out]
        refine (HFI.out w2 HB2.out _ HI2.out).mono ?_
        rintro e w3 ⟨rfl, b3⟩
        have HB3 := Lib.hid (HB2.out.trans (b3.mono HB2.out.size))
        have HI3 := Lib.hid (row_below HI2.out b3)
        obtain ⟨q0, q1⟩ := pat_cells (row_below HP2.out b3)
        clear b3
        go_wp2_with fail
        refine (HRI.out w3 _ HI3.out).mono ?_
        rintro e w4 ⟨rfl, b4⟩
        have HB4 := Lib.hid (HB3.out.trans (b4.mono HB3.out.size))
        clear b4 q0 q1
        go_wp2_with fail
        go_loopg [10, 11] (n) (fun k' v10 v11 wr => ∃ (j : Nat), v10 = .bool (q && (L.take j).all fun c => hasZ s c) ∧ v11 = .int .i64 (j : Nat) ∧ j ≤ n ∧ n - j = k' ∧ Hid (Below w.heap.size w wr))
        case atStart => exact ⟨0, by rw [hq']; rfl, rfl, Nat.zero_le _, rfl, HB4⟩
        case round =>
          obtain ⟨j, rfl, rfl, hj, rfl, HB⟩ := hrel
          have hj6 : j < 1000000 := by omega
          rcases Nat.lt_or_ge j n with hlt | hge
          · obtain ⟨c, hc⟩ : ∃ c, L[j]? = some c := ⟨_, List.getElem?_eq_getElem (by rw [HN.out]; exact hlt)⟩
            have hstep : (L.take (j + 1)).all (fun c => hasZ s c) = ((L.take j).all (fun c => hasZ s c) && hasZ s c) := by
              rw [List.take_add_one, hc]
              simp
            have HST := Lib.hid hstep
            obtain ⟨g, off, rfl, hcc⟩ := (HLT.out wr HB.out) (by rw [HN.out]; omega)
            have k0 := hcc j c hc
            have HH := Lib.hid (HHA.out c wr)
            clear hstep hcc hc
            cases hv : (q && (L.take j).all fun c => hasZ s c) with
            | false =>
              have HV : Hid ((q && (L.take (j + 1)).all fun c => hasZ s c) = false) := Lib.hid (by rw [HST.out, ← Bool.and_assoc, hv]; rfl)
              clear hv
              go_wp2
              go_roundg (n - (j + 1))
              case measure => omega
              case rel => exact ⟨j + 1, by rw [HV.out], by simp, by omega, rfl, HB⟩
            | true =>
              obtain ⟨hb, hhb⟩ : ∃ hb, hasZ s c = hb := ⟨_, rfl⟩
              have HV : Hid ((q && (L.take (j + 1)).all fun c => hasZ s c) = hb) := Lib.hid (by rw [HST.out, ← Bool.and_assoc, hv, hhb]; rfl)
              rw [hhb] at HH
              clear hv hhb
              go_wp2_with fail
              refine HH.out.mono ?_
              rintro e w6 ⟨rfl, b6⟩
              have HB6 := Lib.hid (HB.out.trans (b6.mono HB.out.size))
              clear b6
              go_wp2
              go_roundg (n - (j + 1))
              case measure => omega
              case rel => exact ⟨j + 1, by rw [HV.out], by simp, by omega, rfl, HB6⟩
          · obtain rfl : j = n := by omega
            have hend : (q && (L.take j).all fun c => hasZ s c) = b := by rw [HFA.out, List.take_of_length_le (by rw [HN.out]; exact Nat.le_refl _)]
            rw [hend]
            clear hend
            cases b <;> (go_wp2; first | exact ⟨rfl, HB.out⟩ | (go_ret; exact ⟨rfl, HB.out⟩))
end Go.Proofs.YtcgljfmknggdoaaGreatDoor
