/- Fits, Behind, Ahead. Ahead. slices.Equal of items, and Same. shown: classes fit; Cut, few. -/
import Derived.Test.YtgjjmbiihbepeaaGreatDoorBunA17
import Derived.Test.YtgjjmbiihbepeaaGreatDoorBunA12
import Derived.Deep.QuietTactic
namespace Go.Proofs.YtgjjmbiihbepeaaGreatDoor
open Go.RowKit Go.Shelf Go.Maps
attribute [local go_sem] Oper.semAt_some

set_option maxRecDepth 100000 in
set_option maxHeartbeats 2000000 in
theorem Fits_anyQ (start : Bool) (o lo : Option Addr) (xs : List ItemP) (l : List Int) (cap lcap : Nat) (hn : xs.length ≤ 1000) (hl : l.length ≤ 100000) (w : World) (hA : AtI w o xs) (hL : NumsAt w lo l) :
    Calls Tryz.prog 10 #[patV start o xs.length cap, .slice lo l.length lcap] w fun e w' => e = .returned (.bool (fitsA xs l)) ∧ Below w.heap.size w w' := by
  obtain ⟨w1, hw1⟩ : ∃ w1, w.alloc (patO start o xs.length cap) = w1 := ⟨_, rfl⟩
  have b1 : Below w.heap.size w w1 := by rw [← hw1]; exact (Below.refl _ _).alloc (Nat.le_refl _) _
  have r1 : w1.heap[w.heap.size]? = some (patO start o xs.length cap) := by rw [← hw1]; exact heap_alloc_new _ _
  have HR := Lib.hid (Right_anyQ start o xs cap 32 (by omega) w1 (hA.below b1))
  obtain ⟨P, hP⟩ : ∃ P, (fun (e : Ending) w' => e = .returned (.bool (fitsA xs l)) ∧ Below w.heap.size w w') = P := ⟨_, rfl⟩
  have HP := Lib.hid hP
  rw [hP]
  have FO := Lib.hid (fun W (hb : Below w.heap.size w W) => forth_any o lo xs cap l.length lcap W (hA.below hb))
  have FI : Hid (rightB xs 32 = true → ∀ W e W2, Below w.heap.size w W → NewQ lo l.length lcap false xs W e W2 → ∃ M, e = .returned (mV M) ∧ Calls Tryz.prog 27 #[mV M, .bool true] W2 fun e w' => ∃ b, e = .returned (.bool b) ∧ P (.returned (.bool b)) w') := Lib.hid fun hr W e W2 hb hq => by
    obtain ⟨M, he, hb2, hc⟩ := fits_new true (rightB_parts hr).2.1 (rightB_how hr) (by omega) (hL.below hb) hq
    refine ⟨M, he, hc.mono ?_⟩
    rintro e w' ⟨rfl, h2⟩
    refine ⟨_, rfl, ?_⟩
    rw [← HP.out]
    refine ⟨?_, hb.trans (h2.mono hb.size)⟩
    unfold fitsA
    rw [hr]
    rfl
  have HW1 := Lib.hid hw1
  have HB1 := Lib.hid b1
  have R1 := Lib.hid r1
  obtain ⟨q0, q1⟩ := pat_cells r1
  obtain ⟨n, hnn⟩ : ∃ n, xs.length = n := ⟨_, rfl⟩
  obtain ⟨m, hmm⟩ : ∃ m, l.length = m := ⟨_, rfl⟩
  rw [hnn] at HR FO q1 HW1 R1 ⊢
  rw [hmm] at FO FI ⊢
  clear hP hw1 b1 r1 hA hL hnn hmm hn hl
  cases hr : rightB xs 32 with
  | false =>
    rw [hr] at HR
    have HQ : Hid (∀ W, Below w1.heap.size w1 W → P (.returned (.bool false)) W) := Lib.hid fun W hb => by
      rw [← HP.out]
      exact ⟨by unfold fitsA; rw [hr]; rfl, HB1.out.trans (hb.mono HB1.out.size)⟩
    clear hr
    go_enter Tryz.func10, Tryz.ntmps10
    go_wp2_with fail
    rw [HW1.out]
    refine HR.out.mono ?_
    rintro e w2 ⟨rfl, b2⟩
    have HQ2 := Lib.hid (HQ.out w2 b2)
    clear b2
    go_wp2
    first | exact HQ2.out | (go_ret; exact HQ2.out)
  | true =>
    rw [hr] at HR
    have HFI := Lib.hid (FI.out hr)
    clear hr FI
    go_enter Tryz.func10, Tryz.ntmps10
    go_wp2_with fail
    rw [HW1.out]
    refine HR.out.mono ?_
    rintro e w2 ⟨rfl, b2⟩
    obtain ⟨p0, p1⟩ := pat_cells (row_below R1.out b2)
    have B2 := HB1.out.trans (b2.mono HB1.out.size)
    have HB2 := Lib.hid B2
    have FO2 := Lib.hid (FO.out w2 B2)
    clear b2 B2 q0 q1
    go_wp2_with fail
    refine FO2.out.mono ?_
    intro e w3 hq
    obtain ⟨M, rfl, hc⟩ := HFI.out w2 _ w3 HB2.out hq
    have HC := Lib.hid hc
    clear hq hc p0 p1
    go_wp2_with fail
    refine HC.out.mono ?_
    rintro e w4 ⟨b, rfl, hp⟩
    have HQ2 := Lib.hid hp
    clear hp
    go_wp2
    first | exact HQ2.out | (go_ret; exact HQ2.out)
theorem NumsAt.takeQ {w : World} {o : Option Addr} {l : List Int} (h : NumsAt w o l) (k : Nat) : NumsAt w o (l.take k) := fun hn => by
  rw [List.length_take] at hn
  obtain ⟨g, off, ho, hc⟩ := h (by omega)
  refine ⟨g, off, ho, fun j x hx => hc j x ?_⟩
  rw [List.getElem?_take] at hx
  split at hx
  · exact hx
  · cases hx
theorem behindA_some {start : Bool} {xs : List ItemP} {l : List Int} {a : Nat} (hr : rightB xs 32 = true) (ha : a ≤ l.length) : behindA start xs l ((a : Nat) : Int) = fitsG start xs.reverse (listN true (l.take a)) := by
  have hw := rightB_how hr
  unfold behindA fitsG listN
  rw [hr, decide_eq_true (show (0 : Int) ≤ ((a : Nat) : Int) ∧ ((a : Nat) : Int) ≤ (l.length : Nat) by omega), Int.toNat_natCast]
  cases start with
  | true =>
    simp only [if_true, Bool.true_and]
    rw [back_all hw]
  | false =>
    simp only [if_true, Bool.true_and, Bool.false_eq_true, if_false]
    rw [back_some hw ha]
theorem behindA_right {start : Bool} {xs : List ItemP} {l : List Int} {at_ : Int} (hr : rightB xs 32 = false) : behindA start xs l at_ = false := by
  unfold behindA
  rw [hr]
  rfl
theorem behindA_place {start : Bool} {xs : List ItemP} {l : List Int} {at_ : Int} (h : ¬ (0 ≤ at_ ∧ at_ ≤ l.length)) : behindA start xs l at_ = false := by
  unfold behindA
  rw [decide_eq_false h, Bool.and_false]
  rfl
set_option maxRecDepth 100000 in
set_option maxHeartbeats 4000000 in
theorem Behind_anyQ (start : Bool) (o lo : Option Addr) (xs : List ItemP) (l : List Int) (cap lcap : Nat) (at_ : Int) (hn : xs.length ≤ 1000) (hl : l.length ≤ 100000) (hlc : l.length ≤ lcap) (w : World) (hA : AtI w o xs) (hL : NumsAt w lo l) :
    Calls Tryz.prog 12 #[patV start o xs.length cap, .slice lo l.length lcap, .int .i64 at_] w fun e w' => e = .returned (.bool (behindA start xs l at_)) ∧ Below w.heap.size w w' := by
  obtain ⟨w1, hw1⟩ : ∃ w1, w.alloc (patO start o xs.length cap) = w1 := ⟨_, rfl⟩
  have b1 : Below w.heap.size w w1 := by rw [← hw1]; exact (Below.refl _ _).alloc (Nat.le_refl _) _
  have r1 : w1.heap[w.heap.size]? = some (patO start o xs.length cap) := by rw [← hw1]; exact heap_alloc_new _ _
  have HR := Lib.hid (Right_anyQ start o xs cap 32 (by omega) w1 (hA.below b1))
  obtain ⟨P, hP⟩ : ∃ P, (fun (e : Ending) w' => e = .returned (.bool (behindA start xs l at_)) ∧ Below w.heap.size w w') = P := ⟨_, rfl⟩
  have HP := Lib.hid hP
  rw [hP]
  have HW1 := Lib.hid hw1
  have HB1 := Lib.hid b1
  have R1 := Lib.hid r1
  obtain ⟨q0, q1⟩ := pat_cells r1
  cases hr : rightB xs 32 with
  | false =>
    rw [hr] at HR
    have HQ : Hid (∀ W, Below w1.heap.size w1 W → P (.returned (.bool false)) W) := Lib.hid fun W hb => by
      rw [← HP.out]
      exact ⟨by rw [behindA_right hr], HB1.out.trans (hb.mono HB1.out.size)⟩
    obtain ⟨n, hnn⟩ : ∃ n, xs.length = n := ⟨_, rfl⟩
    obtain ⟨m, hmm⟩ : ∃ m, l.length = m := ⟨_, rfl⟩
    rw [hnn] at HR q1 HW1 R1 ⊢
    rw [hmm] at ⊢
    clear hP hw1 b1 r1 hA hL hnn hmm hn hl hlc hr
    go_enter Tryz.func12, Tryz.ntmps12
    go_wp2_with fail
    rw [HW1.out]
    refine HR.out.mono ?_
    rintro e w2 ⟨rfl, b2⟩
    have HQ2 := Lib.hid (HQ.out w2 b2)
    clear b2
    go_wp2
    first | exact HQ2.out | (go_ret; exact HQ2.out)
  | true =>
    rw [hr] at HR
    by_cases hp : 0 ≤ at_ ∧ at_ ≤ ((l.length : Nat) : Int)
    · obtain ⟨a, rfl⟩ := Int.eq_ofNat_of_zero_le hp.1
      have hal : a ≤ l.length := by omega
      have hlt : (l.take a).length = a := by rw [List.length_take]; omega
      have PL : Hid (∀ W, Calls Tryz.prog 29 #[.int .i64 (a : Nat), .slice lo l.length lcap] W fun e w' => e = .returned (.bool true) ∧ W = w') := Lib.hid fun W => by
        have := isPlace_any ((a : Nat) : Int) lo l.length lcap W
        rwa [decide_eq_true hp] at this
      have BO : Hid (∀ W, Below w1.heap.size w1 W → Calls Tryz.prog 30 #[.slice o xs.length cap, .slice lo a lcap] W fun e w3 => ∃ M, e = .returned (mV M) ∧ w3.cell? ⟨w.heap.size, 0, none⟩ = some (.bool start) ∧ w3.cell? ⟨w.heap.size, 1, none⟩ = some (.slice o xs.length cap) ∧ Hid (Calls Tryz.prog 27 #[mV M, .bool start] w3 fun e w' => ∃ b, e = .returned (.bool b) ∧ P (.returned (.bool b)) w')) := Lib.hid fun W hb => by
        have hbw := HB1.out.trans (hb.mono HB1.out.size)
        have h1 := back_any o lo xs cap (l.take a).length lcap hn W (hA.below hbw)
        rw [hlt] at h1
        refine h1.mono fun e w3 hq => ?_
        rw [← hlt] at hq
        obtain ⟨M, he, hb2, hc⟩ := fits_new start (by rw [List.length_reverse]; exact (rightB_parts hr).2.1) (howP_reverse (rightB_how hr)) (by rw [hlt]; omega) ((hL.takeQ a).below hbw) hq
        obtain ⟨p0, p1⟩ := pat_cells (row_below (row_below R1.out hb) hb2)
        refine ⟨M, he, p0, p1, Lib.hid (hc.mono ?_)⟩
        rintro e w' ⟨rfl, h2⟩
        refine ⟨_, rfl, ?_⟩
        rw [← HP.out]
        exact ⟨by rw [behindA_some hr hal], hbw.trans (h2.mono hbw.size)⟩
      obtain ⟨n, hnn⟩ : ∃ n, xs.length = n := ⟨_, rfl⟩
      obtain ⟨m, hmm⟩ : ∃ m, l.length = m := ⟨_, rfl⟩
      rw [hnn] at HR q1 HW1 R1 BO ⊢
      rw [hmm] at PL hlc hal hl ⊢
      have hac : a ≤ lcap := by omega
      clear hP hw1 b1 r1 hA hL hnn hmm hn hr hp hlt
      go_enter Tryz.func12, Tryz.ntmps12
      go_wp2_with fail
      rw [HW1.out]
      refine HR.out.mono ?_
      rintro e w2 ⟨rfl, b2⟩
      obtain ⟨p0, p1⟩ := pat_cells (row_below R1.out b2)
      have BO2 := Lib.hid (BO.out w2.drew b2.drew)
      clear b2 q0 q1
      go_wp2_with fail
      refine (PL.out _).mono ?_
      rintro e w2' ⟨rfl, rfl⟩
      go_wp2_with fail
      go_region_with (first | (go_at_call 30; refine BO2.out.mono ?_; rintro e w3 ⟨M, rfl, s0, s1, HC⟩) | (go_at_call 27; refine HC.out.mono ?_; rintro e w4 ⟨b, rfl, hp⟩))
      all_goals
        go_simp
        have HQ2 := Lib.hid hp
        clear hp
        go_wp2
        first | exact HQ2.out | (go_ret; exact HQ2.out)
    · have PL : Hid (∀ W, Calls Tryz.prog 29 #[.int .i64 at_, .slice lo l.length lcap] W fun e w' => e = .returned (.bool false) ∧ W = w') := Lib.hid fun W => by
        have := isPlace_any at_ lo l.length lcap W
        rwa [decide_eq_false hp] at this
      have HQ : Hid (∀ W, Below w1.heap.size w1 W → P (.returned (.bool false)) W) := Lib.hid fun W hb => by
        rw [← HP.out]
        exact ⟨by rw [behindA_place hp], HB1.out.trans (hb.mono HB1.out.size)⟩
      obtain ⟨n, hnn⟩ : ∃ n, xs.length = n := ⟨_, rfl⟩
      obtain ⟨m, hmm⟩ : ∃ m, l.length = m := ⟨_, rfl⟩
      rw [hnn] at HR q1 HW1 R1 ⊢
      rw [hmm] at PL ⊢
      clear hP hw1 b1 r1 hA hL hnn hmm hn hl hlc hr hp
      go_enter Tryz.func12, Tryz.ntmps12
      go_wp2_with fail
      rw [HW1.out]
      refine HR.out.mono ?_
      rintro e w2 ⟨rfl, b2⟩
      have HQ2 := Lib.hid (HQ.out w2 b2)
      clear b2
      go_wp2_with fail
      refine (PL.out _).mono ?_
      rintro e w2' ⟨rfl, rfl⟩
      go_wp2
      first | exact HQ2.out | (go_ret; exact HQ2.out)
end Go.Proofs.YtgjjmbiihbepeaaGreatDoor

namespace Go.Proofs.YtgjjmbiihbepeaaGreatDoor
open Go.RowKit Go.Shelf Go.Maps
attribute [local go_sem] Oper.semAt_some

theorem aheadA_some {start : Bool} {xs : List ItemP} {l : List Int} {a : Nat} (hr : rightB xs 32 = true) (ha : a ≤ l.length) (hs : ¬ (start = true ∧ 0 < a)) : aheadA start xs l ((a : Nat) : Int) = fitsG false xs (listN false (l.drop a)) := by
  have e : (!start || decide (((a : Nat) : Int) = 0)) = true := by
    cases start with
    | false => rfl
    | true =>
      have : a = 0 := by
        rcases Nat.eq_zero_or_pos a with h | h
        · exact h
        · exact absurd ⟨rfl, h⟩ hs
      subst this
      rfl
  unfold aheadA fitsG listN
  rw [hr, decide_eq_true (show (0 : Int) ≤ ((a : Nat) : Int) ∧ ((a : Nat) : Int) ≤ (l.length : Nat) by omega), e, Int.toNat_natCast]
  rfl
theorem aheadA_right {start : Bool} {xs : List ItemP} {l : List Int} {at_ : Int} (hr : rightB xs 32 = false) : aheadA start xs l at_ = false := by
  unfold aheadA
  rw [hr]
  rfl
theorem aheadA_place {start : Bool} {xs : List ItemP} {l : List Int} {at_ : Int} (h : ¬ (0 ≤ at_ ∧ at_ ≤ l.length)) : aheadA start xs l at_ = false := by
  unfold aheadA
  rw [decide_eq_false h, Bool.and_false]
  rfl
theorem aheadA_start {xs : List ItemP} {l : List Int} {at_ : Int} (h : 0 < at_) : aheadA true xs l at_ = false := by
  unfold aheadA
  rw [decide_eq_false (show ¬ at_ = 0 by omega)]
  simp
/-- A list from a place on. -/
def dropO (lo : Option Addr) (lcap a : Nat) : Option Addr := lo.map fun p => if lcap = a then p else ⟨p.block, p.off + a, p.spot⟩
theorem NumsAt.dropQ {w : World} {lo : Option Addr} {l : List Int} {lcap : Nat} (h : NumsAt w lo l) (hc : l.length ≤ lcap) (a : Nat) : NumsAt w (dropO lo lcap a) (l.drop a) := fun hn => by
  rw [List.length_drop] at hn
  obtain ⟨g, off, rfl, hc'⟩ := h (by omega)
  refine ⟨g, off + a, by unfold dropO; rw [Option.map_some, if_neg (by omega)], fun j x hx => ?_⟩
  rw [List.getElem?_drop] at hx
  rw [Nat.add_assoc]
  exact hc' _ x hx
set_option maxRecDepth 100000 in
set_option maxHeartbeats 4000000 in
theorem Ahead_anyQ (start : Bool) (o lo : Option Addr) (xs : List ItemP) (l : List Int) (cap lcap : Nat) (at_ : Int) (hn : xs.length ≤ 1000) (hl : l.length ≤ 100000) (hlc : l.length ≤ lcap) (hlz : lo = none → lcap = 0) (hls : ∀ p, lo = some p → 0 < lcap → p.spot = none) (w : World) (hA : AtI w o xs) (hL : NumsAt w lo l) :
    Calls Tryz.prog 14 #[patV start o xs.length cap, .slice lo l.length lcap, .int .i64 at_] w fun e w' => e = .returned (.bool (aheadA start xs l at_)) ∧ Below w.heap.size w w' := by
  obtain ⟨w1, hw1⟩ : ∃ w1, w.alloc (patO start o xs.length cap) = w1 := ⟨_, rfl⟩
  have b1 : Below w.heap.size w w1 := by rw [← hw1]; exact (Below.refl _ _).alloc (Nat.le_refl _) _
  have r1 : w1.heap[w.heap.size]? = some (patO start o xs.length cap) := by rw [← hw1]; exact heap_alloc_new _ _
  have HR := Lib.hid (Right_anyQ start o xs cap 32 (by omega) w1 (hA.below b1))
  obtain ⟨P, hP⟩ : ∃ P, (fun (e : Ending) w' => e = .returned (.bool (aheadA start xs l at_)) ∧ Below w.heap.size w w') = P := ⟨_, rfl⟩
  have HP := Lib.hid hP
  rw [hP]
  have HW1 := Lib.hid hw1
  have HB1 := Lib.hid b1
  have R1 := Lib.hid r1
  obtain ⟨q0, q1⟩ := pat_cells r1
  have FALSE : aheadA start xs l at_ = false → Hid (∀ W, Below w1.heap.size w1 W → P (.returned (.bool false)) W) := fun he => Lib.hid fun W hb => by
      rw [← HP.out]
      exact ⟨by rw [he], HB1.out.trans (hb.mono HB1.out.size)⟩
  cases hr : rightB xs 32 with
  | false =>
    rw [hr] at HR
    have HQ := FALSE (aheadA_right hr)
    obtain ⟨n, hnn⟩ : ∃ n, xs.length = n := ⟨_, rfl⟩
    obtain ⟨m, hmm⟩ : ∃ m, l.length = m := ⟨_, rfl⟩
    rw [hnn] at HR q1 HW1 R1 ⊢
    rw [hmm] at ⊢
    clear hP hw1 b1 r1 hA hL hnn hmm hn hl hlc hr FALSE hlz hls
    go_enter Tryz.func14, Tryz.ntmps14
    go_wp2_with fail
    rw [HW1.out]
    refine HR.out.mono ?_
    rintro e w2 ⟨rfl, b2⟩
    have HQ2 := Lib.hid (HQ.out w2 b2)
    clear b2
    go_wp2
    first | exact HQ2.out | (go_ret; exact HQ2.out)
  | true =>
    rw [hr] at HR
    by_cases hp : 0 ≤ at_ ∧ at_ ≤ ((l.length : Nat) : Int)
    · obtain ⟨a, rfl⟩ := Int.eq_ofNat_of_zero_le hp.1
      have hal : a ≤ l.length := by omega
      have PL : Hid (∀ W, Calls Tryz.prog 29 #[.int .i64 (a : Nat), .slice lo l.length lcap] W fun e w' => e = .returned (.bool true) ∧ W = w') := Lib.hid fun W => by
        have := isPlace_any ((a : Nat) : Int) lo l.length lcap W
        rwa [decide_eq_true hp] at this
      by_cases hs : start = true ∧ 0 < a
      · obtain ⟨rfl, hs⟩ := hs
        have HQ := FALSE (aheadA_start (by omega))
        have hs2 : (0 : Int) < ((a : Nat) : Int) := by omega
        obtain ⟨n, hnn⟩ : ∃ n, xs.length = n := ⟨_, rfl⟩
        obtain ⟨m, hmm⟩ : ∃ m, l.length = m := ⟨_, rfl⟩
        rw [hnn] at HR q1 HW1 R1 ⊢
        rw [hmm] at PL ⊢
        clear hP hw1 b1 r1 hA hL hnn hmm hn hl hlc hr hp hal FALSE hlz hls
        go_enter Tryz.func14, Tryz.ntmps14
        go_wp2_with fail
        rw [HW1.out]
        refine HR.out.mono ?_
        rintro e w2 ⟨rfl, b2⟩
        obtain ⟨p0, p1⟩ := pat_cells (row_below R1.out b2)
        have HQ2 := Lib.hid (HQ.out w2 b2)
        clear b2 q0 q1
        go_wp2_with fail
        refine (PL.out _).mono ?_
        rintro e w2' ⟨rfl, rfl⟩
        go_wp2
        first | exact HQ2.out | (go_ret; exact HQ2.out)
      · have hdl : (l.drop a).length = l.length - a := List.length_drop
        have BO : Hid (∀ W, Below w1.heap.size w1 W → Calls Tryz.prog 26 #[.slice o xs.length cap, .slice (dropO lo lcap a) (l.length - a) (lcap - a)] W fun e w3 => ∃ M, e = .returned (mV M) ∧ Hid (Calls Tryz.prog 27 #[mV M, .bool false] w3 fun e w' => ∃ b, e = .returned (.bool b) ∧ P (.returned (.bool b)) w')) := Lib.hid fun W hb => by
          have hbw := HB1.out.trans (hb.mono HB1.out.size)
          have h1 := forth_any o (dropO lo lcap a) xs cap (l.drop a).length (lcap - a) W (hA.below hbw)
          rw [hdl] at h1
          refine h1.mono fun e w3 hq => ?_
          rw [← hdl] at hq
          obtain ⟨M, he, hb2, hc⟩ := fits_new false (rightB_parts hr).2.1 (rightB_how hr) (by rw [hdl]; omega) ((hL.dropQ hlc a).below hbw) hq
          refine ⟨M, he, Lib.hid (hc.mono ?_)⟩
          rintro e w' ⟨rfl, h2⟩
          refine ⟨_, rfl, ?_⟩
          rw [← HP.out]
          exact ⟨by rw [aheadA_some hr hal hs], hbw.trans (h2.mono hbw.size)⟩
        obtain ⟨n, hnn⟩ : ∃ n, xs.length = n := ⟨_, rfl⟩
        obtain ⟨m, hmm⟩ : ∃ m, l.length = m := ⟨_, rfl⟩
        rw [hnn] at HR q1 HW1 R1 BO ⊢
        rw [hmm] at PL hlc hal hl BO ⊢
        have hac : a ≤ lcap := by omega
        have hs2 : start = false ∨ (start = true ∧ a = 0) := by
          cases start with
          | false => exact .inl rfl
          | true =>
            refine .inr ⟨rfl, ?_⟩
            rcases Nat.eq_zero_or_pos a with h | h
            · exact h
            · exact absurd ⟨rfl, h⟩ hs
        clear hP hw1 b1 r1 hA hL hnn hmm hn hr hp FALSE hs hdl
        cases lo with
        | none =>
          obtain rfl := hlz rfl
          obtain rfl : m = 0 := by omega
          obtain rfl : a = 0 := by omega
          replace BO : Hid (∀ W, Below w1.heap.size w1 W → Calls Tryz.prog 26 #[.slice o n cap, .slice none 0 0] W fun e w3 => ∃ M, e = .returned (mV M) ∧ Hid (Calls Tryz.prog 27 #[mV M, .bool false] w3 fun e w' => ∃ b, e = .returned (.bool b) ∧ P (.returned (.bool b)) w')) := BO
          clear hlz hls hs2 hal hlc hac hl
          cases start
          · skip
            go_enter Tryz.func14, Tryz.ntmps14
            go_wp2_with fail
            rw [HW1.out]
            refine HR.out.mono ?_
            rintro e w2 ⟨rfl, b2⟩
            obtain ⟨p0, p1⟩ := pat_cells (row_below R1.out b2)
            have BO2 := Lib.hid (BO.out w2.drew b2.drew)
            clear b2 q0 q1
            go_wp2_with fail
            refine (PL.out _).mono ?_
            rintro e w2' ⟨rfl, rfl⟩
            go_wp2_with fail
            go_region_with (first | (go_at_call 26; refine BO2.out.mono ?_; rintro e w3 ⟨M, rfl, HC⟩) | (go_at_call 27; refine HC.out.mono ?_; rintro e w4 ⟨b, rfl, hp⟩))
            all_goals
              go_simp
              have HQ2 := Lib.hid hp
              clear hp
              go_wp2
              first | exact HQ2.out | (go_ret; exact HQ2.out)
          · skip
            go_enter Tryz.func14, Tryz.ntmps14
            go_wp2_with fail
            rw [HW1.out]
            refine HR.out.mono ?_
            rintro e w2 ⟨rfl, b2⟩
            obtain ⟨p0, p1⟩ := pat_cells (row_below R1.out b2)
            have BO2 := Lib.hid (BO.out w2.drew b2.drew)
            clear b2 q0 q1
            go_wp2_with fail
            refine (PL.out _).mono ?_
            rintro e w2' ⟨rfl, rfl⟩
            go_wp2_with fail
            go_region_with (first | (go_at_call 26; refine BO2.out.mono ?_; rintro e w3 ⟨M, rfl, HC⟩) | (go_at_call 27; refine HC.out.mono ?_; rintro e w4 ⟨b, rfl, hp⟩))
            all_goals
              go_simp
              have HQ2 := Lib.hid hp
              clear hp
              go_wp2
              first | exact HQ2.out | (go_ret; exact HQ2.out)
        | some p =>
          by_cases hz0 : lcap = 0
          · subst hz0
            obtain rfl : m = 0 := by omega
            obtain rfl : a = 0 := by omega
            replace BO : Hid (∀ W, Below w1.heap.size w1 W → Calls Tryz.prog 26 #[.slice o n cap, .slice (some p) 0 0] W fun e w3 => ∃ M, e = .returned (mV M) ∧ Hid (Calls Tryz.prog 27 #[mV M, .bool false] w3 fun e w' => ∃ b, e = .returned (.bool b) ∧ P (.returned (.bool b)) w')) := BO
            clear hlz hls hs2 hal hlc hac hl
            cases start
            · skip
              go_enter Tryz.func14, Tryz.ntmps14
              go_wp2_with fail
              rw [HW1.out]
              refine HR.out.mono ?_
              rintro e w2 ⟨rfl, b2⟩
              obtain ⟨p0, p1⟩ := pat_cells (row_below R1.out b2)
              have BO2 := Lib.hid (BO.out w2.drew b2.drew)
              clear b2 q0 q1
              go_wp2_with fail
              refine (PL.out _).mono ?_
              rintro e w2' ⟨rfl, rfl⟩
              go_wp2_with fail
              go_region_with (first | (go_at_call 26; refine BO2.out.mono ?_; rintro e w3 ⟨M, rfl, HC⟩) | (go_at_call 27; refine HC.out.mono ?_; rintro e w4 ⟨b, rfl, hp⟩))
              all_goals
                go_simp
                have HQ2 := Lib.hid hp
                clear hp
                go_wp2
                first | exact HQ2.out | (go_ret; exact HQ2.out)
            · skip
              go_enter Tryz.func14, Tryz.ntmps14
              go_wp2_with fail
              rw [HW1.out]
              refine HR.out.mono ?_
              rintro e w2 ⟨rfl, b2⟩
              obtain ⟨p0, p1⟩ := pat_cells (row_below R1.out b2)
              have BO2 := Lib.hid (BO.out w2.drew b2.drew)
              clear b2 q0 q1
              go_wp2_with fail
              refine (PL.out _).mono ?_
              rintro e w2' ⟨rfl, rfl⟩
              go_wp2_with fail
              go_region_with (first | (go_at_call 26; refine BO2.out.mono ?_; rintro e w3 ⟨M, rfl, HC⟩) | (go_at_call 27; refine HC.out.mono ?_; rintro e w4 ⟨b, rfl, hp⟩))
              all_goals
                go_simp
                have HQ2 := Lib.hid hp
                clear hp
                go_wp2
                first | exact HQ2.out | (go_ret; exact HQ2.out)
          · skip
            obtain ⟨g, off, sp⟩ := p
            obtain rfl : sp = none := hls _ rfl (by omega)
            rcases Nat.eq_zero_or_pos a with rfl | hapos
            · replace BO : Hid (∀ W, Below w1.heap.size w1 W → Calls Tryz.prog 26 #[.slice o n cap, .slice (some ⟨g, off, none⟩) m lcap] W fun e w3 => ∃ M, e = .returned (mV M) ∧ Hid (Calls Tryz.prog 27 #[mV M, .bool false] w3 fun e w' => ∃ b, e = .returned (.bool b) ∧ P (.returned (.bool b)) w')) := by
                have e : dropO (some ⟨g, off, none⟩) lcap 0 = some ⟨g, off, none⟩ := by unfold dropO; simp
                rw [e] at BO
                exact BO
              clear hlz hls hs2 hal hlc hac hl
              cases start
              · skip
                go_enter Tryz.func14, Tryz.ntmps14
                go_wp2_with fail
                rw [HW1.out]
                refine HR.out.mono ?_
                rintro e w2 ⟨rfl, b2⟩
                obtain ⟨p0, p1⟩ := pat_cells (row_below R1.out b2)
                have BO2 := Lib.hid (BO.out w2.drew b2.drew)
                clear b2 q0 q1
                go_wp2_with fail
                refine (PL.out _).mono ?_
                rintro e w2' ⟨rfl, rfl⟩
                go_wp2_with fail
                go_region_with (first | (go_at_call 26; refine BO2.out.mono ?_; rintro e w3 ⟨M, rfl, HC⟩) | (go_at_call 27; refine HC.out.mono ?_; rintro e w4 ⟨b, rfl, hp⟩))
                all_goals
                  go_simp
                  have HQ2 := Lib.hid hp
                  clear hp
                  go_wp2
                  first | exact HQ2.out | (go_ret; exact HQ2.out)
              · skip
                go_enter Tryz.func14, Tryz.ntmps14
                go_wp2_with fail
                rw [HW1.out]
                refine HR.out.mono ?_
                rintro e w2 ⟨rfl, b2⟩
                obtain ⟨p0, p1⟩ := pat_cells (row_below R1.out b2)
                have BO2 := Lib.hid (BO.out w2.drew b2.drew)
                clear b2 q0 q1
                go_wp2_with fail
                refine (PL.out _).mono ?_
                rintro e w2' ⟨rfl, rfl⟩
                go_wp2_with fail
                go_region_with (first | (go_at_call 26; refine BO2.out.mono ?_; rintro e w3 ⟨M, rfl, HC⟩) | (go_at_call 27; refine HC.out.mono ?_; rintro e w4 ⟨b, rfl, hp⟩))
                all_goals
                  go_simp
                  have HQ2 := Lib.hid hp
                  clear hp
                  go_wp2
                  first | exact HQ2.out | (go_ret; exact HQ2.out)
            · obtain rfl : start = false := by
                rcases hs2 with h | h
                · exact h
                · omega
              by_cases hca : lcap = a
              · subst hca
                obtain rfl : m = lcap := by omega
                replace BO : Hid (∀ W, Below w1.heap.size w1 W → Calls Tryz.prog 26 #[.slice o n cap, .slice (some ⟨g, off, none⟩) 0 0] W fun e w3 => ∃ M, e = .returned (mV M) ∧ Hid (Calls Tryz.prog 27 #[mV M, .bool false] w3 fun e w' => ∃ b, e = .returned (.bool b) ∧ P (.returned (.bool b)) w')) := by
                  have e : dropO (some ⟨g, off, none⟩) m m = some ⟨g, off, none⟩ := by unfold dropO; simp
                  rw [e, Nat.sub_self] at BO
                  exact BO
                clear hlz hls hs2 hal hlc hac
                skip
                go_enter Tryz.func14, Tryz.ntmps14
                go_wp2_with fail
                rw [HW1.out]
                refine HR.out.mono ?_
                rintro e w2 ⟨rfl, b2⟩
                obtain ⟨p0, p1⟩ := pat_cells (row_below R1.out b2)
                have BO2 := Lib.hid (BO.out w2.drew b2.drew)
                clear b2 q0 q1
                go_wp2_with fail
                refine (PL.out _).mono ?_
                rintro e w2' ⟨rfl, rfl⟩
                go_wp2_with fail
                go_region_with (first | (go_at_call 26; refine BO2.out.mono ?_; rintro e w3 ⟨M, rfl, HC⟩) | (go_at_call 27; refine HC.out.mono ?_; rintro e w4 ⟨b, rfl, hp⟩))
                all_goals
                  go_simp
                  have HQ2 := Lib.hid hp
                  clear hp
                  go_wp2
                  first | exact HQ2.out | (go_ret; exact HQ2.out)
              · replace BO : Hid (∀ W, Below w1.heap.size w1 W → Calls Tryz.prog 26 #[.slice o n cap, .slice (some ⟨g, off + a, none⟩) (m - a) (lcap - a)] W fun e w3 => ∃ M, e = .returned (mV M) ∧ Hid (Calls Tryz.prog 27 #[mV M, .bool false] w3 fun e w' => ∃ b, e = .returned (.bool b) ∧ P (.returned (.bool b)) w')) := by
                  have e : dropO (some ⟨g, off, none⟩) lcap a = some ⟨g, off + a, none⟩ := by unfold dropO; rw [Option.map_some, if_neg hca]
                  rw [e] at BO
                  exact BO
                clear hlz hls hs2
                skip
                go_enter Tryz.func14, Tryz.ntmps14
                go_wp2_with fail
                rw [HW1.out]
                refine HR.out.mono ?_
                rintro e w2 ⟨rfl, b2⟩
                obtain ⟨p0, p1⟩ := pat_cells (row_below R1.out b2)
                have BO2 := Lib.hid (BO.out w2.drew b2.drew)
                clear b2 q0 q1
                go_wp2_with fail
                refine (PL.out _).mono ?_
                rintro e w2' ⟨rfl, rfl⟩
                go_wp2_with fail
                go_region_with (first | (go_at_call 26; refine BO2.out.mono ?_; rintro e w3 ⟨M, rfl, HC⟩) | (go_at_call 27; refine HC.out.mono ?_; rintro e w4 ⟨b, rfl, hp⟩))
                all_goals
                  go_simp
                  have HQ2 := Lib.hid hp
                  clear hp
                  go_wp2
                  first | exact HQ2.out | (go_ret; exact HQ2.out)
    · have PL : Hid (∀ W, Calls Tryz.prog 29 #[.int .i64 at_, .slice lo l.length lcap] W fun e w' => e = .returned (.bool false) ∧ W = w') := Lib.hid fun W => by
        have := isPlace_any at_ lo l.length lcap W
        rwa [decide_eq_false hp] at this
      have HQ := FALSE (aheadA_place hp)
      obtain ⟨n, hnn⟩ : ∃ n, xs.length = n := ⟨_, rfl⟩
      obtain ⟨m, hmm⟩ : ∃ m, l.length = m := ⟨_, rfl⟩
      rw [hnn] at HR q1 HW1 R1 ⊢
      rw [hmm] at PL ⊢
      clear hP hw1 b1 r1 hA hL hnn hmm hn hl hlc hr hp FALSE hlz hls
      go_enter Tryz.func14, Tryz.ntmps14
      go_wp2_with fail
      rw [HW1.out]
      refine HR.out.mono ?_
      rintro e w2 ⟨rfl, b2⟩
      have HQ2 := Lib.hid (HQ.out w2 b2)
      clear b2
      go_wp2_with fail
      refine (PL.out _).mono ?_
      rintro e w2' ⟨rfl, rfl⟩
      go_wp2
      first | exact HQ2.out | (go_ret; exact HQ2.out)
end Go.Proofs.YtgjjmbiihbepeaaGreatDoor

namespace Go.Proofs.YtgjjmbiihbepeaaGreatDoor
open Go.RowKit Go.Shelf Go.Maps
attribute [local go_sem] Oper.semAt_some

theorem eq_int1Q (d : Nat) (a b : Int) (w : World) : (Op.equalIn (d + 1) 3 (.int .i64 a) (.int .i64 b)).run Tryz.prog w = .ok (a == b) w := by
  simp [Op.equalIn, Sem.run_bind, run_underlying Tryz.underlying3 w]
theorem eq_int2Q (d : Nat) (a b : Int) (w : World) : (Op.equalIn (d + 1) 2 (.int .i64 a) (.int .i64 b)).run Tryz.prog w = .ok (a == b) w := by
  simp [Op.equalIn, Sem.run_bind, run_underlying Tryz.underlying2 w]
theorem neq_it (a b a2 b2 : Int) (w : World) : (binOp .neq 43 (.agg #[.int .i64 a, .int .i64 b]) (.agg #[.int .i64 a2, .int .i64 b2])).run Tryz.prog w = .ok (.bool (!decide (((a, b) : ItemP) = (a2, b2)))) w := by
  have hf : Tryz.prog.stoodInHeld 43 = false := by kernel_rfl
  have hfs : (Tryz.prog.fieldsOf 43).toList.map (fun f => (f.name != "_", f.type, f.offset)) = [(true, 2, 0), (true, 3, 1)] := by kernel_rfl
  have p0 : ∀ x y : Int, (part 2 #[.int .i64 x, .int .i64 y] 0).run Tryz.prog w = .ok (.int .i64 x) w := fun x y => by kernel_rfl
  have p1 : ∀ x y : Int, (part 3 #[.int .i64 x, .int .i64 y] 1).run Tryz.prog w = .ok (.int .i64 y) w := fun x y => by kernel_rfl
  have h2 : ∀ d, (Op.eqFields (d + 1) #[.int .i64 a, .int .i64 b] #[.int .i64 a2, .int .i64 b2] (Tryz.prog.fieldsOf 43).toList).run Tryz.prog w = .ok (decide (((a, b) : ItemP) = (a2, b2))) w := by
    intro d
    generalize (Tryz.prog.fieldsOf 43).toList = fs at hfs
    rcases fs with _ | ⟨f, _ | ⟨g, _ | ⟨i, fs⟩⟩⟩
    · simp at hfs
    · simp at hfs
    · simp only [List.map_cons, List.map_nil, List.cons.injEq, Prod.mk.injEq, and_true] at hfs
      obtain ⟨⟨e1, e2, e3⟩, f1, f2, f3⟩ := hfs
      have e1' : f.name ≠ "_" := by simpa using e1
      have f1' : g.name ≠ "_" := by simpa using f1
      by_cases k1 : a = a2 <;> by_cases k2 : b = b2 <;>
        simp [Op.eqFields, e1', f1', e2, e3, f2, f3, Sem.run_bind, p0, p1, eq_int1Q, eq_int2Q, Result.andThen, Sem.run_pure, k1, k2]
    · simp at hfs
  rw [run_neq_struct, run_equalIn_agg w 9999 43 _ _ (by kernel_rfl) hf, h2 9998]
  rfl
attribute [local go_sem high] neq_it
theorem below_drewQ1 (w : World) (q : Nat) : Below w.heap.size w (w.drewN q) := Moves.below (Below.refl _ _) (Nat.le_refl _) (moves_drewNQ _ _) (fun _ h => h.elim)
theorem below_drewQ2 (w : World) (q p : Nat) : Below w.heap.size w ((w.drewN q).drewN p) := by rw [World.drewN_drewN]; exact below_drewQ1 _ _
theorem take_eqI {l l2 : List ItemP} {j : Nat} {x y : ItemP} (h : l.take j = l2.take j) (hx : l[j]? = some x) (hy : l2[j]? = some y) (hxy : x = y) : l.take (j + 1) = l2.take (j + 1) := by
  rw [List.take_add_one, List.take_add_one, hx, hy, h, hxy]
theorem neq_decQ (a b a2 b2 : Int) : (!decide (a = a2) || !decide (b = b2)) = !decide (((a, b) : ItemP) = (a2, b2)) := by
  by_cases h1 : a = a2 <;> by_cases h2 : b = b2 <;> simp [h1, h2]
set_option maxRecDepth 100000 in
set_option maxHeartbeats 2000000 in
theorem equalI_any (o o2 : Option Addr) (l l2 : List ItemP) (cap cap2 : Nat) (hn : l.length ≤ 1000000) (w : World) (hA : AtI w o l) (hA2 : AtI w o2 l2) :
    Calls Tryz.prog 31 #[.slice o l.length cap, .slice o2 l2.length cap2] w fun e w' => e = .returned (.bool (decide (l = l2))) ∧ Below w.heap.size w w' := by
  obtain ⟨n, hnn⟩ : ∃ n, l.length = n := ⟨_, rfl⟩
  obtain ⟨n2, hnn2⟩ : ∃ n, l2.length = n := ⟨_, rfl⟩
  rw [hnn] at hn ⊢
  rw [hnn2]
  have HN := Lib.hid hnn
  have HN2 := Lib.hid hnn2
  have HA := Lib.hid hA
  have HA2 := Lib.hid hA2
  obtain ⟨P, hP⟩ : ∃ P, (fun (e : Ending) w' => e = .returned (.bool (decide (l = l2))) ∧ Below w.heap.size w w') = P := ⟨_, rfl⟩
  have HP := Lib.hid hP
  rw [hP]
  clear hP hA hA2 hnn hnn2
  go_enter Tryz.func31, Tryz.ntmps31
  by_cases hnl : n = n2
  · subst hnl
    go_wp2_with fail
    go_loopg [13] n (fun k v wr => ∃ (j q : Nat), v = .int .i64 (j : Nat) ∧ j ≤ n ∧ k = n - j ∧ l.take j = l2.take j ∧ wr = w.drewN q)
    case atStart => exact ⟨0, 0, rfl, Nat.zero_le _, rfl, rfl, rfl⟩
    case round =>
      obtain ⟨j, q, rfl, hj, rfl, htk, rfl⟩ := hrel
      rcases Nat.lt_or_ge j n with hlt | hge
      · have hj1 : j < 1000000 := by omega
        obtain ⟨x, hx⟩ : ∃ x, l[j]? = some x := ⟨_, List.getElem?_eq_getElem (by rw [HN.out]; exact hlt)⟩
        obtain ⟨y, hy⟩ : ∃ y, l2[j]? = some y := ⟨_, List.getElem?_eq_getElem (by rw [HN2.out]; exact hlt)⟩
        obtain ⟨g, off, rfl, hc⟩ := HA.out (by rw [HN.out]; omega)
        obtain ⟨k0, k1⟩ := hc j x hx
        obtain ⟨g2, off2, rfl, hc2⟩ := HA2.out (by rw [HN2.out]; omega)
        obtain ⟨m0, m1⟩ := hc2 j y hy
        have hg := World.block_lt_of_cell? w _ k0
        have hg2 := World.block_lt_of_cell? w _ m0
        have HX := Lib.hid hx
        have HY := Lib.hid hy
        have HT := Lib.hid htk
        obtain ⟨a, b⟩ := x
        obtain ⟨a2, b2⟩ := y
        simp only at k0 k1 m0 m1
        clear hc hc2 hx hy htk
        go_wp2_with fail
        go_quiet (fail)
        try rw [neq_decQ]
        by_cases hxy : ((a, b) : ItemP) = (a2, b2)
        · have HT2 := Lib.hid (take_eqI HT.out HX.out HY.out hxy)
          rw [decide_eq_true hxy]
          clear hxy
          go_wp2
          go_roundg (n - (j + 1))
          case measure => omega
          case rel => exact ⟨j + 1, q + nq, by simp, by omega, rfl, HT2.out, rfl⟩
        · have HPP : Hid (P (.returned (.bool false)) ((w.drewN q).drewN nq)) := by
            rw [← HP.out]
            refine Lib.hid ⟨?_, below_drewQ2 _ _ _⟩
            rw [decide_eq_false fun he => hxy ?_]
            have h1 := HX.out
            rw [he, HY.out] at h1
            exact (Option.some.inj h1).symm
          rw [decide_eq_false hxy]
          clear hxy
          go_wp2
          exact HPP.out
      · obtain rfl : j = n := by omega
        have HPP : Hid (P (.returned (.bool true)) (w.drewN q)) := by
          rw [← HP.out]
          refine Lib.hid ⟨?_, below_drewQ1 _ _⟩
          have h := htk
          rw [List.take_of_length_le (by rw [HN.out]; exact Nat.le_refl _), List.take_of_length_le (by rw [HN2.out]; exact Nat.le_refl _)] at h
          rw [decide_eq_true h]
        clear htk
        go_wp2
        exact HPP.out
  · have HPP : Hid (P (.returned (.bool false)) w) := by
      rw [← HP.out]
      refine Lib.hid ⟨?_, Below.refl _ _⟩
      rw [decide_eq_false fun he => hnl ?_]
      rw [← HN.out, ← HN2.out, he]
    go_wp2
    exact HPP.out
/-- The same pattern. -/
def sameB (s1 s2 : Bool) (xs ys : List ItemP) : Bool := decide (s1 = s2) && decide (xs = ys)
set_option maxHeartbeats 1000000 in
theorem Same_anyQ (s1 s2 : Bool) (o o2 : Option Addr) (l l2 : List ItemP) (cap cap2 : Nat) (hn : l.length ≤ 1000000) (w : World) (hA : AtI w o l) (hA2 : AtI w o2 l2) :
    Calls Tryz.prog 16 #[patV s1 o l.length cap, patV s2 o2 l2.length cap2] w fun e w' => e = .returned (.bool (sameB s1 s2 l l2)) ∧ Below w.heap.size w w' := by
  obtain ⟨n, hnn⟩ : ∃ n, l.length = n := ⟨_, rfl⟩
  obtain ⟨n2, hnn2⟩ : ∃ n, l2.length = n := ⟨_, rfl⟩
  obtain ⟨w1, hw1⟩ : ∃ w1, (w.alloc (patO s1 o n cap)).alloc (patO s2 o2 n2 cap2) = w1 := ⟨_, rfl⟩
  have b1 : Below w.heap.size w w1 := by rw [← hw1]; exact ((Below.refl _ _).alloc (Nat.le_refl _) _).alloc (by simp) _
  have HE := Lib.hid (equalI_any o o2 l l2 cap cap2 hn w1 (hA.below b1) (hA2.below b1))
  obtain ⟨d, hd⟩ : ∃ d, decide (l = l2) = d := ⟨_, rfl⟩
  unfold sameB
  rw [hd] at HE ⊢
  rw [hnn, hnn2] at HE
  rw [hnn, hnn2]
  have HW := Lib.hid hw1
  have HB := Lib.hid b1
  obtain ⟨P, hP⟩ : ∃ P, (fun (e : Ending) w' => e = .returned (.bool (decide (s1 = s2) && d)) ∧ Below w.heap.size w w') = P := ⟨_, rfl⟩
  have HP := Lib.hid hP
  rw [hP]
  by_cases hs : s1 = s2
  · have FIN : Hid (∀ W, Below w1.heap.size w1 W → P (.returned (.bool d)) W) := Lib.hid fun W hb => by
      rw [← HP.out]
      exact ⟨by rw [decide_eq_true hs, Bool.true_and], HB.out.trans (hb.mono HB.out.size)⟩
    subst hs
    have hbb : (s1 == s1) = true := by cases s1 <;> rfl
    clear hnn hnn2 b1 hd hP hA hA2 hn
    rw [← hw1] at HE FIN
    clear HW HB hw1
    go_enter Tryz.func16, Tryz.ntmps16
    go_wp2_with fail
    refine HE.out.mono ?_
    rintro e w2 ⟨rfl, b2⟩
    have HQ := Lib.hid (FIN.out w2 b2)
    clear b2
    go_wp2
    first | exact HQ.out | (go_ret; exact HQ.out)
  · have HQ : Hid (P (.returned (.bool false)) w1) := by
      rw [← HP.out]
      exact Lib.hid ⟨by rw [decide_eq_false hs, Bool.false_and], HB.out⟩
    have hbb : (s1 == s2) = false := by
      cases s1 <;> cases s2 <;> first | rfl | exact absurd rfl hs
    rw [← hw1] at HQ
    clear hnn hnn2 b1 hd hP hA hA2 hn HW HB hw1 hs HE
    go_enter Tryz.func16, Tryz.ntmps16
    go_wp2
    first | exact HQ.out | (go_ret; exact HQ.out)
end Go.Proofs.YtgjjmbiihbepeaaGreatDoor

namespace Go.Proofs.YtgjjmbiihbepeaaGreatDoor
open Go.RowKit Go.Shelf Go.Maps
attribute [local go_sem] Oper.semAt_some

def exNQ : List ByteArray := [⟨#[65]⟩, ⟨#[66]⟩]
def exSQ : List UInt8 := [65, 32, 66, 42]
def exTQ : List UInt8 := [94, 32, 65, 42, 42, 32, 65]
def exUQ : List UInt8 := [65, 32, 67]
theorem exQ_1 : parsePV exNQ exSQ = (false, [(1, 0), (2, 1)]) ∧ parsePE exNQ exSQ = 0 := by decide +kernel
theorem exQ_2 : parsePV exNQ exTQ = (true, [(1, 2), (1, 0)]) ∧ parsePE exNQ exTQ = 0 := by decide +kernel
theorem exQ_3 : parsePV exNQ exUQ = (false, []) ∧ parsePE exNQ exUQ = 80 := by decide +kernel
theorem exQ_4 : (⟨(printPV exNQ true [(1, 2), (1, 0)]).toArray⟩ : ByteArray) = ⟨#[94, 32, 65, 42, 42, 32, 65]⟩ ∧ printPE exNQ [(1, 2), (1, 0)] = 0 := by decide +kernel
theorem exQ_5 : behindA false [(1, 0), (2, 1)] [1, 0, 1, 1] 4 = true := by decide +kernel
theorem exQ_6 : behindA true [(1, 2), (1, 0)] [0, 0] 2 = false := by decide +kernel
theorem exQ_7 : behindA true [(1, 2), (1, 0)] [0, 0, 0] 3 = true := by decide +kernel
theorem exQ_8 : fitsA [(1, 0), (2, 1)] [0] = true := by decide +kernel
theorem exQ_9 : aheadA false [(1, 0), (2, 1)] [1, 0] 1 = true := by decide +kernel
theorem txt_row {w : World} {g : Nat} {cs : Array Value} (ns : List ByteArray) (h : w.heap[g]? = some (.cells cs 9 (0, 0))) (hc : ∀ (j : Nat) (x : ByteArray), ns[j]? = some x → cs[j]? = some (Value.string x)) : TxtAt w (some ⟨g, 0, none⟩) ns := fun _ =>
  ⟨g, 0, rfl, fun j x hx => by rw [Nat.zero_add, cell_of_row w g j _ _ _ h]; exact hc j x hx⟩
theorem num_row {w : World} {g : Nat} (l : List Int) (h : w.heap[g]? = some (.cells (l.map (Value.int .i64)).toArray 3 (0, 0))) : NumsAt w (some ⟨g, 0, none⟩) l := fun _ =>
  ⟨g, 0, rfl, fun j x hx => by rw [Nat.zero_add, cell_of_row w g j _ _ _ h]; simp [hx]⟩
/-- Behind, Fits and Ahead of numbers that were just written down. -/
theorem behind_new (start : Bool) (o : Option Addr) (xs : List ItemP) (cap : Nat) (hn : xs.length ≤ 1000) (l : List Int) (hl : l.length ≤ 1000) (at_ : Int) (W : World) (hA : AtI W o xs) :
    Calls Tryz.prog 12 #[patV start o xs.length cap, .slice (some ⟨W.heap.size, 0, none⟩) l.length l.length, .int .i64 at_] (W.alloc (.cells (l.map (Value.int .i64)).toArray 3)) fun e w' => e = .returned (.bool (behindA start xs l at_)) ∧ Below W.heap.size W w' := by
  have hb : Below W.heap.size W (W.alloc (.cells (l.map (Value.int .i64)).toArray 3)) := (Below.refl _ _).alloc (Nat.le_refl _) _
  refine (Behind_anyQ start o (some ⟨W.heap.size, 0, none⟩) xs l cap l.length at_ hn (by omega) (Nat.le_refl _) _ (hA.below hb) (num_row l (heap_alloc_new _ _))).mono ?_
  rintro e w' ⟨rfl, h⟩
  exact ⟨rfl, hb.trans (h.mono hb.size)⟩
theorem ahead_new (start : Bool) (o : Option Addr) (xs : List ItemP) (cap : Nat) (hn : xs.length ≤ 1000) (l : List Int) (hl : l.length ≤ 1000) (at_ : Int) (W : World) (hA : AtI W o xs) :
    Calls Tryz.prog 14 #[patV start o xs.length cap, .slice (some ⟨W.heap.size, 0, none⟩) l.length l.length, .int .i64 at_] (W.alloc (.cells (l.map (Value.int .i64)).toArray 3)) fun e w' => e = .returned (.bool (aheadA start xs l at_)) ∧ Below W.heap.size W w' := by
  have hb : Below W.heap.size W (W.alloc (.cells (l.map (Value.int .i64)).toArray 3)) := (Below.refl _ _).alloc (Nat.le_refl _) _
  refine (Ahead_anyQ start o (some ⟨W.heap.size, 0, none⟩) xs l cap l.length at_ hn (by omega) (Nat.le_refl _) (fun h => by cases h) (fun p h _ => by cases h; rfl) _ (hA.below hb) (num_row l (heap_alloc_new _ _))).mono ?_
  rintro e w' ⟨rfl, h⟩
  exact ⟨rfl, hb.trans (h.mono hb.size)⟩
theorem fitsA_new (start : Bool) (o : Option Addr) (xs : List ItemP) (cap : Nat) (hn : xs.length ≤ 1000) (l : List Int) (hl : l.length ≤ 1000) (W : World) (hA : AtI W o xs) :
    Calls Tryz.prog 10 #[patV start o xs.length cap, .slice (some ⟨W.heap.size, 0, none⟩) l.length l.length] (W.alloc (.cells (l.map (Value.int .i64)).toArray 3)) fun e w' => e = .returned (.bool (fitsA xs l)) ∧ Below W.heap.size W w' := by
  have hb : Below W.heap.size W (W.alloc (.cells (l.map (Value.int .i64)).toArray 3)) := (Below.refl _ _).alloc (Nat.le_refl _) _
  refine (Fits_anyQ start o (some ⟨W.heap.size, 0, none⟩) xs l cap l.length hn (by omega) _ (hA.below hb) (num_row l (heap_alloc_new _ _))).mono ?_
  rintro e w' ⟨rfl, h⟩
  exact ⟨rfl, hb.trans (h.mono hb.size)⟩
set_option maxRecDepth 100000 in
set_option maxHeartbeats 4000000 in
theorem shownQ_any (w : World) (aU aS : Addr) (hQ : GlobQ w aU aS) (hG : KGlob w) : Calls Tryz.prog 5 #[] w fun e w' => e = .returned (.bool true) ∧ Below w.heap.size w w' := by
  obtain ⟨W0, hW0⟩ : ∃ W0, w.alloc (.cells #[.string ⟨#[65]⟩, .string ⟨#[66]⟩] 9) = W0 := ⟨_, rfl⟩
  have A0 : Below w.heap.size w W0 := by rw [← hW0]; exact (Below.refl _ _).alloc (Nat.le_refl _) _
  have r0 : W0.heap[w.heap.size]? = some (.cells #[.string ⟨#[65]⟩, .string ⟨#[66]⟩] 9 (0, 0)) := by rw [← hW0]; exact heap_alloc_new _ _
  have T0 : TxtAt W0 (some ⟨w.heap.size, 0, none⟩) exNQ := txt_row exNQ r0 (fun j x hx => by
    match j, hx with
    | 0, hx => cases hx; rfl
    | 1, hx => cases hx; rfl
    | j + 2, hx => simp [exNQ] at hx)
  have hz : ∀ s ∈ exNQ, s.size ≤ 1000 := by decide
  have HW0 := Lib.hid hW0
  have HA0 := Lib.hid A0
  have KP : Hid (∀ (t : ByteArray) W, t.size ≤ 1000 → Below W0.heap.size W0 W → Calls Tryz.prog 21 #[.string t, .slice (some ⟨w.heap.size, 0, none⟩) 2 2] W (ParseR exNQ t.data.toList (.int .i64 (parsePE exNQ t.data.toList)) W)) := Lib.hid fun t W ht hb =>
    Parse_anyQ t (by omega) (some ⟨w.heap.size, 0, none⟩) exNQ 2 (by decide) hz W aU aS ((hQ.below A0).below hb) ((hG.below A0).below hb) (T0.below hb)
  have KR : Hid (∀ (o : Option Addr) (cap : Nat) W, AtI W o [(1, 2), (1, 0)] → Below W0.heap.size W0 W → Calls Tryz.prog 19 #[patV true o 2 cap, .slice (some ⟨w.heap.size, 0, none⟩) 2 2] W fun e w' => e = .returned (.tuple #[.string ⟨#[94, 32, 65, 42, 42, 32, 65]⟩, .int .i64 0]) ∧ Below W.heap.size W w') := Lib.hid fun o cap W ha hb => by
    have := Print_anyQ true o (some ⟨w.heap.size, 0, none⟩) [(1, 2), (1, 0)] exNQ cap 2 (by decide) hz (by decide) W aU aS ((hQ.below A0).below hb) ((hG.below A0).below hb) ha (T0.below hb)
    rw [show strV (printPV exNQ true [(1, 2), (1, 0)]) = .string ⟨#[94, 32, 65, 42, 42, 32, 65]⟩ from congrArg Value.string exQ_4.1, exQ_4.2] at this
    exact this
  have KP1 : Hid (∀ W, Below W0.heap.size W0 W → Calls Tryz.prog 21 #[.string ⟨#[65, 32, 66, 42]⟩, .slice (some ⟨w.heap.size, 0, none⟩) 2 2] W fun e w' => ∃ o cap, e = .returned (.tuple #[patV false o 2 cap, .int .i64 0]) ∧ AtI w' o [(1, 0), (2, 1)] ∧ Below W.heap.size W w') := Lib.hid fun W hb => by
    refine (KP.out ⟨#[65, 32, 66, 42]⟩ W (by decide) hb).mono ?_
    rintro e w' ⟨o, cap, rfl, h1, _, _, h2⟩
    have e1 : parsePV exNQ (⟨#[65, 32, 66, 42]⟩ : ByteArray).data.toList = _ := exQ_1.1
    have e2 : parsePE exNQ (⟨#[65, 32, 66, 42]⟩ : ByteArray).data.toList = _ := exQ_1.2
    rw [e1] at h1
    refine ⟨o, cap, ?_, h1, h2⟩
    rw [e1, e2]; rfl
  have KP2 : Hid (∀ W, Below W0.heap.size W0 W → Calls Tryz.prog 21 #[.string ⟨#[94, 32, 65, 42, 42, 32, 65]⟩, .slice (some ⟨w.heap.size, 0, none⟩) 2 2] W fun e w' => ∃ o cap, e = .returned (.tuple #[patV true o 2 cap, .int .i64 0]) ∧ AtI w' o [(1, 2), (1, 0)] ∧ Below W.heap.size W w') := Lib.hid fun W hb => by
    refine (KP.out ⟨#[94, 32, 65, 42, 42, 32, 65]⟩ W (by decide) hb).mono ?_
    rintro e w' ⟨o, cap, rfl, h1, _, _, h2⟩
    have e1 : parsePV exNQ (⟨#[94, 32, 65, 42, 42, 32, 65]⟩ : ByteArray).data.toList = _ := exQ_2.1
    have e2 : parsePE exNQ (⟨#[94, 32, 65, 42, 42, 32, 65]⟩ : ByteArray).data.toList = _ := exQ_2.2
    rw [e1] at h1
    refine ⟨o, cap, ?_, h1, h2⟩
    rw [e1, e2]; rfl
  have KP3 : Hid (∀ W, Below W0.heap.size W0 W → Calls Tryz.prog 21 #[.string ⟨#[65, 32, 67]⟩, .slice (some ⟨w.heap.size, 0, none⟩) 2 2] W fun e w' => ∃ o cap, e = .returned (.tuple #[patV false o 0 cap, .int .i64 80]) ∧ Below W.heap.size W w') := Lib.hid fun W hb => by
    refine (KP.out ⟨#[65, 32, 67]⟩ W (by decide) hb).mono ?_
    rintro e w' ⟨o, cap, rfl, h1, _, _, h2⟩
    have e1 : parsePV exNQ (⟨#[65, 32, 67]⟩ : ByteArray).data.toList = _ := exQ_3.1
    have e2 : parsePE exNQ (⟨#[65, 32, 67]⟩ : ByteArray).data.toList = _ := exQ_3.2
    refine ⟨o, cap, ?_, h2⟩
    rw [e1, e2]; rfl
  have KB1 : Hid (∀ o cap W, AtI W o [(1, 0), (2, 1)] → Calls Tryz.prog 12 #[patV false o 2 cap, .slice (some ⟨W.heap.size, 0, none⟩) 4 4, .int .i64 4] (W.alloc (.cells #[.int .i64 1, .int .i64 0, .int .i64 1, .int .i64 1] 3)) fun e w' => e = .returned (.bool true) ∧ Below W.heap.size W w') := Lib.hid fun o cap W ha => by
    have := behind_new false o [(1, 0), (2, 1)] cap (by decide) [1, 0, 1, 1] (by decide) 4 W ha
    rw [exQ_5] at this
    exact this
  have KB2 : Hid (∀ o cap W, AtI W o [(1, 2), (1, 0)] → Calls Tryz.prog 12 #[patV true o 2 cap, .slice (some ⟨W.heap.size, 0, none⟩) 2 2, .int .i64 2] (W.alloc (.cells #[.int .i64 0, .int .i64 0] 3)) fun e w' => e = .returned (.bool false) ∧ Below W.heap.size W w') := Lib.hid fun o cap W ha => by
    have := behind_new true o [(1, 2), (1, 0)] cap (by decide) [0, 0] (by decide) 2 W ha
    rw [exQ_6] at this
    exact this
  have KB3 : Hid (∀ o cap W, AtI W o [(1, 2), (1, 0)] → Calls Tryz.prog 12 #[patV true o 2 cap, .slice (some ⟨W.heap.size, 0, none⟩) 3 3, .int .i64 3] (W.alloc (.cells #[.int .i64 0, .int .i64 0, .int .i64 0] 3)) fun e w' => e = .returned (.bool true) ∧ Below W.heap.size W w') := Lib.hid fun o cap W ha => by
    have := behind_new true o [(1, 2), (1, 0)] cap (by decide) [0, 0, 0] (by decide) 3 W ha
    rw [exQ_7] at this
    exact this
  have KF : Hid (∀ o cap W, AtI W o [(1, 0), (2, 1)] → Calls Tryz.prog 10 #[patV false o 2 cap, .slice (some ⟨W.heap.size, 0, none⟩) 1 1] (W.alloc (.cells #[.int .i64 0] 3)) fun e w' => e = .returned (.bool true) ∧ Below W.heap.size W w') := Lib.hid fun o cap W ha => by
    have := fitsA_new false o [(1, 0), (2, 1)] cap (by decide) [0] (by decide) W ha
    rw [exQ_8] at this
    exact this
  have KA : Hid (∀ o cap W, AtI W o [(1, 0), (2, 1)] → Calls Tryz.prog 14 #[patV false o 2 cap, .slice (some ⟨W.heap.size, 0, none⟩) 2 2, .int .i64 1] (W.alloc (.cells #[.int .i64 1, .int .i64 0] 3)) fun e w' => e = .returned (.bool true) ∧ Below W.heap.size W w') := Lib.hid fun o cap W ha => by
    have := ahead_new false o [(1, 0), (2, 1)] cap (by decide) [1, 0] (by decide) 1 W ha
    rw [exQ_9] at this
    exact this
  clear hW0 A0 r0 T0 hz hQ hG KP
  go_enter Tryz.func5, Tryz.ntmps5
  go_wp2_with fail
  rw [HW0.out]
  refine (KP1.out W0 (Below.refl _ _)).mono ?_
  rintro e w1 ⟨o1, c1, rfl, a1, b1⟩
  obtain ⟨W1, hW1⟩ : ∃ W1, w1.alloc (patO false o1 2 c1) = W1 := ⟨_, rfl⟩
  have d1 : Below w1.heap.size w1 W1 := by rw [← hW1]; exact (Below.refl _ _).alloc (Nat.le_refl _) _
  have R1 := Lib.hid (show W1.heap[w1.heap.size]? = some (patO false o1 2 c1) by rw [← hW1]; exact heap_alloc_new _ _)
  have HW1 := Lib.hid hW1
  have P1 := Lib.hid (a1.below d1)
  have B1 := Lib.hid (b1.trans (d1.mono b1.size))
  clear a1 b1 d1 hW1 KP1
  go_wp2_with fail
  rw [HW1.out]
  refine (KP2.out W1 B1.out).mono ?_
  rintro e w2 ⟨o2, c2, rfl, a2, b2⟩
  obtain ⟨W2, hW2⟩ : ∃ W2, w2.alloc (patO true o2 2 c2) = W2 := ⟨_, rfl⟩
  have d2 : Below w2.heap.size w2 W2 := by rw [← hW2]; exact (Below.refl _ _).alloc (Nat.le_refl _) _
  have S2 := Lib.hid (show W2.heap[w2.heap.size]? = some (patO true o2 2 c2) by rw [← hW2]; exact heap_alloc_new _ _)
  have HW2 := Lib.hid hW2
  have b12 := b2.trans (d2.mono b2.size)
  have R2 := Lib.hid (row_below R1.out b12)
  have P2 := Lib.hid (P1.out.below b12)
  have Q2 := Lib.hid (a2.below d2)
  have B2 := Lib.hid (B1.out.trans (b12.mono B1.out.size))
  obtain ⟨u0, u1⟩ := pat_cells S2.out
  clear a2 b2 d2 hW2 b12 KP2
  go_wp2_with fail
  rw [HW2.out]
  refine (KR.out o2 c2 W2 Q2.out B2.out).mono ?_
  rintro e w3 ⟨rfl, b3⟩
  have R3 := Lib.hid (row_below R2.out b3)
  have S3 := Lib.hid (row_below S2.out b3)
  have P3 := Lib.hid (P2.out.below b3)
  have Q3 := Lib.hid (Q2.out.below b3)
  have B3 := Lib.hid (B2.out.trans (b3.mono B2.out.size))
  clear b3 u0 u1 KR R2 S2 P2 Q2 P1 R1
  go_wp2_with fail
  refine (KP3.out w3 B3.out).mono ?_
  rintro e w4 ⟨o3, c3, rfl, b4⟩
  obtain ⟨W4, hW4⟩ : ∃ W4, w4.alloc (patO false o3 0 c3) = W4 := ⟨_, rfl⟩
  have d4 : Below w4.heap.size w4 W4 := by rw [← hW4]; exact (Below.refl _ _).alloc (Nat.le_refl _) _
  have sz4 : W4.heap.size = w4.heap.size + 1 := by rw [← hW4]; simp
  have HW4 := Lib.hid hW4
  have SZ4 := Lib.hid sz4.symm
  have r4 := row_below R3.out b4
  have b34 := b4.trans (d4.mono b4.size)
  have R4 := Lib.hid (row_below R3.out b34)
  have S4 := Lib.hid (row_below S3.out b34)
  have P4 := Lib.hid (P3.out.below b34)
  have Q4 := Lib.hid (Q3.out.below b34)
  have B4 := Lib.hid (B3.out.trans (b34.mono B3.out.size))
  obtain ⟨u0, u1⟩ := pat_cells r4
  have hlt4 := (Array.getElem?_eq_some_iff.1 r4).1
  clear b4 d4 hW4 b34 sz4 r4 R3 S3 P3 Q3 KP3
  go_wp2_with fail
  rw [SZ4.out, HW4.out]
  refine (KB1.out o1 c1 W4 P4.out).mono ?_
  rintro e w5 ⟨rfl, b5⟩
  have R5 := Lib.hid (row_below R4.out b5)
  have S5 := Lib.hid (row_below S4.out b5)
  have P5 := Lib.hid (P4.out.below b5)
  have Q5 := Lib.hid (Q4.out.below b5)
  have B5 := Lib.hid (B4.out.trans (b5.mono B4.out.size))
  clear b5 u0 u1 R4 S4 P4 Q4
  obtain ⟨u0, u1⟩ := pat_cells S5.out
  go_wp2_with fail
  refine (KB2.out o2 c2 w5 Q5.out).mono ?_
  rintro e w6 ⟨rfl, b6⟩
  have R6 := Lib.hid (row_below R5.out b6)
  have S6 := Lib.hid (row_below S5.out b6)
  have P6 := Lib.hid (P5.out.below b6)
  have Q6 := Lib.hid (Q5.out.below b6)
  have B6 := Lib.hid (B5.out.trans (b6.mono B5.out.size))
  clear b6 u0 u1 R5 S5 P5 Q5
  obtain ⟨u0, u1⟩ := pat_cells S6.out
  go_wp2_with fail
  refine (KB3.out o2 c2 w6 Q6.out).mono ?_
  rintro e w7 ⟨rfl, b7⟩
  have R7 := Lib.hid (row_below R6.out b7)
  have S7 := Lib.hid (row_below S6.out b7)
  have P7 := Lib.hid (P6.out.below b7)
  have Q7 := Lib.hid (Q6.out.below b7)
  have B7 := Lib.hid (B6.out.trans (b7.mono B6.out.size))
  clear b7 u0 u1 R6 S6 P6 Q6
  obtain ⟨u0, u1⟩ := pat_cells R7.out
  go_wp2_with fail
  refine (KF.out o1 c1 w7 P7.out).mono ?_
  rintro e w8 ⟨rfl, b8⟩
  have R8 := Lib.hid (row_below R7.out b8)
  have S8 := Lib.hid (row_below S7.out b8)
  have P8 := Lib.hid (P7.out.below b8)
  have Q8 := Lib.hid (Q7.out.below b8)
  have B8 := Lib.hid (B7.out.trans (b8.mono B7.out.size))
  clear b8 u0 u1 R7 S7 P7 Q7
  obtain ⟨u0, u1⟩ := pat_cells R8.out
  go_wp2_with fail
  refine (KA.out o1 c1 w8 P8.out).mono ?_
  rintro e w9 ⟨rfl, b9⟩
  have B9 := Lib.hid (HA0.out.trans ((B8.out.trans (b9.mono B8.out.size)).mono HA0.out.size))
  clear b9 u0 u1
  go_wp2
  go_ret
  exact ⟨rfl, B9.out⟩
end Go.Proofs.YtgjjmbiihbepeaaGreatDoor
