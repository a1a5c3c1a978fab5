/- Fits, Behind, Ahead. Ahead. judgeOf, isPlace, decide: what the first rule says whose sides fit. errors.As: what reflectlite says of fault's types. Printed by genjas.py. -/
import Derived.Test.YtnmhdcbpbaanoaaGreatDoorBunA14
import Derived.Test.YtnmhdcbpbaanoaaGreatDoorBunA12
import Derived.Stop.Asserts
import Derived.RowKitTokens
import Derived.LaidEql
namespace Go.Proofs.YtnmhdcbpbaanoaaGreatDoor
open Go.RowKit Go.Shelf Go.Maps
attribute [local go_sem] Oper.semAt_some

theorem NumsAt.takeQ {w : World} {o : Option Addr} {l : List Int} (h : NumsAt w o l) (k : Nat) : NumsAt w o (l.take k) := fun hn => by
  rw [List.length_take] at hn
  obtain ⟨g, off, ho, hc⟩ := h (by omega)
  refine ⟨g, off, ho, fun j x hx => hc j x ?_⟩
  rw [List.getElem?_take] at hx
  split at hx
  · exact hx
  · cases hx
theorem behindA_some {start : Bool} {xs : List ItemP} {l : List Int} {a : Nat} (hr : rightB xs 32 = true) (ha : a ≤ l.length) : behindA start xs l ((a : Nat) : Int) = fitsG start xs.reverse (listN true (l.take a)) := by
  have hw := rightB_how hr
  unfold behindA fitsG listN
  rw [hr, decide_eq_true (show (0 : Int) ≤ ((a : Nat) : Int) ∧ ((a : Nat) : Int) ≤ (l.length : Nat) by omega), Int.toNat_natCast]
  cases start with
  | true =>
    simp only [if_true, Bool.true_and]
    rw [back_all hw]
  | false =>
    simp only [if_true, Bool.true_and, Bool.false_eq_true, if_false]
    rw [back_some hw ha]
theorem behindA_right {start : Bool} {xs : List ItemP} {l : List Int} {at_ : Int} (hr : rightB xs 32 = false) : behindA start xs l at_ = false := by
  unfold behindA
  rw [hr]
  rfl
theorem behindA_place {start : Bool} {xs : List ItemP} {l : List Int} {at_ : Int} (h : ¬ (0 ≤ at_ ∧ at_ ≤ l.length)) : behindA start xs l at_ = false := by
  unfold behindA
  rw [decide_eq_false h, Bool.and_false]
  rfl
set_option maxRecDepth 100000 in
set_option maxHeartbeats 4000000 in
theorem Behind_anyQ (start : Bool) (o lo : Option Addr) (xs : List ItemP) (l : List Int) (cap lcap : Nat) (at_ : Int) (hn : xs.length ≤ 1000) (hl : l.length ≤ 100000) (hlc : l.length ≤ lcap) (w : World) (hA : AtI w o xs) (hL : NumsAt w lo l) :
    Calls Tryz.prog 31 #[patV start o xs.length cap, .slice lo l.length lcap, .int .i64 at_] w fun e w' => e = .returned (.bool (behindA start xs l at_)) ∧ Below w.heap.size w w' := by
  obtain ⟨w1, hw1⟩ : ∃ w1, w.alloc (patO start o xs.length cap) = w1 := ⟨_, rfl⟩
  have b1 : Below w.heap.size w w1 := by rw [← hw1]; exact (Below.refl _ _).alloc (Nat.le_refl _) _
  have r1 : w1.heap[w.heap.size]? = some (patO start o xs.length cap) := by rw [← hw1]; exact heap_alloc_new _ _
  have HR := Lib.hid (Right_anyQ start o xs cap 32 (by omega) w1 (hA.below b1))
  obtain ⟨P, hP⟩ : ∃ P, (fun (e : Ending) w' => e = .returned (.bool (behindA start xs l at_)) ∧ Below w.heap.size w w') = P := ⟨_, rfl⟩
  have HP := Lib.hid hP
  rw [hP]
  have HW1 := Lib.hid hw1
  have HB1 := Lib.hid b1
  have R1 := Lib.hid r1
  obtain ⟨q0, q1⟩ := pat_cells r1
  cases hr : rightB xs 32 with
  | false =>
    rw [hr] at HR
    have HQ : Hid (∀ W, Below w1.heap.size w1 W → P (.returned (.bool false)) W) := Lib.hid fun W hb => by
      rw [← HP.out]
      exact ⟨by rw [behindA_right hr], HB1.out.trans (hb.mono HB1.out.size)⟩
    obtain ⟨n, hnn⟩ : ∃ n, xs.length = n := ⟨_, rfl⟩
    obtain ⟨m, hmm⟩ : ∃ m, l.length = m := ⟨_, rfl⟩
    rw [hnn] at HR q1 HW1 R1 ⊢
    rw [hmm] at ⊢
    clear hP hw1 b1 r1 hA hL hnn hmm hn hl hlc hr
    go_enter Tryz.func31, Tryz.ntmps31
    go_wp2_with fail
    rw [HW1.out]
    refine HR.out.mono ?_
    rintro e w2 ⟨rfl, b2⟩
    have HQ2 := Lib.hid (HQ.out w2 b2)
    clear b2
    go_wp2
    first | exact HQ2.out | (go_ret; exact HQ2.out)
  | true =>
    rw [hr] at HR
    by_cases hp : 0 ≤ at_ ∧ at_ ≤ ((l.length : Nat) : Int)
    · obtain ⟨a, rfl⟩ := Int.eq_ofNat_of_zero_le hp.1
      have hal : a ≤ l.length := by omega
      have hlt : (l.take a).length = a := by rw [List.length_take]; omega
      have PL : Hid (∀ W, Calls Tryz.prog 53 #[.int .i64 (a : Nat), .slice lo l.length lcap] W fun e w' => e = .returned (.bool true) ∧ W = w') := Lib.hid fun W => by
        have := isPlace_any ((a : Nat) : Int) lo l.length lcap W
        rwa [decide_eq_true hp] at this
      have BO : Hid (∀ W, Below w1.heap.size w1 W → Calls Tryz.prog 54 #[.slice o xs.length cap, .slice lo a lcap] W fun e w3 => ∃ M, e = .returned (mV M) ∧ w3.cell? ⟨w.heap.size, 0, none⟩ = some (.bool start) ∧ w3.cell? ⟨w.heap.size, 1, none⟩ = some (.slice o xs.length cap) ∧ Hid (Calls Tryz.prog 55 #[mV M, .bool start] w3 fun e w' => ∃ b, e = .returned (.bool b) ∧ P (.returned (.bool b)) w')) := Lib.hid fun W hb => by
        have hbw := HB1.out.trans (hb.mono HB1.out.size)
        have h1 := back_any o lo xs cap (l.take a).length lcap hn W (hA.below hbw)
        rw [hlt] at h1
        refine h1.mono fun e w3 hq => ?_
        rw [← hlt] at hq
        obtain ⟨M, he, hb2, hc⟩ := fits_new start (by rw [List.length_reverse]; exact (rightB_parts hr).2.1) (howP_reverse (rightB_how hr)) (by rw [hlt]; omega) ((hL.takeQ a).below hbw) hq
        obtain ⟨p0, p1⟩ := pat_cells (row_below (row_below R1.out hb) hb2)
        refine ⟨M, he, p0, p1, Lib.hid (hc.mono ?_)⟩
        rintro e w' ⟨rfl, h2⟩
        refine ⟨_, rfl, ?_⟩
        rw [← HP.out]
        exact ⟨by rw [behindA_some hr hal], hbw.trans (h2.mono hbw.size)⟩
      obtain ⟨n, hnn⟩ : ∃ n, xs.length = n := ⟨_, rfl⟩
      obtain ⟨m, hmm⟩ : ∃ m, l.length = m := ⟨_, rfl⟩
      rw [hnn] at HR q1 HW1 R1 BO ⊢
      rw [hmm] at PL hlc hal hl ⊢
      have hac : a ≤ lcap := by omega
      clear hP hw1 b1 r1 hA hL hnn hmm hn hr hp hlt
      go_enter Tryz.func31, Tryz.ntmps31
      go_wp2_with fail
      rw [HW1.out]
      refine HR.out.mono ?_
      rintro e w2 ⟨rfl, b2⟩
      obtain ⟨p0, p1⟩ := pat_cells (row_below R1.out b2)
      have BO2 := Lib.hid (BO.out w2.drew b2.drew)
      clear b2 q0 q1
      go_wp2_with fail
      refine (PL.out _).mono ?_
      rintro e w2' ⟨rfl, rfl⟩
      go_wp2_with fail
      go_region_with (first | (go_at_call 54; refine BO2.out.mono ?_; rintro e w3 ⟨M, rfl, s0, s1, HC⟩) | (go_at_call 55; refine HC.out.mono ?_; rintro e w4 ⟨b, rfl, hp⟩))
      all_goals
        go_simp
        have HQ2 := Lib.hid hp
        clear hp
        go_wp2
        first | exact HQ2.out | (go_ret; exact HQ2.out)
    · have PL : Hid (∀ W, Calls Tryz.prog 53 #[.int .i64 at_, .slice lo l.length lcap] W fun e w' => e = .returned (.bool false) ∧ W = w') := Lib.hid fun W => by
        have := isPlace_any at_ lo l.length lcap W
        rwa [decide_eq_false hp] at this
      have HQ : Hid (∀ W, Below w1.heap.size w1 W → P (.returned (.bool false)) W) := Lib.hid fun W hb => by
        rw [← HP.out]
        exact ⟨by rw [behindA_place hp], HB1.out.trans (hb.mono HB1.out.size)⟩
      obtain ⟨n, hnn⟩ : ∃ n, xs.length = n := ⟨_, rfl⟩
      obtain ⟨m, hmm⟩ : ∃ m, l.length = m := ⟨_, rfl⟩
      rw [hnn] at HR q1 HW1 R1 ⊢
      rw [hmm] at PL ⊢
      clear hP hw1 b1 r1 hA hL hnn hmm hn hl hlc hr hp
      go_enter Tryz.func31, Tryz.ntmps31
      go_wp2_with fail
      rw [HW1.out]
      refine HR.out.mono ?_
      rintro e w2 ⟨rfl, b2⟩
      have HQ2 := Lib.hid (HQ.out w2 b2)
      clear b2
      go_wp2_with fail
      refine (PL.out _).mono ?_
      rintro e w2' ⟨rfl, rfl⟩
      go_wp2
      first | exact HQ2.out | (go_ret; exact HQ2.out)
end Go.Proofs.YtnmhdcbpbaanoaaGreatDoor

namespace Go.Proofs.YtnmhdcbpbaanoaaGreatDoor
open Go.RowKit Go.Shelf Go.Maps
attribute [local go_sem] Oper.semAt_some

theorem aheadA_some {start : Bool} {xs : List ItemP} {l : List Int} {a : Nat} (hr : rightB xs 32 = true) (ha : a ≤ l.length) (hs : ¬ (start = true ∧ 0 < a)) : aheadA start xs l ((a : Nat) : Int) = fitsG false xs (listN false (l.drop a)) := by
  have e : (!start || decide (((a : Nat) : Int) = 0)) = true := by
    cases start with
    | false => rfl
    | true =>
      have : a = 0 := by
        rcases Nat.eq_zero_or_pos a with h | h
        · exact h
        · exact absurd ⟨rfl, h⟩ hs
      subst this
      rfl
  unfold aheadA fitsG listN
  rw [hr, decide_eq_true (show (0 : Int) ≤ ((a : Nat) : Int) ∧ ((a : Nat) : Int) ≤ (l.length : Nat) by omega), e, Int.toNat_natCast]
  rfl
theorem aheadA_right {start : Bool} {xs : List ItemP} {l : List Int} {at_ : Int} (hr : rightB xs 32 = false) : aheadA start xs l at_ = false := by
  unfold aheadA
  rw [hr]
  rfl
theorem aheadA_place {start : Bool} {xs : List ItemP} {l : List Int} {at_ : Int} (h : ¬ (0 ≤ at_ ∧ at_ ≤ l.length)) : aheadA start xs l at_ = false := by
  unfold aheadA
  rw [decide_eq_false h, Bool.and_false]
  rfl
theorem aheadA_start {xs : List ItemP} {l : List Int} {at_ : Int} (h : 0 < at_) : aheadA true xs l at_ = false := by
  unfold aheadA
  rw [decide_eq_false (show ¬ at_ = 0 by omega)]
  simp
/-- A list from a place on. -/
def dropO (lo : Option Addr) (lcap a : Nat) : Option Addr := lo.map fun p => if lcap = a then p else ⟨p.block, p.off + a, p.spot⟩
theorem NumsAt.dropQ {w : World} {lo : Option Addr} {l : List Int} {lcap : Nat} (h : NumsAt w lo l) (hc : l.length ≤ lcap) (a : Nat) : NumsAt w (dropO lo lcap a) (l.drop a) := fun hn => by
  rw [List.length_drop] at hn
  obtain ⟨g, off, rfl, hc'⟩ := h (by omega)
  refine ⟨g, off + a, by unfold dropO; rw [Option.map_some, if_neg (by omega)], fun j x hx => ?_⟩
  rw [List.getElem?_drop] at hx
  rw [Nat.add_assoc]
  exact hc' _ x hx
set_option maxRecDepth 100000 in
set_option maxHeartbeats 4000000 in
theorem Ahead_anyQ (start : Bool) (o lo : Option Addr) (xs : List ItemP) (l : List Int) (cap lcap : Nat) (at_ : Int) (hn : xs.length ≤ 1000) (hl : l.length ≤ 100000) (hlc : l.length ≤ lcap) (hlz : lo = none → lcap = 0) (hls : ∀ p, lo = some p → 0 < lcap → p.spot = none) (w : World) (hA : AtI w o xs) (hL : NumsAt w lo l) :
    Calls Tryz.prog 32 #[patV start o xs.length cap, .slice lo l.length lcap, .int .i64 at_] w fun e w' => e = .returned (.bool (aheadA start xs l at_)) ∧ Below w.heap.size w w' := by
  obtain ⟨w1, hw1⟩ : ∃ w1, w.alloc (patO start o xs.length cap) = w1 := ⟨_, rfl⟩
  have b1 : Below w.heap.size w w1 := by rw [← hw1]; exact (Below.refl _ _).alloc (Nat.le_refl _) _
  have r1 : w1.heap[w.heap.size]? = some (patO start o xs.length cap) := by rw [← hw1]; exact heap_alloc_new _ _
  have HR := Lib.hid (Right_anyQ start o xs cap 32 (by omega) w1 (hA.below b1))
  obtain ⟨P, hP⟩ : ∃ P, (fun (e : Ending) w' => e = .returned (.bool (aheadA start xs l at_)) ∧ Below w.heap.size w w') = P := ⟨_, rfl⟩
  have HP := Lib.hid hP
  rw [hP]
  have HW1 := Lib.hid hw1
  have HB1 := Lib.hid b1
  have R1 := Lib.hid r1
  obtain ⟨q0, q1⟩ := pat_cells r1
  have FALSE : aheadA start xs l at_ = false → Hid (∀ W, Below w1.heap.size w1 W → P (.returned (.bool false)) W) := fun he => Lib.hid fun W hb => by
      rw [← HP.out]
      exact ⟨by rw [he], HB1.out.trans (hb.mono HB1.out.size)⟩
  cases hr : rightB xs 32 with
  | false =>
    rw [hr] at HR
    have HQ := FALSE (aheadA_right hr)
    obtain ⟨n, hnn⟩ : ∃ n, xs.length = n := ⟨_, rfl⟩
    obtain ⟨m, hmm⟩ : ∃ m, l.length = m := ⟨_, rfl⟩
    rw [hnn] at HR q1 HW1 R1 ⊢
    rw [hmm] at ⊢
    clear hP hw1 b1 r1 hA hL hnn hmm hn hl hlc hr FALSE hlz hls
    go_enter Tryz.func32, Tryz.ntmps32
    go_wp2_with fail
    rw [HW1.out]
    refine HR.out.mono ?_
    rintro e w2 ⟨rfl, b2⟩
    have HQ2 := Lib.hid (HQ.out w2 b2)
    clear b2
    go_wp2
    first | exact HQ2.out | (go_ret; exact HQ2.out)
  | true =>
    rw [hr] at HR
    by_cases hp : 0 ≤ at_ ∧ at_ ≤ ((l.length : Nat) : Int)
    · obtain ⟨a, rfl⟩ := Int.eq_ofNat_of_zero_le hp.1
      have hal : a ≤ l.length := by omega
      have PL : Hid (∀ W, Calls Tryz.prog 53 #[.int .i64 (a : Nat), .slice lo l.length lcap] W fun e w' => e = .returned (.bool true) ∧ W = w') := Lib.hid fun W => by
        have := isPlace_any ((a : Nat) : Int) lo l.length lcap W
        rwa [decide_eq_true hp] at this
      by_cases hs : start = true ∧ 0 < a
      · obtain ⟨rfl, hs⟩ := hs
        have HQ := FALSE (aheadA_start (by omega))
        have hs2 : (0 : Int) < ((a : Nat) : Int) := by omega
        obtain ⟨n, hnn⟩ : ∃ n, xs.length = n := ⟨_, rfl⟩
        obtain ⟨m, hmm⟩ : ∃ m, l.length = m := ⟨_, rfl⟩
        rw [hnn] at HR q1 HW1 R1 ⊢
        rw [hmm] at PL ⊢
        clear hP hw1 b1 r1 hA hL hnn hmm hn hl hlc hr hp hal FALSE hlz hls
        go_enter Tryz.func32, Tryz.ntmps32
        go_wp2_with fail
        rw [HW1.out]
        refine HR.out.mono ?_
        rintro e w2 ⟨rfl, b2⟩
        obtain ⟨p0, p1⟩ := pat_cells (row_below R1.out b2)
        have HQ2 := Lib.hid (HQ.out w2 b2)
        clear b2 q0 q1
        go_wp2_with fail
        refine (PL.out _).mono ?_
        rintro e w2' ⟨rfl, rfl⟩
        go_wp2
        first | exact HQ2.out | (go_ret; exact HQ2.out)
      · have hdl : (l.drop a).length = l.length - a := List.length_drop
        have BO : Hid (∀ W, Below w1.heap.size w1 W → Calls Tryz.prog 56 #[.slice o xs.length cap, .slice (dropO lo lcap a) (l.length - a) (lcap - a)] W fun e w3 => ∃ M, e = .returned (mV M) ∧ Hid (Calls Tryz.prog 55 #[mV M, .bool false] w3 fun e w' => ∃ b, e = .returned (.bool b) ∧ P (.returned (.bool b)) w')) := Lib.hid fun W hb => by
          have hbw := HB1.out.trans (hb.mono HB1.out.size)
          have h1 := forth_any o (dropO lo lcap a) xs cap (l.drop a).length (lcap - a) W (hA.below hbw)
          rw [hdl] at h1
          refine h1.mono fun e w3 hq => ?_
          rw [← hdl] at hq
          obtain ⟨M, he, hb2, hc⟩ := fits_new false (rightB_parts hr).2.1 (rightB_how hr) (by rw [hdl]; omega) ((hL.dropQ hlc a).below hbw) hq
          refine ⟨M, he, Lib.hid (hc.mono ?_)⟩
          rintro e w' ⟨rfl, h2⟩
          refine ⟨_, rfl, ?_⟩
          rw [← HP.out]
          exact ⟨by rw [aheadA_some hr hal hs], hbw.trans (h2.mono hbw.size)⟩
        obtain ⟨n, hnn⟩ : ∃ n, xs.length = n := ⟨_, rfl⟩
        obtain ⟨m, hmm⟩ : ∃ m, l.length = m := ⟨_, rfl⟩
        rw [hnn] at HR q1 HW1 R1 BO ⊢
        rw [hmm] at PL hlc hal hl BO ⊢
        have hac : a ≤ lcap := by omega
        have hs2 : start = false ∨ (start = true ∧ a = 0) := by
          cases start with
          | false => exact .inl rfl
          | true =>
            refine .inr ⟨rfl, ?_⟩
            rcases Nat.eq_zero_or_pos a with h | h
            · exact h
            · exact absurd ⟨rfl, h⟩ hs
        clear hP hw1 b1 r1 hA hL hnn hmm hn hr hp FALSE hs hdl
        cases lo with
        | none =>
          obtain rfl := hlz rfl
          obtain rfl : m = 0 := by omega
          obtain rfl : a = 0 := by omega
          replace BO : Hid (∀ W, Below w1.heap.size w1 W → Calls Tryz.prog 56 #[.slice o n cap, .slice none 0 0] W fun e w3 => ∃ M, e = .returned (mV M) ∧ Hid (Calls Tryz.prog 55 #[mV M, .bool false] w3 fun e w' => ∃ b, e = .returned (.bool b) ∧ P (.returned (.bool b)) w')) := BO
          clear hlz hls hs2 hal hlc hac hl
          cases start
          · skip
            go_enter Tryz.func32, Tryz.ntmps32
            go_wp2_with fail
            rw [HW1.out]
            refine HR.out.mono ?_
            rintro e w2 ⟨rfl, b2⟩
            obtain ⟨p0, p1⟩ := pat_cells (row_below R1.out b2)
            have BO2 := Lib.hid (BO.out w2.drew b2.drew)
            clear b2 q0 q1
            go_wp2_with fail
            refine (PL.out _).mono ?_
            rintro e w2' ⟨rfl, rfl⟩
            go_wp2_with fail
            go_region_with (first | (go_at_call 56; refine BO2.out.mono ?_; rintro e w3 ⟨M, rfl, HC⟩) | (go_at_call 55; refine HC.out.mono ?_; rintro e w4 ⟨b, rfl, hp⟩))
            all_goals
              go_simp
              have HQ2 := Lib.hid hp
              clear hp
              go_wp2
              first | exact HQ2.out | (go_ret; exact HQ2.out)
          · skip
            go_enter Tryz.func32, Tryz.ntmps32
            go_wp2_with fail
            rw [HW1.out]
            refine HR.out.mono ?_
            rintro e w2 ⟨rfl, b2⟩
            obtain ⟨p0, p1⟩ := pat_cells (row_below R1.out b2)
            have BO2 := Lib.hid (BO.out w2.drew b2.drew)
            clear b2 q0 q1
            go_wp2_with fail
            refine (PL.out _).mono ?_
            rintro e w2' ⟨rfl, rfl⟩
            go_wp2_with fail
            go_region_with (first | (go_at_call 56; refine BO2.out.mono ?_; rintro e w3 ⟨M, rfl, HC⟩) | (go_at_call 55; refine HC.out.mono ?_; rintro e w4 ⟨b, rfl, hp⟩))
            all_goals
              go_simp
              have HQ2 := Lib.hid hp
              clear hp
              go_wp2
              first | exact HQ2.out | (go_ret; exact HQ2.out)
        | some p =>
          by_cases hz0 : lcap = 0
          · subst hz0
            obtain rfl : m = 0 := by omega
            obtain rfl : a = 0 := by omega
            replace BO : Hid (∀ W, Below w1.heap.size w1 W → Calls Tryz.prog 56 #[.slice o n cap, .slice (some p) 0 0] W fun e w3 => ∃ M, e = .returned (mV M) ∧ Hid (Calls Tryz.prog 55 #[mV M, .bool false] w3 fun e w' => ∃ b, e = .returned (.bool b) ∧ P (.returned (.bool b)) w')) := BO
            clear hlz hls hs2 hal hlc hac hl
            cases start
            · skip
              go_enter Tryz.func32, Tryz.ntmps32
              go_wp2_with fail
              rw [HW1.out]
              refine HR.out.mono ?_
              rintro e w2 ⟨rfl, b2⟩
              obtain ⟨p0, p1⟩ := pat_cells (row_below R1.out b2)
              have BO2 := Lib.hid (BO.out w2.drew b2.drew)
              clear b2 q0 q1
              go_wp2_with fail
              refine (PL.out _).mono ?_
              rintro e w2' ⟨rfl, rfl⟩
              go_wp2_with fail
              go_region_with (first | (go_at_call 56; refine BO2.out.mono ?_; rintro e w3 ⟨M, rfl, HC⟩) | (go_at_call 55; refine HC.out.mono ?_; rintro e w4 ⟨b, rfl, hp⟩))
              all_goals
                go_simp
                have HQ2 := Lib.hid hp
                clear hp
                go_wp2
                first | exact HQ2.out | (go_ret; exact HQ2.out)
            · skip
              go_enter Tryz.func32, Tryz.ntmps32
              go_wp2_with fail
              rw [HW1.out]
              refine HR.out.mono ?_
              rintro e w2 ⟨rfl, b2⟩
              obtain ⟨p0, p1⟩ := pat_cells (row_below R1.out b2)
              have BO2 := Lib.hid (BO.out w2.drew b2.drew)
              clear b2 q0 q1
              go_wp2_with fail
              refine (PL.out _).mono ?_
              rintro e w2' ⟨rfl, rfl⟩
              go_wp2_with fail
              go_region_with (first | (go_at_call 56; refine BO2.out.mono ?_; rintro e w3 ⟨M, rfl, HC⟩) | (go_at_call 55; refine HC.out.mono ?_; rintro e w4 ⟨b, rfl, hp⟩))
              all_goals
                go_simp
                have HQ2 := Lib.hid hp
                clear hp
                go_wp2
                first | exact HQ2.out | (go_ret; exact HQ2.out)
          · skip
            obtain ⟨g, off, sp⟩ := p
            obtain rfl : sp = none := hls _ rfl (by omega)
            rcases Nat.eq_zero_or_pos a with rfl | hapos
            · replace BO : Hid (∀ W, Below w1.heap.size w1 W → Calls Tryz.prog 56 #[.slice o n cap, .slice (some ⟨g, off, none⟩) m lcap] W fun e w3 => ∃ M, e = .returned (mV M) ∧ Hid (Calls Tryz.prog 55 #[mV M, .bool false] w3 fun e w' => ∃ b, e = .returned (.bool b) ∧ P (.returned (.bool b)) w')) := by
                have e : dropO (some ⟨g, off, none⟩) lcap 0 = some ⟨g, off, none⟩ := by unfold dropO; simp
                rw [e] at BO
                exact BO
              clear hlz hls hs2 hal hlc hac hl
              cases start
              · skip
                go_enter Tryz.func32, Tryz.ntmps32
                go_wp2_with fail
                rw [HW1.out]
                refine HR.out.mono ?_
                rintro e w2 ⟨rfl, b2⟩
                obtain ⟨p0, p1⟩ := pat_cells (row_below R1.out b2)
                have BO2 := Lib.hid (BO.out w2.drew b2.drew)
                clear b2 q0 q1
                go_wp2_with fail
                refine (PL.out _).mono ?_
                rintro e w2' ⟨rfl, rfl⟩
                go_wp2_with fail
                go_region_with (first | (go_at_call 56; refine BO2.out.mono ?_; rintro e w3 ⟨M, rfl, HC⟩) | (go_at_call 55; refine HC.out.mono ?_; rintro e w4 ⟨b, rfl, hp⟩))
                all_goals
                  go_simp
                  have HQ2 := Lib.hid hp
                  clear hp
                  go_wp2
                  first | exact HQ2.out | (go_ret; exact HQ2.out)
              · skip
                go_enter Tryz.func32, Tryz.ntmps32
                go_wp2_with fail
                rw [HW1.out]
                refine HR.out.mono ?_
                rintro e w2 ⟨rfl, b2⟩
                obtain ⟨p0, p1⟩ := pat_cells (row_below R1.out b2)
                have BO2 := Lib.hid (BO.out w2.drew b2.drew)
                clear b2 q0 q1
                go_wp2_with fail
                refine (PL.out _).mono ?_
                rintro e w2' ⟨rfl, rfl⟩
                go_wp2_with fail
                go_region_with (first | (go_at_call 56; refine BO2.out.mono ?_; rintro e w3 ⟨M, rfl, HC⟩) | (go_at_call 55; refine HC.out.mono ?_; rintro e w4 ⟨b, rfl, hp⟩))
                all_goals
                  go_simp
                  have HQ2 := Lib.hid hp
                  clear hp
                  go_wp2
                  first | exact HQ2.out | (go_ret; exact HQ2.out)
            · obtain rfl : start = false := by
                rcases hs2 with h | h
                · exact h
                · omega
              by_cases hca : lcap = a
              · subst hca
                obtain rfl : m = lcap := by omega
                replace BO : Hid (∀ W, Below w1.heap.size w1 W → Calls Tryz.prog 56 #[.slice o n cap, .slice (some ⟨g, off, none⟩) 0 0] W fun e w3 => ∃ M, e = .returned (mV M) ∧ Hid (Calls Tryz.prog 55 #[mV M, .bool false] w3 fun e w' => ∃ b, e = .returned (.bool b) ∧ P (.returned (.bool b)) w')) := by
                  have e : dropO (some ⟨g, off, none⟩) m m = some ⟨g, off, none⟩ := by unfold dropO; simp
                  rw [e, Nat.sub_self] at BO
                  exact BO
                clear hlz hls hs2 hal hlc hac
                skip
                go_enter Tryz.func32, Tryz.ntmps32
                go_wp2_with fail
                rw [HW1.out]
                refine HR.out.mono ?_
                rintro e w2 ⟨rfl, b2⟩
                obtain ⟨p0, p1⟩ := pat_cells (row_below R1.out b2)
                have BO2 := Lib.hid (BO.out w2.drew b2.drew)
                clear b2 q0 q1
                go_wp2_with fail
                refine (PL.out _).mono ?_
                rintro e w2' ⟨rfl, rfl⟩
                go_wp2_with fail
                go_region_with (first | (go_at_call 56; refine BO2.out.mono ?_; rintro e w3 ⟨M, rfl, HC⟩) | (go_at_call 55; refine HC.out.mono ?_; rintro e w4 ⟨b, rfl, hp⟩))
                all_goals
                  go_simp
                  have HQ2 := Lib.hid hp
                  clear hp
                  go_wp2
                  first | exact HQ2.out | (go_ret; exact HQ2.out)
              · replace BO : Hid (∀ W, Below w1.heap.size w1 W → Calls Tryz.prog 56 #[.slice o n cap, .slice (some ⟨g, off + a, none⟩) (m - a) (lcap - a)] W fun e w3 => ∃ M, e = .returned (mV M) ∧ Hid (Calls Tryz.prog 55 #[mV M, .bool false] w3 fun e w' => ∃ b, e = .returned (.bool b) ∧ P (.returned (.bool b)) w')) := by
                  have e : dropO (some ⟨g, off, none⟩) lcap a = some ⟨g, off + a, none⟩ := by unfold dropO; rw [Option.map_some, if_neg hca]
                  rw [e] at BO
                  exact BO
                clear hlz hls hs2
                skip
                go_enter Tryz.func32, Tryz.ntmps32
                go_wp2_with fail
                rw [HW1.out]
                refine HR.out.mono ?_
                rintro e w2 ⟨rfl, b2⟩
                obtain ⟨p0, p1⟩ := pat_cells (row_below R1.out b2)
                have BO2 := Lib.hid (BO.out w2.drew b2.drew)
                clear b2 q0 q1
                go_wp2_with fail
                refine (PL.out _).mono ?_
                rintro e w2' ⟨rfl, rfl⟩
                go_wp2_with fail
                go_region_with (first | (go_at_call 56; refine BO2.out.mono ?_; rintro e w3 ⟨M, rfl, HC⟩) | (go_at_call 55; refine HC.out.mono ?_; rintro e w4 ⟨b, rfl, hp⟩))
                all_goals
                  go_simp
                  have HQ2 := Lib.hid hp
                  clear hp
                  go_wp2
                  first | exact HQ2.out | (go_ret; exact HQ2.out)
    · have PL : Hid (∀ W, Calls Tryz.prog 53 #[.int .i64 at_, .slice lo l.length lcap] W fun e w' => e = .returned (.bool false) ∧ W = w') := Lib.hid fun W => by
        have := isPlace_any at_ lo l.length lcap W
        rwa [decide_eq_false hp] at this
      have HQ := FALSE (aheadA_place hp)
      obtain ⟨n, hnn⟩ : ∃ n, xs.length = n := ⟨_, rfl⟩
      obtain ⟨m, hmm⟩ : ∃ m, l.length = m := ⟨_, rfl⟩
      rw [hnn] at HR q1 HW1 R1 ⊢
      rw [hmm] at PL ⊢
      clear hP hw1 b1 r1 hA hL hnn hmm hn hl hlc hr hp FALSE hlz hls
      go_enter Tryz.func32, Tryz.ntmps32
      go_wp2_with fail
      rw [HW1.out]
      refine HR.out.mono ?_
      rintro e w2 ⟨rfl, b2⟩
      have HQ2 := Lib.hid (HQ.out w2 b2)
      clear b2
      go_wp2_with fail
      refine (PL.out _).mono ?_
      rintro e w2' ⟨rfl, rfl⟩
      go_wp2
      first | exact HQ2.out | (go_ret; exact HQ2.out)
end Go.Proofs.YtnmhdcbpbaanoaaGreatDoor

namespace Go.Proofs.YtnmhdcbpbaanoaaGreatDoor
open Go.RowKit Go.Shelf Go.Maps
attribute [local go_sem] Oper.semAt_some

/-- A judge: the rules' slice, the list's. -/
abbrev jugC (o : Option Addr) (n cap : Nat) (lo : Option Addr) (k lcap : Nat) : Array Value := #[.slice o n cap, .slice lo k lcap]
abbrev jugV (o : Option Addr) (n cap : Nat) (lo : Option Addr) (k lcap : Nat) : Value := .agg (jugC o n cap lo k lcap)
abbrev jugO (o : Option Addr) (n cap : Nat) (lo : Option Addr) (k lcap : Nat) : Obj := .cells (jugC o n cap lo k lcap) 84 (0, 0)
/-- A list of classes in memory, as Ahead wants it. -/
structure ListJ (w : World) (lo : Option Addr) (L : List Int) (lcap : Nat) : Prop where
  at_ : NumsAt w lo L
  le : L.length ≤ lcap
  nil : lo = none → lcap = 0
  spot : ∀ p, lo = some p → 0 < lcap → p.spot = none
theorem ListJ.below {w w' : World} {lo : Option Addr} {L : List Int} {lcap : Nat} (h : ListJ w lo L lcap) (hb : Below w.heap.size w w') : ListJ w' lo L lcap := ⟨h.at_.below hb, h.le, h.nil, h.spot⟩
theorem isPlaceJ_any (o lo : Option Addr) (n cap lcap : Nat) (L : List Int) (a : Int) (w : World) :
    Calls Tryz.prog 58 #[jugV o n cap lo L.length lcap, .int .i64 a] w fun e w' => e = .returned (.bool (placeU L a)) ∧ Below w.heap.size w w' := by
  obtain ⟨k, hk⟩ : ∃ k, L.length = k := ⟨_, rfl⟩
  unfold placeU
  rw [hk]
  clear hk
  have b1 : Below w.heap.size w (w.alloc (jugO o n cap lo k lcap)) := (Below.refl _ _).alloc (Nat.le_refl _) _
  have HB := Lib.hid b1
  clear b1
  by_cases h1 : 1 ≤ a
  · by_cases h2 : a < ((k : Nat) : Int)
    · rw [decide_eq_true h1, decide_eq_true h2]
      have d2 : decide (a < ((k : Nat) : Int)) = true := decide_eq_true h2
      go_enter Tryz.func58, Tryz.ntmps58
      go_wp2
      go_ret
      exact ⟨rfl, HB.out⟩
    · rw [decide_eq_true h1, decide_eq_false h2]
      have d2 : decide (a < ((k : Nat) : Int)) = false := decide_eq_false h2
      go_enter Tryz.func58, Tryz.ntmps58
      go_wp2
      go_ret
      exact ⟨rfl, HB.out⟩
  · rw [decide_eq_false h1, Bool.false_and]
    go_enter Tryz.func58, Tryz.ntmps58
    go_wp2
    go_ret
    exact ⟨rfl, HB.out⟩
/-- What holds between two rounds. -/
structure DecI (w : World) (J : Obj) (a : Int) (X : Nat → Prop) (W : World) (b : Bool) (q : Int) : Prop where
  far : ∀ k, X k → w.heap.size + 4 ≤ k
  below : Below w.heap.size w W
  size : w.heap.size + 4 ≤ W.heap.size
  jb : W.heap[w.heap.size]? = some J
  ab : Boxed W (w.heap.size + 1) 3 (.int .i64 a)
  ib : Boxed W (w.heap.size + 2) 4 (.bool b)
  yb : Boxed W (w.heap.size + 3) 3 (.int .i64 q)
theorem DecI.moves {w : World} {J : Obj} {a : Int} {X X' : Nat → Prop} {A B : World} {b : Bool} {q : Int} (h : DecI w J a X A b q) (hm : Moves X A B) (hX : ∀ k, X' k → (X k ∨ A.heap.size ≤ k) ∧ k < B.heap.size) : DecI w J a X' B b q := by
  have hf := h.far
  have hz := h.size
  have nx : ∀ j, j < w.heap.size + 4 → ¬ X j := fun j hj hx => by have := hf j hx; omega
  refine ⟨?_, Moves.below h.below h.below.size hm (fun k hk => by have := hf k hk; omega), by have := hm.size; omega, row_keep h.jb hm (nx _ (by omega)), row_keep h.ab hm (nx _ (by omega)), row_keep h.ib hm (nx _ (by omega)), row_keep h.yb hm (nx _ (by omega))⟩
  intro k hk
  rcases (hX k hk).1 with h1 | h1
  · exact hf k h1
  · omega
theorem DecI.below' {w : World} {J : Obj} {a : Int} {X : Nat → Prop} {A B : World} {b : Bool} {q : Int} (h : DecI w J a X A b q) (hb : Below A.heap.size A B) (hX : ∀ k, X k → k < A.heap.size) : DecI w J a X B b q :=
  h.moves (Moves.of_below hb) fun k hk => ⟨.inl hk, Nat.lt_of_lt_of_le (hX k hk) hb.size⟩
theorem DecI.set {w : World} {J : Obj} {a : Int} {X : Nat → Prop} {A : World} {b : Bool} {q : Int} (h : DecI w J a X A b q) (c : Bool) (p : Int) : DecI w J a X ((A.setCell ⟨w.heap.size + 1 + 1, 0, none⟩ (.bool c)).setCell ⟨w.heap.size + 1 + 1 + 1, 0, none⟩ (.int .i64 p)) c p := by
  have hm4 : Moves (fun k => k = w.heap.size + 2 ∨ k = w.heap.size + 3) A ((A.setCell ⟨w.heap.size + 1 + 1, 0, none⟩ (.bool c)).setCell ⟨w.heap.size + 1 + 1 + 1, 0, none⟩ (.int .i64 p)) := (Moves.setCell (.inl rfl)).trans (Moves.setCell (.inr rfl))
  refine ⟨h.far, Moves.below h.below h.below.size hm4 (fun k h => by omega), by have := hm4.size; have := h.size; omega, row_keep h.jb hm4 (by omega), row_keep h.ab hm4 (by omega), ?_, ?_⟩
  · exact row_keep (h.ib.set _) (Moves.setCell (S := fun k => k = w.heap.size + 3) rfl) (by omega)
  · exact (show Boxed (A.setCell ⟨w.heap.size + 2, 0, none⟩ (.bool c)) (w.heap.size + 3) 3 (.int .i64 q) from row_keep h.yb (Moves.setCell (S := fun k => k = w.heap.size + 2) (w := A) (a := ⟨w.heap.size + 2, 0, none⟩) (v := .bool c) rfl) (by omega)).set _
set_option maxRecDepth 100000 in
set_option maxHeartbeats 4000000 in
theorem decideJ_any (o lo : Option Addr) (l : List RulX) (cap lcap : Nat) (L : List Int) (a : Int) (hn : l.length ≤ 1000000) (hk : L.length ≤ 100000) (hfw : FewC l) (w : World) (hA : AtC w o l) (hI : ItsC w l) (hL : ListJ w lo L lcap) :
    Calls Tryz.prog 59 #[jugV o l.length cap lo L.length lcap, .int .i64 a] w fun e w' => e = .returned (.tuple #[.bool (firstU L a (l.map plX) 0).1, .int .i64 (firstU L a (l.map plX) 0).2]) ∧ Below w.heap.size w w' := by
  refine (callsIn_wide (n := 6)).1 ?_
  have h1 : 1 ≤ 6 := by omega
  refine callsIn_of_wp_marks Tryz.func59 rfl trivial ?_ rfl
  simp only [Tryz.ntmps59, List.size_toArray, List.length_cons, List.length_nil, Nat.reduceAdd, Nat.reduceSub, Array.replicate_succ, Array.replicate_zero, List.push_toArray, List.append_toArray, List.nil_append, List.cons_append]
  obtain ⟨P, hP⟩ : ∃ P, (fun (e : Ending) w' => e = .returned (.tuple #[.bool (firstU L a (l.map plX) 0).1, .int .i64 (firstU L a (l.map plX) 0).2]) ∧ Below w.heap.size w w') = P := ⟨_, rfl⟩
  have HP := Lib.hid hP
  rw [hP]
  clear hP
  obtain ⟨n, hnn⟩ : ∃ n, l.length = n := ⟨_, rfl⟩
  obtain ⟨k, hkk⟩ : ∃ k, L.length = k := ⟨_, rfl⟩
  have HN := Lib.hid hnn
  have HKK := Lib.hid hkk
  rw [hnn] at hn ⊢
  rw [hkk] at hk ⊢
  have HITS := Lib.hid hI
  have HFW := Lib.hid hfw
  have HLI := Lib.hid hL
  have HAR := Lib.hid hA
  clear hnn hkk hI hfw hL hA
  gi_wp2_with fail
  refine wpIn_wide.2 (wp_scope_straight ((wpIn_wide (n := 6)).1 ?_))
  gi_wp2_with fail
  refine wpIn_label ?_
  gi_wp2_with fail
  refine ⟨trivial, (callsIn_wide.2 (eachJ_any o n cap _)).mono ?_⟩
  rintro e w2 ⟨rfl, hw2⟩
  simp only [World.size_alloc] at hw2 ⊢
  have BW : Below w.heap.size w w2 := by rw [← hw2]; exact (((((Below.refl _ _).alloc (Nat.le_refl _) _).alloc (by simp) _).alloc (by simp; omega) _).alloc (by simp; omega) _).alloc (by simp; omega) _
  have z2 : w2.heap.size = w.heap.size + 5 := by rw [← hw2]; simp
  have J2 : w2.heap[w.heap.size]? = some (jugO o n cap lo k lcap) := by
    rw [← hw2]
    exact ((((Below.heap_alloc _ _ _ (by simp; omega)).trans (Below.heap_alloc _ _ _ (by simp; omega))).trans (Below.heap_alloc _ _ _ (by simp; omega))).trans (Below.heap_alloc _ _ _ (by simp))).trans (heap_alloc_new _ _)
  have R2 : Boxed w2 (w.heap.size + 1) 3 (.int .i64 a) := by
    rw [← hw2]
    have := Boxed.new (w.alloc (jugO o n cap lo k lcap)) 3 (.int .i64 a)
    rw [World.size_alloc] at this
    exact ((this.alloc _).alloc _).alloc _
  have V2 : Boxed w2 (w.heap.size + 2) 4 (.bool true) := by
    rw [← hw2]
    have := Boxed.new ((w.alloc (jugO o n cap lo k lcap)).alloc (.cells #[.int .i64 a] 3)) 4 (.bool true)
    rw [World.size_alloc, World.size_alloc] at this
    exact (this.alloc _).alloc _
  have F2 : Boxed w2 (w.heap.size + 3) 3 (.int .i64 (-1)) := by
    rw [← hw2]
    have := Boxed.new (((w.alloc (jugO o n cap lo k lcap)).alloc (.cells #[.int .i64 a] 3)).alloc (.cells #[.bool true] 4)) 3 (.int .i64 (-1))
    rw [World.size_alloc, World.size_alloc, World.size_alloc] at this
    exact this.alloc _
  have hb : w2.heap[w.heap.size + 1 + 1 + 1 + 1]? = some (.cells #[.slice o n cap] 63 (0, 0)) := by
    rw [← hw2]
    have := heap_alloc_new ((((w.alloc (jugO o n cap lo k lcap)).alloc (.cells #[.int .i64 a] 3)).alloc (.cells #[.bool true] 4)).alloc (.cells #[.int .i64 (-1)] 3)) (.cells #[.slice o n cap] 63)
    simpa using this
  have A2 := HAR.out.below BW
  have hlt : ∀ k, 0 < l.length → inQ o k → k < w.heap.size := fun k h0 hk => HAR.out.lt h0 hk
  clear hw2
  gi_wp2_with fail
  refine wpIn_seqX (n := 6) (Ow := fun _ => False) (Dep := DepJ (w.heap.size + 1 + 1 + 1 + 1) o l) (encs := encJ) (all := l.zipIdx) (by omega) rfl (enters_of Tryz.func90 (by kernel_rfl) rfl) (fun x => rfl) (seqRules (by rw [HN.out]; exact hn) (by rw [HN.out]; exact hb) A2)
    (fun k h => h.elim) (fun k h => by rcases h with h | ⟨h0, h⟩; { omega }; { have := hlt k h0 h; omega })
    (fun X pre W => DecI w (jugO o n cap lo k lcap) a X W true (-1) ∧ ∀ y ∈ l.take pre.length, sideU L a (plX y) = false) (fun c X pre W => c = .exit 0 ∧ ∃ b q, DecI w (jugO o n cap lo k lcap) a X W b q ∧ firstU L a (l.map plX) 0 = (b, q)) ?hI ?hIx ?h0
    (fun b x => { tmps := #[jugV o n cap lo k lcap, .int .i64 a, .pointer (some ⟨w.heap.size, 0, none⟩), .pointer (some ⟨w.heap.size + 1, 0, none⟩), .bool false, .int .i64 0, .pointer (some ⟨w.heap.size + 1 + 1, 0, none⟩), .pointer (some ⟨w.heap.size + 1 + 1 + 1, 0, none⟩), .int .i64 (x.2 : Nat), .pointer (some ⟨b, 0, none⟩), .pointer (some ⟨w.heap.size, 0, none⟩), .slice o n cap, .func (.func 90) #[] #[.pointer (some ⟨w.heap.size + 1 + 1 + 1 + 1, 0, none⟩)], .int .i64 (x.2 : Nat), rulV x.1, undef, undef, undef, undef, undef, undef, undef, undef, undef, undef, undef, undef, undef, undef, undef, undef, undef, undef, undef, undef], defers := [] })
    (fun A x B => A.alloc (rulO x.1) = B) (fun A x B h => by rw [← h]; exact Moves.of_below ((Below.refl _ _).alloc (Nat.le_refl _) _)) ?assign ?body ?done ?stop
  case hI =>
    rintro X X' xs A B ⟨h, hf⟩ hm hX
    exact ⟨h.moves hm hX, hf⟩
  case hIx =>
    rintro c X X' xs A B ⟨rfl, b, q, h, hf⟩ hm hX
    exact ⟨rfl, b, q, h.moves hm hX, hf⟩
  case h0 => exact ⟨⟨fun k h => h.elim, BW, by omega, J2, R2, V2, F2⟩, fun y hy => by simp at hy⟩
  case assign =>
    rintro l x A K hK
    gi_wp2
    rfl
  case body =>
    rintro lp X pre ⟨x, j⟩ A A' W1 hA1 hpx hAB hm hXn hXn1 hXlt ⟨hI, hf⟩
    obtain ⟨hj, hx, -⟩ := zip_preJ hpx
    subst hj
    have hxb : W1.heap[A.heap.size]? = some (rulO x) := by
      have := heap_alloc_new A (rulO x)
      rw [hAB] at this
      exact row_keep this hm (by omega)
    have hXW : ∀ k, X k → k < W1.heap.size := fun k hk => Nat.lt_of_lt_of_le (hXlt k hk) (by have h := hm.size; rw [← hAB, World.size_alloc] at h; omega)
    have hmem : x ∈ l := List.mem_of_getElem? hx
    obtain ⟨⟨i1, l1⟩, i2, l2⟩ := HITS.out x hmem
    obtain ⟨g1, g2⟩ := HFW.out x hmem
    have HR1 := Lib.hid (fun W (hb : Below w.heap.size w W) => Ahead_anyQ x.2.1.1 x.2.1.2.1 lo x.2.1.2.2.1 L x.2.1.2.2.2 lcap a g2 (by rw [HKK.out]; exact hk) HLI.out.le HLI.out.nil HLI.out.spot W (i2.below hb) (HLI.out.at_.below hb))
    have HR2 := Lib.hid (fun W (hb : Below w.heap.size w W) => Behind_anyQ x.1.1 x.1.2.1 lo x.1.2.2.1 L x.1.2.2.2 lcap a g1 (by rw [HKK.out]; exact hk) HLI.out.le W (i1.below hb) (HLI.out.at_.below hb))
    rw [HKK.out] at HR1 HR2
    have nB : ∀ k, k < w.heap.size + 4 → w.heap.size ≤ k → ¬ X k ∧ ¬ DepJ (w.heap.size + 1 + 1 + 1 + 1) o l k := fun k hk hk2 => ⟨fun h => by have := hI.far k h; omega, fun h => by rcases h with h | ⟨h0, h⟩; { omega }; { have := hlt k h0 h; omega }⟩
    have STOP : Hid (∀ W2, Below W1.heap.size W1 W2 → sideU L a (plX x) = true → seqEndX (DepJ (w.heap.size + 1 + 1 + 1 + 1) o l) X (fun X pre W => DecI w (jugO o n cap lo k lcap) a X W true (-1) ∧ ∀ y ∈ l.take pre.length, sideU L a (plX y) = false) (fun c X pre W => c = .exit 0 ∧ ∃ b q, DecI w (jugO o n cap lo k lcap) a X W b q ∧ firstU L a (l.map plX) 0 = (b, q)) (pre ++ [(x, pre.length)]) W1 (.exit 0) ({ tmps := #[], defers := [] } : Act) ((W2.setCell ⟨w.heap.size + 1 + 1, 0, none⟩ (.bool x.2.2)).setCell ⟨w.heap.size + 1 + 1 + 1, 0, none⟩ (.int .i64 (pre.length : Nat)))) := Lib.hid fun W2 hb hyes => by
      have h2 := hI.below' hb hXW
      refine ⟨(Moves.of_below hb).trans (((Moves.setCell (S := fun k => k = w.heap.size + 2 ∨ k = w.heap.size + 3) (.inl rfl)).trans (Moves.setCell (.inr rfl))).mono fun k hk => nB k (by omega) (by omega)), rfl, x.2.2, _, h2.set _ _, ?_⟩
      exact first_at (x := plX x) (by rw [List.getElem?_map, hx]; rfl) (fun y hy => by
        rw [← List.map_take] at hy
        obtain ⟨z, hz, rfl⟩ := List.mem_map.1 hy
        exact hf z hz) hyes
    have NEXT : Hid (∀ W2, Below W1.heap.size W1 W2 → sideU L a (plX x) = false → seqEndX (DepJ (w.heap.size + 1 + 1 + 1 + 1) o l) X (fun X pre W => DecI w (jugO o n cap lo k lcap) a X W true (-1) ∧ ∀ y ∈ l.take pre.length, sideU L a (plX y) = false) (fun c X pre W => c = .exit 0 ∧ ∃ b q, DecI w (jugO o n cap lo k lcap) a X W b q ∧ firstU L a (l.map plX) 0 = (b, q)) (pre ++ [(x, pre.length)]) W1 .normal ({ tmps := #[], defers := [] } : Act) W2) := Lib.hid fun W2 hb hno => by
      refine ⟨Moves.of_below hb, hI.below' hb hXW, fun y hy => ?_⟩
      rw [List.length_append, List.length_singleton, List.take_add_one, hx] at hy
      rcases List.mem_append.1 hy with hy | hy
      · exact hf y hy
      · have : y = x := by simpa using hy
        rw [this]; exact hno
    have HB1W := Lib.hid hI.below
    have HBOX : Hid (∀ W2, Below W1.heap.size W1 W2 → W2.cell? ⟨w.heap.size, 0, none⟩ = some (.slice o n cap) ∧ W2.cell? ⟨w.heap.size, 1, none⟩ = some (.slice lo k lcap) ∧ W2.cell? ⟨w.heap.size + 1, 0, none⟩ = some (.int .i64 a) ∧ W2.cell? ⟨w.heap.size + 1 + 1, 0, none⟩ = some (.bool true) ∧ W2.frozen? ⟨w.heap.size + 1 + 1, 0, none⟩ = false ∧ W2.cell? ⟨w.heap.size + 1 + 1 + 1, 0, none⟩ = some (.int .i64 (-1)) ∧ W2.frozen? ⟨w.heap.size + 1 + 1 + 1, 0, none⟩ = false ∧ w.heap.size + 1 + 1 + 1 < W2.heap.size) := Lib.hid fun W2 hb => by
      have h2 := hI.below' hb hXW
      refine ⟨?_, ?_, h2.ab.cell, h2.ib.cell, h2.ib.frozen, h2.yb.cell, h2.yb.frozen, h2.yb.lt⟩
      · rw [cell_of_row _ _ 0 _ _ _ h2.jb]; rfl
      · rw [cell_of_row _ _ 1 _ _ _ h2.jb]; rfl
    have hu : sideU L a (plX x) = (aheadA x.2.1.1 x.2.1.2.2.1 L a && behindA x.1.1 x.1.2.2.1 L a) := rfl
    have HU := Lib.hid hu
    obtain ⟨⟨s1, p1, xs1, c1⟩, ⟨s2, p2, xs2, c2⟩, br⟩ := x
    obtain ⟨m1, hm1⟩ : ∃ k, xs1.length = k := ⟨_, rfl⟩
    obtain ⟨m2, hm2⟩ : ∃ k, xs2.length = k := ⟨_, rfl⟩
    obtain ⟨u1, hu1⟩ : ∃ b, aheadA s2 xs2 L a = b := ⟨_, rfl⟩
    obtain ⟨u2, hu2⟩ : ∃ b, behindA s1 xs1 L a = b := ⟨_, rfl⟩
    replace hxb : W1.heap[A.heap.size]? = some (.cells #[.bool s1, .slice p1 xs1.length c1, .bool s2, .slice p2 xs2.length c2, .bool br] 37 (0, 0)) := hxb
    simp only [hm1, hm2, hu1, hu2] at hxb HR1 HR2 HU
    obtain ⟨q0, q1, q2, q3, q4⟩ := five_cells hxb
    obtain ⟨v0, v1, v2, v3, v4, v5, v6, v7⟩ := HBOX.out W1 (Below.refl _ _)
    have HXB := Lib.hid hxb
    have HC1 := Lib.hid (HR1.out W1 HB1W.out)
    obtain ⟨pl, hpl⟩ : ∃ pl, pre.length = pl := ⟨_, rfl⟩
    simp only [hpl] at STOP NEXT ⊢
    clear hI hx hf nB hpx hm hXlt hXn hXn1 hxb hAB hA1 hm1 hm2 hu1 hu2 i1 i2 l1 l2 g1 g2 hu hmem hXW hpl hb A2 F2 V2 R2 J2 BW z2
    gi_wp2_with fail
    refine ⟨trivial, CallsIn.inRound lp ((callsIn_wide.2 HC1.out).mono ?_)⟩
    rintro e W2 ⟨rfl, b2⟩
    obtain ⟨t0, t1, t2, t3, t4⟩ := five_cells (row_below HXB.out b2)
    have HB2 := Lib.hid b2
    have HC2 := Lib.hid (HR2.out W2 (HB1W.out.trans (b2.mono HB1W.out.size)))
    clear q0 q1 q2 q3 q4 v0 v1 v2 v3 v4 v5 v6 v7
    obtain ⟨v0, v1, v2, v3, v4, v5, v6, v7⟩ := HBOX.out W2 b2
    cases u1 with
    | false =>
      have HE := Lib.hid (NEXT.out W2 b2 (by rw [HU.out]; rfl))
      clear t0 t1 t2 t3 t4 b2
      gi_wp2_with fail
      exact HE.out
    | true =>
      clear b2
      gi_wp2_with fail
      refine ⟨trivial, CallsIn.inRound lp ((callsIn_wide.2 HC2.out).mono ?_)⟩
      rintro e W3 ⟨rfl, b3⟩
      have HB3 := Lib.hid (HB2.out.trans (b3.mono HB2.out.size))
      clear t0 t1 t2 t3 t4 v0 v1 v2 v3 v4 v5 v6 v7
      obtain ⟨x0, x1, x2, x3, x4⟩ := five_cells (row_below HXB.out HB3.out)
      obtain ⟨v0, v1, v2, v3, v4, v5, v6, v7⟩ := HBOX.out W3 HB3.out
      clear b3
      cases u2 with
      | false =>
        have HE := Lib.hid (NEXT.out W3 HB3.out (by rw [HU.out]; rfl))
        gi_wp2_with fail
        exact HE.out
      | true =>
        have HE := Lib.hid (STOP.out W3 HB3.out (by rw [HU.out]; rfl))
        gi_wp2_with fail
        exact HE.out
  case done =>
    have hfol : Tryz.prog.follows .mixedOrders = true := by kernel_rfl
    rintro X D W hD hXD ⟨hI, hf⟩ hX hK
    have hm : Moves (fun k => k = D) W (W.drew.putObj D (.deferred none)) := (Moves.refl _ _).drew.trans (Moves.putObj rfl)
    have hpost : P (.returned (.tuple #[.bool true, .int .i64 (-1)])) (W.drew.putObj D (.deferred none)) := by
      rw [← HP.out]
      refine ⟨?_, Moves.below hI.below hI.below.size hm (fun k e => by omega)⟩
      rw [List.length_zipIdx, List.take_length] at hf
      rw [first_none fun y hy => by obtain ⟨z, hz, rfl⟩ := List.mem_map.1 hy; exact hf z hz]
    have HPP := Lib.hid hpost
    have hcv : W.cell? ⟨w.heap.size + 1 + 1, 0, none⟩ = some (.bool true) := hI.ib.cell
    have hcf : W.cell? ⟨w.heap.size + 1 + 1 + 1, 0, none⟩ = some (.int .i64 (-1)) := hI.yb.cell
    have hK' : W.drew.heap[D]? = some (.deferred (some [])) := hK
    clear hI hpost hm hX
    gi_wp2
    gi_region
    all_goals
      gi_wp2
      rw [Exit.noGoto_ret]
      refine ⟨by simp, .inl ⟨_, _, rfl, run_takeDeferred hK', ?_⟩⟩
      exact ⟨_, results_tmp2 (t := 4) (u := 5) rfl _ _ _, HPP.out⟩
  case stop =>
    have hfol : Tryz.prog.follows .mixedOrders = true := by kernel_rfl
    rintro X D c pre W hD hXD hpre ⟨rfl, b, q, hI, hf⟩ hX hK
    have hm : Moves (fun k => k = D) W (W.drew.putObj D (.deferred none)) := (Moves.refl _ _).drew.trans (Moves.putObj rfl)
    have hpost : P (.returned (.tuple #[.bool b, .int .i64 q])) (W.drew.putObj D (.deferred none)) := by
      rw [← HP.out]
      refine ⟨?_, Moves.below hI.below hI.below.size hm (fun k e => by omega)⟩
      rw [hf]
    have HPP := Lib.hid hpost
    have hcv : W.cell? ⟨w.heap.size + 1 + 1, 0, none⟩ = some (.bool b) := hI.ib.cell
    have hcf : W.cell? ⟨w.heap.size + 1 + 1 + 1, 0, none⟩ = some (.int .i64 q) := hI.yb.cell
    have hK' : W.drew.heap[D]? = some (.deferred (some [])) := hK
    clear hI hpost hm hX
    gi_wp2
    gi_region
    all_goals
      gi_wp2
      rw [Exit.noGoto_ret]
      refine ⟨by simp, .inl ⟨_, _, rfl, run_takeDeferred hK', ?_⟩⟩
      exact ⟨_, results_tmp2 (t := 4) (u := 5) rfl _ _ _, HPP.out⟩
end Go.Proofs.YtnmhdcbpbaanoaaGreatDoor

namespace Go.Proofs.YtnmhdcbpbaanoaaGreatDoor
open Go.RowKit Go.Extern.Stop Go.Stop Go.Extern Go.Shelf

abbrev tDJ (t : Nat) : Value := .pointer (some ⟨6, t, none⟩)
abbrev rtIJ (t : Nat) : Value := .iface 183 (.agg #[tDJ t])
abbrev vAJ (t : Nat) (p : Addr) (fl : Int) : Value := .agg #[tDJ t, .pointer (some p), .int .u64 fl]

theorem asKindJ (h : Value) (w : World) : (Go.method 404 183 (.agg #[h]) "Kind").run Tryz.prog w = .ok (218, h) w := by kernel_rfl
theorem asElemJ (h : Value) (w : World) : (Go.method 404 183 (.agg #[h]) "Elem").run Tryz.prog w = .ok (233, .agg #[h]) w := by kernel_rfl
theorem asImplementsJ (h : Value) (w : World) : (Go.method 404 183 (.agg #[h]) "Implements").run Tryz.prog w = .ok (234, .agg #[h]) w := by kernel_rfl
theorem asAssignableJ (h : Value) (w : World) : (Go.method 404 183 (.agg #[h]) "AssignableTo").run Tryz.prog w = .ok (231, .agg #[h]) w := by kernel_rfl
theorem asUnwrapPJ (v : Array Value) (w : World) : (Go.method 404 160 (.agg v) "Unwrap").run Tryz.prog w = .ok (229, .agg v) w := by kernel_rfl
theorem asUnwrapLJ (v : Array Value) (w : World) : (Go.method 404 120 (.agg v) "Unwrap").run Tryz.prog w = .ok (224, .agg v) w := by kernel_rfl
theorem rlmJ (z : Sem Value) (f : TypeId → Addr → Nat → Nat → Sem Value) (v : Value) :
    ReflectliteValue.method z f #[v] = (do match ← ReflectliteValue.parts v with | none => z | some (t, a, fl) => f t a fl (fl % 32)) := rfl
theorem rlsJ (v x : Value) : ReflectliteValue.set #[v, x] = (do
    let (some (dst, a, fl), some (src, b, _)) := (← ReflectliteValue.parts v, ← ReflectliteValue.parts x)
      | unsupported (.noEntry "extern/(internal/reflectlite.Value).Set.zeroValue")
    if fl / ReflectliteValue.flagAddr % 2 == 0 then unsupported (.noEntry "extern/(internal/reflectlite.Value).Set.unaddressable")
    let val ← loadVar src b
    if ← Rtype.directlyAssignable dst src then storeVar dst a val
    else if ← Rtype.implements dst src then
      if (← Rtype.kind src) == 20 then
        match val with
        | .nilIface => unsupported (.noEntry "extern/reflectlite: a nil value of one interface type handed on as a value of another")
        | _ => storeVar dst a val
      else storeVar dst a (.iface src val)
    else panicString ("reflectlite.Set: value of type " ++ (← Rtype.spelt src) ++ " is not assignable to type " ++ (← Rtype.spelt dst))
    pure (.tuple #[])) := rfl
theorem valueOfPNJ (t : Addr) (w : World) : (ReflectliteValue.unpack (.iface 90 (.pointer (some t)))).run Tryz.prog w = .ok (vAJ 90 ⟨w.heap.size, 0, none⟩ 150) (w.alloc (.cells #[.pointer (some t)] 90)) := by kernel_rfl
theorem typePNJ (a : Addr) (w : World) : (ReflectliteValue.methodAny (ReflectliteValue.valueError "reflectlite.Value.Type" 0) (fun t _ _ _ => ReflectliteType.toType t) #[vAJ 90 a 150]).run Tryz.prog w = .ok (rtIJ 90) w := by kernel_rfl
theorem kindPNJ (w : World) : ((ReflectliteType.abiMethod fun t => (fun a : Nat => Value.int IntKind.u8 (a : Int)) <$> Rtype.kind t) #[tDJ 90]).run Tryz.prog w = .ok (.int .u8 22) w := by kernel_rfl
theorem kindENJ (w : World) : ((ReflectliteType.abiMethod fun t => (fun a : Nat => Value.int IntKind.u8 (a : Int)) <$> Rtype.kind t) #[tDJ 88]).run Tryz.prog w = .ok (.int .u8 2) w := by kernel_rfl
theorem partsPNJ (a : Addr) (w : World) : (ReflectliteValue.parts (vAJ 90 a 150)).run Tryz.prog w = .ok (some (90, a, 150)) w := by kernel_rfl
theorem isNilPNJ (a p : Addr) (W : World) (ha : W.cell? a = some (.pointer (some p))) :
    (ReflectliteValue.method (ReflectliteValue.valueError "reflectlite.Value.IsNil" 0) ReflectliteValue.isNil #[vAJ 90 a 150]).run Tryz.prog W = .ok (.bool false) W := by
  rw [rlmJ]
  simp only [Sem.run_bind, partsPNJ, Result.andThen]
  simp [ReflectliteValue.isNil, loadVar, isAgg, underlying, Tryz.underlying90, ha, Result.andThen]
theorem elemPNJ (w : World) : (ReflectliteType.method ReflectliteType.elem #[.agg #[tDJ 90]]).run Tryz.prog w = .ok (rtIJ 88) w := by kernel_rfl
theorem implementsNJ (w : World) : (ReflectliteType.relation "Implements" ReflectliteType.implements_ #[.agg #[tDJ 88], rtIJ 58]).run Tryz.prog w = .ok (.bool true) w := by kernel_rfl
theorem typeOfNJ (v : Value) (w : World) : (ReflectliteType.typeOf #[.iface 88 v]).run Tryz.prog w = .ok (rtIJ 88) w := by kernel_rfl
theorem elemOfNJ (w : World) : (Rtype.elem? 90).run Tryz.prog w = .ok (some 88) w := by kernel_rfl
theorem mkNJ (p : Addr) (w : World) : (ReflectliteValue.mk 88 p ReflectliteValue.flagAddr).run Tryz.prog w = .ok (vAJ 88 p 386) w := by kernel_rfl
theorem elemVNJ (a p : Addr) (W : World) (ha : W.cell? a = some (.pointer (some p))) :
    (ReflectliteValue.method (ReflectliteValue.valueError "reflectlite.Value.Elem" 0) ReflectliteValue.elem #[vAJ 90 a 150]).run Tryz.prog W = .ok (vAJ 88 p 386) W := by
  rw [rlmJ]
  simp only [Sem.run_bind, partsPNJ, Result.andThen]
  simp [ReflectliteValue.elem, loadVar, isAgg, underlying, Tryz.underlying90, ha, Result.andThen, elemOfNJ, mkNJ]
theorem partsANJ (a : Addr) (w : World) : (ReflectliteValue.parts (vAJ 88 a 386)).run Tryz.prog w = .ok (some (88, a, 386)) w := by kernel_rfl
theorem partsBNJ (a : Addr) (w : World) : (ReflectliteValue.parts (vAJ 88 a 130)).run Tryz.prog w = .ok (some (88, a, 130)) w := by kernel_rfl
theorem directNJ (w : World) : (Rtype.directlyAssignable 88 88).run Tryz.prog w = .ok true w := by kernel_rfl
theorem noAsNJ (v : Value) (xT : TypeId) (w : World) : (Instr.typeAssert (.iface 88 v) xT 188 true).run Tryz.prog w = .ok (.tuple #[.nilIface, .bool false]) w := run_typeAssert_lacksB Tryz.underlying188 (by kernel_rfl) (by kernel_rfl) v xT w
theorem noUnwrapsNJ (v : Value) (xT : TypeId) (w : World) : (Instr.typeAssert (.iface 88 v) xT 193 true).run Tryz.prog w = .ok (.tuple #[.nilIface, .bool false]) w := run_typeAssert_lacksB Tryz.underlying193 (by kernel_rfl) (by kernel_rfl) v xT w
theorem assignNNJ (w : World) : (ReflectliteType.relation "AssignableTo" ReflectliteType.assignableTo #[.agg #[tDJ 88], rtIJ 88]).run Tryz.prog w = .ok (.bool true) w := by kernel_rfl
theorem assignNLJ (w : World) : (ReflectliteType.relation "AssignableTo" ReflectliteType.assignableTo #[.agg #[tDJ 88], rtIJ 120]).run Tryz.prog w = .ok (.bool false) w := by kernel_rfl
theorem noUnwrapNJ (v : Value) (xT : TypeId) (w : World) : (Instr.typeAssert (.iface 88 v) xT 191 true).run Tryz.prog w = .ok (.tuple #[.nilIface, .bool false]) w := run_typeAssert_lacksB Tryz.underlying191 (by kernel_rfl) (by kernel_rfl) v xT w
theorem valueOfNJ (n : Int) (w : World) : (ReflectliteValue.unpack (.iface 88 (.int .i64 n))).run Tryz.prog w = .ok (vAJ 88 ⟨w.heap.size, 0, none⟩ 130) (w.alloc (.cells #[.int .i64 n] 88)) := by kernel_rfl
theorem typeOfPJ (v : Value) (w : World) : (ReflectliteType.typeOf #[.iface 160 v]).run Tryz.prog w = .ok (rtIJ 160) w := by kernel_rfl
theorem noAsPJ (v : Value) (xT : TypeId) (w : World) : (Instr.typeAssert (.iface 160 v) xT 188 true).run Tryz.prog w = .ok (.tuple #[.nilIface, .bool false]) w := run_typeAssert_lacksB Tryz.underlying188 (by kernel_rfl) (by kernel_rfl) v xT w
theorem noUnwrapsPJ (v : Value) (xT : TypeId) (w : World) : (Instr.typeAssert (.iface 160 v) xT 193 true).run Tryz.prog w = .ok (.tuple #[.nilIface, .bool false]) w := run_typeAssert_lacksB Tryz.underlying193 (by kernel_rfl) (by kernel_rfl) v xT w
theorem assignPNJ (w : World) : (ReflectliteType.relation "AssignableTo" ReflectliteType.assignableTo #[.agg #[tDJ 160], rtIJ 88]).run Tryz.prog w = .ok (.bool false) w := by kernel_rfl
theorem assignPLJ (w : World) : (ReflectliteType.relation "AssignableTo" ReflectliteType.assignableTo #[.agg #[tDJ 160], rtIJ 120]).run Tryz.prog w = .ok (.bool false) w := by kernel_rfl
theorem hasUnwrapPJ (v : Value) (xT : TypeId) (w : World) : (Instr.typeAssert (.iface 160 v) xT 191 true).run Tryz.prog w = .ok (.tuple #[.iface 160 v, .bool true]) w := run_typeAssert_hasB Tryz.underlying191 (by kernel_rfl) v xT w
theorem valueOfPLJ (t : Addr) (w : World) : (ReflectliteValue.unpack (.iface 121 (.pointer (some t)))).run Tryz.prog w = .ok (vAJ 121 ⟨w.heap.size, 0, none⟩ 150) (w.alloc (.cells #[.pointer (some t)] 121)) := by kernel_rfl
theorem typePLJ (a : Addr) (w : World) : (ReflectliteValue.methodAny (ReflectliteValue.valueError "reflectlite.Value.Type" 0) (fun t _ _ _ => ReflectliteType.toType t) #[vAJ 121 a 150]).run Tryz.prog w = .ok (rtIJ 121) w := by kernel_rfl
theorem kindPLJ (w : World) : ((ReflectliteType.abiMethod fun t => (fun a : Nat => Value.int IntKind.u8 (a : Int)) <$> Rtype.kind t) #[tDJ 121]).run Tryz.prog w = .ok (.int .u8 22) w := by kernel_rfl
theorem kindELJ (w : World) : ((ReflectliteType.abiMethod fun t => (fun a : Nat => Value.int IntKind.u8 (a : Int)) <$> Rtype.kind t) #[tDJ 120]).run Tryz.prog w = .ok (.int .u8 25) w := by kernel_rfl
theorem partsPLJ (a : Addr) (w : World) : (ReflectliteValue.parts (vAJ 121 a 150)).run Tryz.prog w = .ok (some (121, a, 150)) w := by kernel_rfl
theorem isNilPLJ (a p : Addr) (W : World) (ha : W.cell? a = some (.pointer (some p))) :
    (ReflectliteValue.method (ReflectliteValue.valueError "reflectlite.Value.IsNil" 0) ReflectliteValue.isNil #[vAJ 121 a 150]).run Tryz.prog W = .ok (.bool false) W := by
  rw [rlmJ]
  simp only [Sem.run_bind, partsPLJ, Result.andThen]
  simp [ReflectliteValue.isNil, loadVar, isAgg, underlying, Tryz.underlying121, ha, Result.andThen]
theorem elemPLJ (w : World) : (ReflectliteType.method ReflectliteType.elem #[.agg #[tDJ 121]]).run Tryz.prog w = .ok (rtIJ 120) w := by kernel_rfl
theorem implementsLJ (w : World) : (ReflectliteType.relation "Implements" ReflectliteType.implements_ #[.agg #[tDJ 120], rtIJ 58]).run Tryz.prog w = .ok (.bool true) w := by kernel_rfl
theorem typeOfLJ (v : Value) (w : World) : (ReflectliteType.typeOf #[.iface 120 v]).run Tryz.prog w = .ok (rtIJ 120) w := by kernel_rfl
theorem elemOfLJ (w : World) : (Rtype.elem? 121).run Tryz.prog w = .ok (some 120) w := by kernel_rfl
theorem mkLJ (p : Addr) (w : World) : (ReflectliteValue.mk 120 p ReflectliteValue.flagAddr).run Tryz.prog w = .ok (vAJ 120 p 409) w := by kernel_rfl
theorem elemVLJ (a p : Addr) (W : World) (ha : W.cell? a = some (.pointer (some p))) :
    (ReflectliteValue.method (ReflectliteValue.valueError "reflectlite.Value.Elem" 0) ReflectliteValue.elem #[vAJ 121 a 150]).run Tryz.prog W = .ok (vAJ 120 p 409) W := by
  rw [rlmJ]
  simp only [Sem.run_bind, partsPLJ, Result.andThen]
  simp [ReflectliteValue.elem, loadVar, isAgg, underlying, Tryz.underlying121, ha, Result.andThen, elemOfLJ, mkLJ]
theorem partsALJ (a : Addr) (w : World) : (ReflectliteValue.parts (vAJ 120 a 409)).run Tryz.prog w = .ok (some (120, a, 409)) w := by kernel_rfl
theorem partsBLJ (a : Addr) (w : World) : (ReflectliteValue.parts (vAJ 120 a 153)).run Tryz.prog w = .ok (some (120, a, 153)) w := by kernel_rfl
theorem directLJ (w : World) : (Rtype.directlyAssignable 120 120).run Tryz.prog w = .ok true w := by kernel_rfl
theorem noAsLJ (v : Value) (xT : TypeId) (w : World) : (Instr.typeAssert (.iface 120 v) xT 188 true).run Tryz.prog w = .ok (.tuple #[.nilIface, .bool false]) w := run_typeAssert_lacksB Tryz.underlying188 (by kernel_rfl) (by kernel_rfl) v xT w
theorem noUnwrapsLJ (v : Value) (xT : TypeId) (w : World) : (Instr.typeAssert (.iface 120 v) xT 193 true).run Tryz.prog w = .ok (.tuple #[.nilIface, .bool false]) w := run_typeAssert_lacksB Tryz.underlying193 (by kernel_rfl) (by kernel_rfl) v xT w
theorem assignLNJ (w : World) : (ReflectliteType.relation "AssignableTo" ReflectliteType.assignableTo #[.agg #[tDJ 120], rtIJ 88]).run Tryz.prog w = .ok (.bool false) w := by kernel_rfl
theorem assignLLJ (w : World) : (ReflectliteType.relation "AssignableTo" ReflectliteType.assignableTo #[.agg #[tDJ 120], rtIJ 120]).run Tryz.prog w = .ok (.bool true) w := by kernel_rfl
theorem hasUnwrapLJ (v : Value) (xT : TypeId) (w : World) : (Instr.typeAssert (.iface 120 v) xT 191 true).run Tryz.prog w = .ok (.tuple #[.iface 120 v, .bool true]) w := run_typeAssert_hasB Tryz.underlying191 (by kernel_rfl) v xT w
theorem valueOfLJ (l : Int) (x : Value) (w : World) : (ReflectliteValue.unpack (.iface 120 (.agg #[.int .i64 l, x]))).run Tryz.prog w = .ok (vAJ 120 ⟨w.heap.size, 0, none⟩ 153) (w.alloc (.cells #[.int .i64 l, x] 120)) := by kernel_rfl
end Go.Proofs.YtnmhdcbpbaanoaaGreatDoor
