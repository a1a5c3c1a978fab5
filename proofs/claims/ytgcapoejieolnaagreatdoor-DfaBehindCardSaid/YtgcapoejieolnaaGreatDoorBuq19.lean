/- Shaken by bunq.py. -/
import Derived.Test.YtgcapoejieolnaaGreatDoorBuq6
import Derived.Test.YtgcapoejieolnaaGreatDoorBuq18
import Derived.Test.YtgcapoejieolnaaGreatDoorBuq16
import Derived.Test.YtgcapoejieolnaaGreatDoorBuq17
import Derived.Test.YtgcapoejieolnaaGreatDoorBuq12
import Derived.Test.YtgcapoejieolnaaGreatDoorBuq9
import Derived.Test.YtgcapoejieolnaaGreatDoorCards
import Derived.Test.YtgcapoejieolnaaGreatDoorTie
import Derived.Test.YtgcapoejieolnaaGreatDoorChecked
import Derived.ProofKit
import Derived.OpenShut
import Derived.Below
import Derived.ChangeSame
import Derived.ChangeMaps5
import Derived.Carry
import Derived.Deep.DeepHandedRow
import Derived.Deep.DeepWitnessRowRef
import Derived.LaidSub
import Derived.LaidHandle
import Derived.Lay
import Derived.MakeChecks
import Derived.Shelf.Vars
import Derived.LaidMore
import Derived.Stop.LaidTwo
namespace Go.Proofs.YtgcapoejieolnaaGreatDoor
open Go.RowKit Go.Shelf Go.Maps
attribute [local go_sem] Oper.semAt_some

def NewQ (lo : Option Addr) (ln lcap : Nat) (back : Bool) (ys : List ItemP) (w : World) (e : Ending) (w' : World) : Prop := ∃ M b o cap, w.heap.size ≤ M ∧ b ≠ M ∧ (0 < ys.length → ∀ k, inQ o k → k ≠ M) ∧ e = .returned (mV M) ∧ MatAt w' M (.slice lo ln lcap) back (.slice o ys.length cap) zeroF zeroF (.map (some b)) ∧ AtI w' o ys ∧ FitMap w' b M ∧ Below w.heap.size w w'
set_option maxHeartbeats 2000000 in
theorem back_any (o lo : Option Addr) (xs : List ItemP) (cap ln lcap : Nat) (hn : xs.length ≤ 1000) (w : World) (hA : AtI w o xs) :
    Calls Tryz.prog 55 #[.slice o xs.length cap, .slice lo ln lcap] w (NewQ lo ln lcap true xs.reverse w) := by
  have HC := Lib.hid (clone_any o xs cap hn w hA)
  have HL := Lib.hid (show xs.reverse.length = xs.length from List.length_reverse)
  obtain ⟨P, hP⟩ : ∃ P, NewQ lo ln lcap true xs.reverse w = P := ⟨_, rfl⟩
  have HP := Lib.hid hP
  rw [hP]
  have FIN : Hid (∀ (o1 : Option Addr) (c1 : Nat) (W : World), AtI W o1 xs.reverse → Below w.heap.size w W → Calls Tryz.prog 91 #[.agg #[.slice lo ln lcap, .bool true], .slice o1 xs.length c1] W fun e W' => ∃ M, e = .returned (mV M) ∧ P (.returned (mV M)) W') := Lib.hid fun o1 c1 W h1 hb => by
    refine (matcherOf_any lo ln lcap true o1 xs.length c1 W).mono ?_
    rintro e w2 ⟨M, b, h2, h3, h4, rfl, h5, h6, h7⟩
    refine ⟨M, rfl, ?_⟩
    rw [← HP.out]
    exact ⟨M, b, o1, c1, by have := hb.size; omega, h4, fun h0 k hk => by have := h1.lt h0 hk; omega, rfl, by rw [HL.out]; exact h5, h1.below h7, h6, hb.trans (h7.mono hb.size)⟩
  have RV : Hid (∀ (o1 : Option Addr) (c1 : Nat) (W : World), W.ownsRow w.heap.size 88 2 (.slice o1 xs.length c1) xs.length (cellsI xs) → Below w.heap.size w W → Calls Tryz.prog 90 #[.slice o1 xs.length c1] W fun e W' => (∃ v, e = .returned v) ∧ AtI W' o1 xs.reverse ∧ Below w.heap.size w W') := Lib.hid fun o1 c1 W ho hb => by
    rcases Nat.eq_zero_or_pos xs.length with h0 | h0
    · obtain rfl := List.eq_nil_of_length_eq_zero h0
      refine (reverse_none o1 c1 W).mono ?_
      rintro e w2 ⟨hv, rfl⟩
      exact ⟨hv, fun h => absurd h (Nat.not_lt_zero _), hb⟩
    · obtain ⟨g, rfl, hg, hr⟩ := rowI_own ho h0
      refine (reverse_any g xs c1 (by omega) h0 W hr).mono ?_
      rintro e w2 ⟨hv, h2, h3⟩
      exact ⟨hv, h2.atI, Moves.below hb hb.size h3 (fun k e => by omega)⟩
  obtain ⟨n, hnn⟩ : ∃ n, xs.length = n := ⟨_, rfl⟩
  unfold CloneQ at HC
  rw [hnn] at HC FIN RV ⊢
  clear hP hA hnn hn HL
  go_enter Tryz.func55, Tryz.ntmps55
  go_wp2_with fail
  refine HC.out.mono ?_
  rintro e w2 ⟨o1, c1, rfl, ho, hb⟩
  have R2 := Lib.hid (RV.out o1 c1 w2 ho hb)
  clear ho hb
  go_wp2_with fail
  refine R2.out.mono ?_
  rintro e w3 ⟨⟨v, rfl⟩, ha, hb⟩
  have F3 := Lib.hid (FIN.out o1 c1 w3 ha hb)
  clear ha hb
  go_wp2_with fail
  refine F3.out.mono ?_
  rintro e w4 ⟨M, rfl, hp⟩
  have HQ := Lib.hid hp
  clear hp
  go_wp2
  first | exact HQ.out | (go_ret; exact HQ.out)
theorem isPlace_any (at_ : Int) (o : Option Addr) (n cap : Nat) (w : World) : Calls Tryz.prog 54 #[.int .i64 at_, .slice o n cap] w fun e w' => e = .returned (.bool (decide (0 ≤ at_ ∧ at_ ≤ (n : Nat)))) ∧ w = w' := by
  by_cases h0 : 0 ≤ at_
  · by_cases h1 : at_ ≤ ((n : Nat) : Int)
    · have hd : decide (0 ≤ at_ ∧ at_ ≤ (n : Nat)) = true := decide_eq_true ⟨h0, h1⟩
      rw [hd]
      clear hd
      go_enter Tryz.func54, Tryz.ntmps54
      go_wp2
      go_ret
      exact ⟨rfl, rfl⟩
    · have hd : decide (0 ≤ at_ ∧ at_ ≤ (n : Nat)) = false := decide_eq_false (fun h => h1 h.2)
      rw [hd]
      clear hd
      go_enter Tryz.func54, Tryz.ntmps54
      go_wp2
      go_ret
      exact ⟨rfl, rfl⟩
  · have hd : decide (0 ≤ at_ ∧ at_ ≤ (n : Nat)) = false := decide_eq_false (fun h => h0 h.1)
    rw [hd]
    clear hd
    go_enter Tryz.func54, Tryz.ntmps54
    go_wp2
    go_ret
    exact ⟨rfl, rfl⟩
theorem fits_new {lo : Option Addr} {l : List Int} {lcap : Nat} {back : Bool} {ys : List ItemP} {w w2 : World} {e : Ending} (whole : Bool) (hn : ys.length ≤ 10) (hw : howP ys) (hl : l.length ≤ 1000000) (hL : NumsAt w lo l) (h : NewQ lo l.length lcap back ys w e w2) :
    ∃ M, e = .returned (mV M) ∧ Below w.heap.size w w2 ∧ Calls Tryz.prog 56 #[mV M, .bool whole] w2 fun e w' => e = .returned (.bool (fitsG whole ys (listN back l))) ∧ Below w.heap.size w w' := by
  obtain ⟨M, b, o, cap, h1, h2, h3, rfl, h4, h5, h6, h7⟩ := h
  refine ⟨M, rfl, h7, (fits_any b M cap lcap o lo back whole ys l zeroF zeroF w2 hn hw hl h5 (hL.below h7) h6 h2 h3 (fun h0 k hk => by have := hL.ltQ h0 hk; omega) h4).mono ?_⟩
  rintro e w3 ⟨rfl, hm⟩
  exact ⟨rfl, Moves.below h7 h7.size hm (fun k e => by omega)⟩
end Go.Proofs.YtgcapoejieolnaaGreatDoor
namespace Go.Proofs.YtgcapoejieolnaaGreatDoor
open Go.RowKit Go.Shelf Go.Maps
attribute [local go_sem] Oper.semAt_some

theorem NumsAt.takeQ {w : World} {o : Option Addr} {l : List Int} (h : NumsAt w o l) (k : Nat) : NumsAt w o (l.take k) := fun hn => by
  rw [List.length_take] at hn
  obtain ⟨g, off, ho, hc⟩ := h (by omega)
  refine ⟨g, off, ho, fun j x hx => hc j x ?_⟩
  rw [List.getElem?_take] at hx
  split at hx
  · exact hx
  · cases hx
theorem behindA_some {start : Bool} {xs : List ItemP} {l : List Int} {a : Nat} (hr : rightB xs 32 = true) (ha : a ≤ l.length) : behindA start xs l ((a : Nat) : Int) = fitsG start xs.reverse (listN true (l.take a)) := by
  have hw := rightB_how hr
  unfold behindA fitsG listN
  rw [hr, decide_eq_true (show (0 : Int) ≤ ((a : Nat) : Int) ∧ ((a : Nat) : Int) ≤ (l.length : Nat) by omega), Int.toNat_natCast]
  cases start with
  | true =>
    simp only [if_true, Bool.true_and]
    rw [back_all hw]
  | false =>
    simp only [if_true, Bool.true_and, Bool.false_eq_true, if_false]
    rw [back_some hw ha]
theorem behindA_right {start : Bool} {xs : List ItemP} {l : List Int} {at_ : Int} (hr : rightB xs 32 = false) : behindA start xs l at_ = false := by
  unfold behindA
  rw [hr]
  rfl
theorem behindA_place {start : Bool} {xs : List ItemP} {l : List Int} {at_ : Int} (h : ¬ (0 ≤ at_ ∧ at_ ≤ l.length)) : behindA start xs l at_ = false := by
  unfold behindA
  rw [decide_eq_false h, Bool.and_false]
  rfl
set_option maxRecDepth 100000 in
set_option maxHeartbeats 4000000 in
theorem Behind_anyQ (start : Bool) (o lo : Option Addr) (xs : List ItemP) (l : List Int) (cap lcap : Nat) (at_ : Int) (hn : xs.length ≤ 1000) (hl : l.length ≤ 100000) (hlc : l.length ≤ lcap) (w : World) (hA : AtI w o xs) (hL : NumsAt w lo l) :
    Calls Tryz.prog 27 #[patV start o xs.length cap, .slice lo l.length lcap, .int .i64 at_] w fun e w' => e = .returned (.bool (behindA start xs l at_)) ∧ Below w.heap.size w w' := by
  obtain ⟨w1, hw1⟩ : ∃ w1, w.alloc (patO start o xs.length cap) = w1 := ⟨_, rfl⟩
  have b1 : Below w.heap.size w w1 := by rw [← hw1]; exact (Below.refl _ _).alloc (Nat.le_refl _) _
  have r1 : w1.heap[w.heap.size]? = some (patO start o xs.length cap) := by rw [← hw1]; exact heap_alloc_new _ _
  have HR := Lib.hid (Right_anyQ start o xs cap 32 (by omega) w1 (hA.below b1))
  obtain ⟨P, hP⟩ : ∃ P, (fun (e : Ending) w' => e = .returned (.bool (behindA start xs l at_)) ∧ Below w.heap.size w w') = P := ⟨_, rfl⟩
  have HP := Lib.hid hP
  rw [hP]
  have HW1 := Lib.hid hw1
  have HB1 := Lib.hid b1
  have R1 := Lib.hid r1
  obtain ⟨q0, q1⟩ := pat_cells r1
  cases hr : rightB xs 32 with
  | false =>
    rw [hr] at HR
    have HQ : Hid (∀ W, Below w1.heap.size w1 W → P (.returned (.bool false)) W) := Lib.hid fun W hb => by
      rw [← HP.out]
      exact ⟨by rw [behindA_right hr], HB1.out.trans (hb.mono HB1.out.size)⟩
    obtain ⟨n, hnn⟩ : ∃ n, xs.length = n := ⟨_, rfl⟩
    obtain ⟨m, hmm⟩ : ∃ m, l.length = m := ⟨_, rfl⟩
    rw [hnn] at HR q1 HW1 R1 ⊢
    rw [hmm] at ⊢
    clear hP hw1 b1 r1 hA hL hnn hmm hn hl hlc hr
    go_enter Tryz.func27, Tryz.ntmps27
    go_wp2_with fail
    rw [HW1.out]
    refine HR.out.mono ?_
    rintro e w2 ⟨rfl, b2⟩
    have HQ2 := Lib.hid (HQ.out w2 b2)
    clear b2
    go_wp2
    first | exact HQ2.out | (go_ret; exact HQ2.out)
  | true =>
    rw [hr] at HR
    by_cases hp : 0 ≤ at_ ∧ at_ ≤ ((l.length : Nat) : Int)
    · obtain ⟨a, rfl⟩ := Int.eq_ofNat_of_zero_le hp.1
      have hal : a ≤ l.length := by omega
      have hlt : (l.take a).length = a := by rw [List.length_take]; omega
      have PL : Hid (∀ W, Calls Tryz.prog 54 #[.int .i64 (a : Nat), .slice lo l.length lcap] W fun e w' => e = .returned (.bool true) ∧ W = w') := Lib.hid fun W => by
        have := isPlace_any ((a : Nat) : Int) lo l.length lcap W
        rwa [decide_eq_true hp] at this
      have BO : Hid (∀ W, Below w1.heap.size w1 W → Calls Tryz.prog 55 #[.slice o xs.length cap, .slice lo a lcap] W fun e w3 => ∃ M, e = .returned (mV M) ∧ w3.cell? ⟨w.heap.size, 0, none⟩ = some (.bool start) ∧ w3.cell? ⟨w.heap.size, 1, none⟩ = some (.slice o xs.length cap) ∧ Hid (Calls Tryz.prog 56 #[mV M, .bool start] w3 fun e w' => ∃ b, e = .returned (.bool b) ∧ P (.returned (.bool b)) w')) := Lib.hid fun W hb => by
        have hbw := HB1.out.trans (hb.mono HB1.out.size)
        have h1 := back_any o lo xs cap (l.take a).length lcap hn W (hA.below hbw)
        rw [hlt] at h1
        refine h1.mono fun e w3 hq => ?_
        rw [← hlt] at hq
        obtain ⟨M, he, hb2, hc⟩ := fits_new start (by rw [List.length_reverse]; exact (rightB_parts hr).2.1) (howP_reverse (rightB_how hr)) (by rw [hlt]; omega) ((hL.takeQ a).below hbw) hq
        obtain ⟨p0, p1⟩ := pat_cells (row_below (row_below R1.out hb) hb2)
        refine ⟨M, he, p0, p1, Lib.hid (hc.mono ?_)⟩
        rintro e w' ⟨rfl, h2⟩
        refine ⟨_, rfl, ?_⟩
        rw [← HP.out]
        exact ⟨by rw [behindA_some hr hal], hbw.trans (h2.mono hbw.size)⟩
      obtain ⟨n, hnn⟩ : ∃ n, xs.length = n := ⟨_, rfl⟩
      obtain ⟨m, hmm⟩ : ∃ m, l.length = m := ⟨_, rfl⟩
      rw [hnn] at HR q1 HW1 R1 BO ⊢
      rw [hmm] at PL hlc hal hl ⊢
      have hac : a ≤ lcap := by omega
      clear hP hw1 b1 r1 hA hL hnn hmm hn hr hp hlt
      go_enter Tryz.func27, Tryz.ntmps27
      go_wp2_with fail
      rw [HW1.out]
      refine HR.out.mono ?_
      rintro e w2 ⟨rfl, b2⟩
      obtain ⟨p0, p1⟩ := pat_cells (row_below R1.out b2)
      have BO2 := Lib.hid (BO.out w2.drew b2.drew)
      clear b2 q0 q1
      go_wp2_with fail
      refine (PL.out _).mono ?_
      rintro e w2' ⟨rfl, rfl⟩
      go_wp2_with fail
      go_region_with (first | (go_at_call 55; refine BO2.out.mono ?_; rintro e w3 ⟨M, rfl, s0, s1, HC⟩) | (go_at_call 56; refine HC.out.mono ?_; rintro e w4 ⟨b, rfl, hp⟩))
      all_goals
        go_simp
        have HQ2 := Lib.hid hp
        clear hp
        go_wp2
        first | exact HQ2.out | (go_ret; exact HQ2.out)
    · have PL : Hid (∀ W, Calls Tryz.prog 54 #[.int .i64 at_, .slice lo l.length lcap] W fun e w' => e = .returned (.bool false) ∧ W = w') := Lib.hid fun W => by
        have := isPlace_any at_ lo l.length lcap W
        rwa [decide_eq_false hp] at this
      have HQ : Hid (∀ W, Below w1.heap.size w1 W → P (.returned (.bool false)) W) := Lib.hid fun W hb => by
        rw [← HP.out]
        exact ⟨by rw [behindA_place hp], HB1.out.trans (hb.mono HB1.out.size)⟩
      obtain ⟨n, hnn⟩ : ∃ n, xs.length = n := ⟨_, rfl⟩
      obtain ⟨m, hmm⟩ : ∃ m, l.length = m := ⟨_, rfl⟩
      rw [hnn] at HR q1 HW1 R1 ⊢
      rw [hmm] at PL ⊢
      clear hP hw1 b1 r1 hA hL hnn hmm hn hl hlc hr hp
      go_enter Tryz.func27, Tryz.ntmps27
      go_wp2_with fail
      rw [HW1.out]
      refine HR.out.mono ?_
      rintro e w2 ⟨rfl, b2⟩
      have HQ2 := Lib.hid (HQ.out w2 b2)
      clear b2
      go_wp2_with fail
      refine (PL.out _).mono ?_
      rintro e w2' ⟨rfl, rfl⟩
      go_wp2
      first | exact HQ2.out | (go_ret; exact HQ2.out)
end Go.Proofs.YtgcapoejieolnaaGreatDoor
namespace Go.Proofs.YtgcapoejieolnaaGreatDoor
open Go.RowKit Go.Shelf Go.Maps

theorem int_ownB {W : World} {base k : Nat} {v : Value} {xs : List Value} (q : Int) (ho : W.ownsRow base 3 1 v k xs) (hk : k ≤ 2000000) (hbase : base ≤ W.heap.size) :
    ∃ g cap w6, (appSem #[34, 34] 34 #[v, .slice (some ⟨W.heap.size, 0, none⟩) 1 1]).run Tryz.prog (W.alloc (.cells #[.int .i64 q] 3)) = .ok (.slice (some ⟨g, 0, none⟩) (k + 1) cap) w6 ∧
      w6.ownsRow base 3 1 (.slice (some ⟨g, 0, none⟩) (k + 1) cap) (k + 1) (xs ++ [.int .i64 q]) ∧ (W.alloc (.cells #[.int .i64 q] 3)).grownBy w6 v.ownBlock := by
  obtain ⟨i0, hi, hz0, hz1, hz2⟩ := info_parts infoIntH
  have hb : Below W.heap.size W (W.alloc (.cells #[.int .i64 q] 3)) := (Below.refl _ _).alloc (Nat.le_refl _) _
  obtain ⟨v', w6, hr, h2, h3, h4, h5⟩ := run_append_own_at (P := Tryz.prog) _ base 34 34 3 i0 (.int .i64 0) 1 8 Tryz.underlying34 hi hz0 hz1 hz2 rfl (by decide) v k xs (own_below ho hb) ⟨W.heap.size, 0, none⟩ 1 1 [.int .i64 q] rfl
    (cell_one_new _ _ _) (by simp [Value.oneCell']) (by unfold maxLen; omega) (by omega) (by simp; omega)
  obtain ⟨g, cap, rfl⟩ := ownsRow_succ h2
  exact ⟨g, cap, w6, hr, h2, h3⟩
def gotB (l : List RulX) (N : Nat) (L : List Int) (k : Nat) : List Bool := doneB (l.map leftX) (setsB (l.map leftX) ((N : Nat) : Int) (L.take k))
def fitsBD (l : List RulX) (N : Nat) (L : List Int) : List Int := (List.range (L.length + 1)).map fun k => ((bitsD (gotB l N L k) : Nat) : Int)
theorem fitsBD_len (l : List RulX) (N : Nat) (L : List Int) : (fitsBD l N L).length = L.length + 1 := by unfold fitsBD; rw [List.length_map, List.length_range]
theorem fitsBD_at (l : List RulX) (N : Nat) (L : List Int) {k : Nat} (hk : k ≤ L.length) : (fitsBD l N L)[k]? = some ((bitsD (gotB l N L k) : Nat) : Int) := by
  unfold fitsBD
  rw [List.getElem?_map, List.getElem?_range (by omega)]
  rfl
theorem gotB_len (l : List RulX) (N : Nat) (L : List Int) (k : Nat) : (gotB l N L k).length = l.length := by
  unfold gotB
  rw [doneB_setsB_len, List.length_map]
theorem fits_row {l : List RulX} {N : Nat} (h : (finD (l.map leftX) N).1.length ≤ 300) (L : List Int) {R : List (List Int)} {F : List Int} (hR : R = finR (l.map leftX) N) (hF : F = finF (l.map leftX) N) :
    (allD R ((N : Nat) : Int) L).map (fun s : Nat => Value.int .i64 (F[s]?.getD 0)) = (fitsBD l N L).map (Value.int .i64) := by
  unfold allD fitsBD
  rw [List.map_map, List.map_map]
  refine List.map_congr_left fun k _ => ?_
  have h1 := fin_at h (L.take k)
  rw [← hR] at h1
  show Value.int .i64 (F[stD' R ((N : Nat) : Int) (L.take k)]?.getD 0) = Value.int .i64 ((bitsD (gotB l N L k) : Nat) : Int)
  rw [hF]
  unfold finF doneP
  rw [List.getElem?_map, h1]
  rfl
theorem bitsD_small {B : List Bool} (h : B.length ≤ 6) (i : Nat) : bitsD (B.drop i) < 64 := by
  have h1 := bitsD_lt (B.drop i)
  have h2 : 2 ^ (B.drop i).length ≤ 2 ^ 6 := Nat.pow_le_pow_right (by decide) (by rw [List.length_drop]; omega)
  have h3 : (2 : Nat) ^ 6 = 64 := by decide
  omega
theorem rem_b {y : Nat} {b : Bool} (h : y % 2 = (if b then 1 else 0)) : ((y : Nat) : Int).tmod 2 = (if b then 1 else 0) ∧ (((y : Nat) : Int) % 2 == 1) = b := by
  rw [Int.tmod_eq_emod_of_nonneg (Int.natCast_nonneg _)]
  cases b with
  | true =>
    rw [if_pos rfl] at h ⊢
    exact ⟨by omega, by rw [beq_iff_eq]; omega⟩
  | false =>
    rw [if_neg (by decide)] at h ⊢
    exact ⟨by omega, by rw [beq_eq_false_iff_ne]; omega⟩
theorem div_b {y z : Nat} (h : y / 2 = z) (hy : y < 64) : ((y : Nat) : Int).tdiv 2 = ((z : Nat) : Int) ∧ ((y : Nat) : Int) / 2 = ((z : Nat) : Int) ∧ z ≤ 64 ∧ wrap64 ((z : Nat) : Int) = ((z : Nat) : Int) := by
  rw [Int.tdiv_eq_ediv_of_nonneg (Int.natCast_nonneg _)]
  exact ⟨by omega, by omega, by omega, wrap_idK (by omega) (by omega)⟩
theorem got_bit {l : List RulX} {N : Nat} (hr : leftsL N l) {L : List Int} {k : Nat} (hk : k ≤ L.length) {j : Nat} {x : RulX} (hx : l[j]? = some x) :
    (gotB l N L k)[j]? = some (behindA x.1.1 x.1.2.2.1 (L.map (kwD ((N : Nat) : Int))) ((k : Nat) : Int)) := fits_bit hr hk hx
theorem FitsB_any (m : MachX) (l : List RulX) (N : Nat) (n : Int) (hn : n = ((N : Nat) : Int)) (lo : Option Addr) (L : List Int) (lcap : Nat) (hB : m.B n = true) (hll : L.length ≤ 1000) (h : (finD (l.map leftX) N).1.length ≤ 300) (hm1 : m.rows.map (·.2.1) = finR (l.map leftX) N) (hm2 : m.fits = finF (l.map leftX) N)
    (w : World) (aR aM : Addr) (hG : GlobD w aR aM) (hM : MachD w m) (hL : NumsAt w lo L) :
    Calls Tryz.prog 17 #[m.v, .int .i64 n, .slice lo L.length lcap] w fun e w' => ∃ o' cap', e = .returned (.tuple #[.slice o' (L.length + 1) cap', .int .i64 0]) ∧ NumsAt w' o' (fitsBD l N L) ∧ Below w.heap.size w w' := by
  subst hn
  refine (FitsD_right m _ lo L lcap hB hll w aR aM hG hM hL).mono ?_
  rintro e w' ⟨o', cap', rfl, ho, hb⟩
  refine ⟨o', cap', rfl, ?_, hb⟩
  rw [fits_row h L hm1 hm2, ← fitsBD_len l N L] at ho
  exact nums_ownZ ho
end Go.Proofs.YtgcapoejieolnaaGreatDoor
namespace Go.Proofs.YtgcapoejieolnaaGreatDoor
open Go.RowKit Go.Shelf Go.Maps
attribute [local go_sem] Oper.semAt_some
attribute [local go_sem ↓] app_hide

theorem take_mapB {L : List Int} {f : Int → Int} {j : Nat} {c : Int} (h : L[j]? = some c) : ((L.map f).take (j + 1)).map (Value.int .i64) = ((L.map f).take j).map (Value.int .i64) ++ [.int .i64 (f c)] := by
  rw [List.take_add_one, List.getElem?_map, h, List.map_append]
  rfl
set_option maxRecDepth 100000 in
set_option maxHeartbeats 8000000 in
theorem dfaBehind_anyL (o lo : Option Addr) (l : List RulX) (cap : Nat) (n : Int) (L : List Int) (lcap : Nat) (hlc : L.length ≤ lcap) (w : World) (aR aM aP aS : Addr) (hG : GlobD w aR aM) (hQ : GlobH w aP aS) (hA : AtC w o l) (hI : ItsC w l) (hL : NumsAt w lo L) :
    Calls Tryz.prog 5 #[.slice o l.length cap, .int .i64 n, .slice lo L.length lcap] w fun e w' => e = .returned (.bool true) ∧ Below w.heap.size w w' := by
  obtain ⟨P, hP⟩ : ∃ P, (fun (e : Ending) (w' : World) => e = .returned (.bool true) ∧ Below w.heap.size w w') = P := ⟨_, rfl⟩
  have HPP : Hid (∀ W, Below w.heap.size w W → P (.returned (.bool true)) W) := by rw [← hP]; exact Lib.hid fun W h => ⟨rfl, h⟩
  rw [hP]
  have HSH := Lib.hid (shown12_any w aR aM aP aS hG hQ)
  have HFW := Lib.hid (fun W (hb : Below w.heap.size w W) => few12_any o l cap W (hA.below hb) (hI.below hb))
  have HLI := Lib.hid (fun W => list12_any lo L.length lcap hlc W)
  have hl30 : (L.take 30).length = min L.length 30 := by rw [List.length_take]; omega
  have HLL := Lib.hid (fun W (hb : Below w.heap.size w W) => (hL.takeQ 30).below hb)
  rw [← hl30] at HLI
  obtain ⟨Lk, hLk⟩ : ∃ q, L.take 30 = q := ⟨_, rfl⟩
  rw [hLk] at HLI HLL hl30
  have hlk : Lk.length ≤ 30 := by rw [hl30]; omega
  have HFF := Lib.hid (fewC_S l)
  have hfl := fewS_len l
  obtain ⟨F, hF⟩ : ∃ q, fewS l = q := ⟨_, rfl⟩
  rw [hF] at HFW HFF hfl
  have HCW := Lib.hid (fun (o' : Option Addr) (c' : Nat) W (hb : Below w.heap.size w W) (hA' : AtC W o' F) (hI' : ItsC W F) => Comp12_any o' F c' n (by omega) HFF.out W aR aM aP aS (hG.below hb) (hQ.below hb) hA' hI')
  have HRJ := Lib.hid (fun (o' : Option Addr) (c' : Nat) W (hA' : AtC W o' F) (hI' : ItsC W F) => RightJ_any o' F c' n (by omega) HFF.out W hA' hI')
  have HFI := Lib.hid (fun (m : MachX) (N : Nat) (hn : n = ((N : Nat) : Int)) (hB : m.B n = true) (h300 : (finD (F.map leftX) N).1.length ≤ 300) (hm1 : m.rows.map (·.2.1) = finR (F.map leftX) N) (hm2 : m.fits = finF (F.map leftX) N) W (hb : Below w.heap.size w W) (hM : MachD W m) =>
    FitsB_any m F N n hn lo Lk lcap hB (by omega) h300 hm1 hm2 W aR aM (hG.below hb) hM (HLL.out W hb))
  obtain ⟨nl, hnl⟩ : ∃ q, l.length = q := ⟨_, rfl⟩
  rw [hnl] at HFW ⊢
  obtain ⟨ll, hll⟩ : ∃ q, L.length = q := ⟨_, rfl⟩
  rw [hll] at HLI ⊢
  obtain ⟨nf, hnf⟩ : ∃ q, F.length = q := ⟨_, rfl⟩
  have HNF := Lib.hid hnf
  rw [hnf] at HFW HCW HRJ hfl
  obtain ⟨q, hq⟩ : ∃ q, Lk.length = q := ⟨_, rfl⟩
  have HNQ := Lib.hid hq
  rw [hq] at HLI HFI hlk
  clear hP hG hQ hA hI hL hF hnl hll hnf hq hLk hl30 hlc
  go_enter Tryz.func5, Tryz.ntmps5
  go_wp2_with fail
  refine HSH.out.mono ?_
  rintro e w1 ⟨rfl, b1⟩
  have HB1 := Lib.hid b1
  clear b1 HSH
  go_wp2_with fail
  refine (HFW.out w1 HB1.out).mono ?_
  rintro e w2 ⟨o2, c2, rfl, ho, hi, _, b2⟩
  have HB2 := Lib.hid (HB1.out.trans (b2.mono HB1.out.size))
  have HA2 := Lib.hid ho
  have HI2 := Lib.hid hi
  have HL2 := Lib.hid (HLI.out w2)
  have HC2 := Lib.hid (HCW.out o2 c2 w2 HB2.out ho hi)
  clear ho hi b2 HFW HCW HB1 HLI
  go_wp2_with fail
  refine HL2.out.mono ?_
  rintro e _ ⟨rfl, rfl⟩
  go_wp2_with fail
  refine HC2.out.mono ?_
  rintro e w3 ⟨m, code, rfl, hC, b3⟩
  obtain ⟨w4, hw4⟩ : ∃ w4, w3.alloc (.cells #[.slice m.no m.rows.length m.nc, .slice m.fo m.fits.length m.fc] 28) = w4 := ⟨_, rfl⟩
  have b4 : Below w3.heap.size w3 w4 := by rw [← hw4]; exact (Below.refl _ _).alloc (Nat.le_refl _) _
  have r4 : w4.heap[w3.heap.size]? = some (.cells #[.slice m.no m.rows.length m.nc, .slice m.fo m.fits.length m.fc] 28 (0, 0)) := by rw [← hw4]; exact heap_alloc_new _ _
  have b24 : Below w2.heap.size w2 w4 := b3.trans (b4.mono b3.size)
  have HB4 := Lib.hid (HB2.out.trans (b24.mono HB2.out.size))
  have HQ4 := Lib.hid (fun W (hb : Below w4.heap.size w4 W) => HPP.out W (HB4.out.trans (hb.mono HB4.out.size)))
  have HA4 := Lib.hid (fun W (hb : Below w4.heap.size w4 W) => (HA2.out.below b24).below hb)
  have HI4 := Lib.hid (fun W (hb : Below w4.heap.size w4 W) => (HI2.out.below b24).below hb)
  have HR4 := Lib.hid (HRJ.out o2 c2 w4 (HA4.out w4 (Below.refl _ _)) (HI4.out w4 (Below.refl _ _)))
  have HW4 := Lib.hid hw4
  clear hw4 HC2 HB2 HRJ HA2 HI2 b24 HPP
  rcases hC with ⟨rfl, rfl, hr⟩ | ⟨rfl, rfl, hr, _⟩ | ⟨rfl, hr, N, hN, h1, h32, h40, hlf, h300, hm1, hm2, hm3, hB⟩
  · rw [hr] at HR4
    simp only [MachX.v, List.length_nil] at HW4 r4 ⊢
    clear b3 b4 r4 hr
    go_wp2_with fail
    rw [HW4.out]
    refine HR4.out.mono ?_
    rintro e w5 ⟨rfl, b5⟩
    have HQ5 := Lib.hid (HQ4.out w5 b5)
    clear b5
    go_wp2_with fail
    exact HQ5.out
  · rw [hr] at HR4
    simp only [MachX.v, List.length_nil] at HW4 r4 ⊢
    clear b3 b4 r4 hr
    go_wp2_with fail
    rw [HW4.out]
    refine HR4.out.mono ?_
    rintro e w5 ⟨rfl, b5⟩
    have HQ5 := Lib.hid (HQ4.out w5 b5)
    clear b5
    go_wp2_with fail
    exact HQ5.out
  · have HM4 : Hid (∀ W, Below w4.heap.size w4 W → MachD W m ∧ W.heap[w3.heap.size]? = some (.cells #[.slice m.no m.rows.length m.nc, .slice m.fo m.fits.length m.fc] 28 (0, 0))) := Lib.hid fun W hb => ⟨(hm3.below b4).below hb, row_below r4 hb⟩
    have HF4 := Lib.hid (fun W (hb : Below w4.heap.size w4 W) => HFI.out m N hN hB h300 hm1 hm2 W (HB4.out.trans (hb.mono HB4.out.size)) (HM4.out W hb).1)
    have HLW := Lib.hid (fun W (hb : Below w4.heap.size w4 W) => HLL.out W (HB4.out.trans (hb.mono HB4.out.size)))
    have HLF := Lib.hid hlf
    obtain ⟨K, hK⟩ : ∃ K, Lk.map (kwD n) = K := ⟨_, rfl⟩
    have HK := Lib.hid hK
    have hKl : K.length = q := by rw [← hK, List.length_map, HNQ.out]
    have HNN := Lib.hid hN
    clear hm1 hm2 hm3 hB h300 hlf hr h1 h32 h40 b3 b4 r4 HFI HR4 HB4 HLL hK hN
    obtain ⟨no, rows, nc, fo, fits, fc⟩ := m
    obtain ⟨mr, hmr⟩ : ∃ q, rows.length = q := ⟨_, rfl⟩
    obtain ⟨mf, hmf⟩ : ∃ q, fits.length = q := ⟨_, rfl⟩
    simp only [MachX.v, hmr, hmf] at HF4 HM4 HW4 ⊢
    clear hmr hmf
    go_wp2_with fail
    rw [HW4.out]
    go_loopg [10, 11] q (fun k v10 v11 wr => ∃ (j : Nat) (ro : Option Addr) (rc : Nat), v11 = .int .i64 (j : Nat) ∧ v10 = .slice ro j rc ∧ j ≤ q ∧ k = q - j ∧ Hid (wr.ownsRow w4.heap.size 3 1 (.slice ro j rc) j ((K.take j).map (Value.int .i64))) ∧ Hid (Below w4.heap.size w4 wr))
    case atStart => exact ⟨0, none, 0, rfl, rfl, Nat.zero_le _, rfl, Lib.hid (World.ownsRow_nil _ _ _ _), Lib.hid (Below.refl _ _)⟩
    case round =>
      obtain ⟨j, ro, rc, rfl, rfl, hj, rfl, HO, HB⟩ := hrel
      rcases Nat.lt_or_ge j q with hlt | hge
      · have hj1 : j < 1000000 := by omega
        obtain ⟨c, hc⟩ : ∃ c, Lk[j]? = some c := ⟨_, List.getElem?_eq_getElem (by rw [HNQ.out]; exact hlt)⟩
        have HTM := Lib.hid (take_mapB (f := kwD n) hc)
        rw [HK.out] at HTM
        obtain ⟨g, off, rfl, hcl⟩ := (HLW.out wr HB.out) (by rw [HNQ.out]; omega)
        have k0 := hcl j c hc
        have hg := World.block_lt_of_cell? wr _ k0
        have hsz := HB.out.size
        obtain ⟨g', cap', w6, hrun, hown', hgrow⟩ := int_ownB (kwD n c) HO.out (by omega) hsz
        rw [← HTM.out] at hown'
        have HO6 := Lib.hid hown'
        have HB6 : Hid (Below w4.heap.size w4 w6) := Lib.hid ((HB.out.alloc hsz _).grown hgrow (by rw [World.size_alloc]; omega) (fun k hk => own_rowD' HO.out hk))
        clear hcl hc hown' hgrow hsz HM4 HF4 HA4 HI4 HQ4 HLW HLF
        by_cases hc0 : c < 0
        · have hk : kwD n c = -1 := by unfold kwD; rw [if_neg (by omega)]
          rw [hk] at hrun
          have d1 : decide (c < 0) = true := decide_eq_true hc0
          clear hk HO
          go_wp2_with fail
          go_roundg (q - (j + 1))
          case measure => omega
          case rel => exact ⟨j + 1, _, _, by simp, rfl, by omega, rfl, HO6, HB6⟩
        · by_cases hcn : n ≤ c
          · have hk : kwD n c = -1 := by unfold kwD; rw [if_neg (by omega)]
            rw [hk] at hrun
            have d1 : decide (c < 0) = false := decide_eq_false hc0
            have d2 : decide (n ≤ c) = true := decide_eq_true hcn
            clear hk HO
            go_wp2_with fail
            go_roundg (q - (j + 1))
            case measure => omega
            case rel => exact ⟨j + 1, _, _, by simp, rfl, by omega, rfl, HO6, HB6⟩
          · have hk : kwD n c = c := by unfold kwD; rw [if_pos (by omega)]
            rw [hk] at hrun
            have d1 : decide (c < 0) = false := decide_eq_false hc0
            have d2 : decide (n ≤ c) = false := decide_eq_false hcn
            clear hk HO
            go_wp2_with fail
            go_roundg (q - (j + 1))
            case measure => omega
            case rel => exact ⟨j + 1, _, _, by simp, rfl, by omega, rfl, HO6, HB6⟩
      · obtain rfl : j = q := by omega
        have hrc : j ≤ rc := own_cap HO.out
        have ho := HO.out
        rw [List.take_of_length_le (by rw [hKl]; exact Nat.le_refl _)] at ho
        have hNK : NumsAt wr ro K := by
          have h : wr.ownsRow w4.heap.size 3 1 (.slice ro K.length rc) K.length (K.map (Value.int .i64)) := by rw [hKl]; exact ho
          exact nums_ownZ h
        have HNK := Lib.hid hNK
        have HF5 := Lib.hid (HF4.out wr HB.out)
        obtain ⟨p0, p1⟩ := mac_cells (HM4.out wr HB.out).2
        have lp := World.block_lt_of_cell? wr _ p0
        have HQ5 := Lib.hid (fun W (hb : Below wr.heap.size wr W) => HQ4.out W (HB.out.trans (hb.mono HB.out.size)))
        have HA5 := Lib.hid (HA4.out wr HB.out)
        have HI5 := Lib.hid (HI4.out wr HB.out)
        clear ho hNK HO HF4 HM4 HLW HQ4 HA4 HI4 HB HW4
        obtain ⟨q1, hq1⟩ : ∃ q1, j + 1 = q1 := ⟨_, rfl⟩
        rw [hq1] at HF5
        go_wp2_with fail
        refine HF5.out.mono ?_
        rintro e w5 ⟨o5, c5, rfl, n5, b5⟩
        have HN5 := Lib.hid n5
        have HB5 := Lib.hid b5
        have hj1 : ((j : Nat) : Int) + 1 = ((q1 : Nat) : Int) := by omega
        have hjw : wrap64 (((j : Nat) : Int) + 1) = ((q1 : Nat) : Int) := by unfold wrap64; omega
        have hq31 : q1 ≤ 31 := by omega
        clear b5 n5 HF5 p0 p1 lp
        go_wp2_with fail
        have HA6 := Lib.hid (fun W (hb : Below w5.heap.size w5 W) => (HA5.out.below HB5.out).below hb)
        have HI6 := Lib.hid (fun W (hb : Below w5.heap.size w5 W) => (HI5.out.below HB5.out).below hb)
        have HQ6 := Lib.hid (fun W (hb : Below w5.heap.size w5 W) => HQ5.out W (HB5.out.trans (hb.mono HB5.out.size)))
        have HNK6 := Lib.hid (fun W (hb : Below w5.heap.size w5 W) => (HNK.out.below HB5.out).below hb)
        have HN6 := Lib.hid (fun W (hb : Below w5.heap.size w5 W) => HN5.out.below hb)
        have HKR := Lib.hid hrc
        have HKL := Lib.hid hKl
        clear HA5 HI5 HQ5 HNK HN5 HB5 HL2 hj hge hrc hKl
        go_loopg [15] q1 (fun k v wr2 => ∃ (a : Nat), v = .int .i64 (a : Nat) ∧ a ≤ q1 ∧ k = q1 - a ∧ Hid (Below w5.heap.size w5 wr2))
        case atStart => exact ⟨0, rfl, Nat.zero_le _, rfl, Lib.hid (Below.refl _ _)⟩
        case round =>
          obtain ⟨a, rfl, ha, rfl, HB7⟩ := hrel
          rcases Nat.lt_or_ge a q1 with hlt | hge
          · have ha1 : a < 1000000 := by omega
            have hak : a ≤ Lk.length := by rw [HNQ.out]; omega
            have hfa := fitsBD_at F N Lk hak
            obtain ⟨g, off, rfl, hcl⟩ := (HN6.out _ HB7.out) (by rw [fitsBD_len, HNQ.out]; omega)
            have k0 := hcl a _ hfa
            have hg := World.block_lt_of_cell? _ _ k0
            have HBL := Lib.hid (gotB_len F N Lk a)
            have HBI := Lib.hid (fun (i : Nat) (x : RulX) (hx : F[i]? = some x) => got_bit HLF.out hak hx)
            rw [← HNN.out, HK.out] at HBI
            rw [HNF.out] at HBL
            obtain ⟨B, hB⟩ : ∃ B, gotB F N Lk a = B := ⟨_, rfl⟩
            rw [hB] at k0 HBL HBI
            clear hcl hfa hB hak
            go_wp2_with fail
            clear k0 hg
            go_loopg [16, 17] nf (fun k v16 v17 wr3 => ∃ (i : Nat), v17 = .int .i64 (i : Nat) ∧ v16 = .int .i64 ((bitsD (B.drop i) : Nat) : Int) ∧ i ≤ nf ∧ k = nf - i ∧ Hid (Below w5.heap.size w5 wr3))
            case atStart => exact ⟨0, rfl, rfl, Nat.zero_le _, rfl, HB7⟩
            case round =>
              obtain ⟨i, rfl, rfl, hi, rfl, HB8⟩ := hrel
              rcases Nat.lt_or_ge i nf with hlt2 | hge2
              · have hi1 : i < 1000000 := by omega
                obtain ⟨x, hx⟩ : ∃ x, F[i]? = some x := ⟨_, List.getElem?_eq_getElem (by rw [HNF.out]; exact hlt2)⟩
                have hxm := List.mem_of_getElem? hx
                obtain ⟨g3, off3, rfl, hcl⟩ := (HA6.out _ HB8.out) (by rw [HNF.out]; omega)
                obtain ⟨u0, u1, u2, u3, u4⟩ := hcl i x hx
                have hg3 := World.block_lt_of_cell? _ _ u0
                obtain ⟨hrem, hdiv⟩ := bits_drop (HBI.out i x hx)
                have hyl : bitsD (B.drop i) < 64 := bitsD_small (by rw [HBL.out]; exact hfl) i
                have hBH := Behind_anyQ x.1.1 x.1.2.1 ro x.1.2.2.1 K x.1.2.2.2 rc ((a : Nat) : Int) (HFF.out x hxm).1 (by rw [HKL.out]; omega) (by rw [HKL.out]; exact HKR.out) _ ((HI6.out _ HB8.out) x hxm).1.1 (HNK6.out _ HB8.out)
                rw [HKL.out] at hBH
                obtain ⟨b, hb⟩ : ∃ b, behindA x.1.1 x.1.2.2.1 K ((a : Nat) : Int) = b := ⟨_, rfl⟩
                rw [hb] at hBH hrem
                obtain ⟨y, hy⟩ : ∃ y, bitsD (B.drop i) = y := ⟨_, rfl⟩
                obtain ⟨z, hz⟩ : ∃ z, bitsD (B.drop (i + 1)) = z := ⟨_, rfl⟩
                have HZ := Lib.hid hz
                rw [hy] at hrem hdiv hyl ⊢
                rw [hz] at hdiv
                obtain ⟨t1, t2, hz64, wz⟩ := div_b hdiv hyl
                obtain ⟨e5, e6⟩ := rem_b hrem
                clear hrem
                obtain ⟨⟨s1, p1, xs1, k1⟩, ⟨s2, p2, xs2, k2⟩, br⟩ := x
                simp only at u0 u1 hBH
                obtain ⟨m1, hm1⟩ : ∃ k, xs1.length = k := ⟨_, rfl⟩
                rw [hm1] at u1 hBH
                have HBH := Lib.hid hBH
                clear hcl hx hxm u2 u3 u4 hb hy hz hdiv hm1 hBH HBI HA6 HI6 HNK6 HN6 HQ6
                cases b with
                | true =>
                  rw [if_pos rfl] at e5
                  go_wp2_with fail
                  refine HBH.out.mono ?_
                  rintro e w8 ⟨rfl, b8⟩
                  have HB9 := Lib.hid (HB8.out.trans (b8.mono HB8.out.size))
                  clear b8
                  go_wp2_with fail
                  go_roundg (nf - (i + 1))
                  case measure => omega
                  case rel => exact ⟨i + 1, by simp, by rw [HZ.out, wz], by omega, rfl, HB9⟩
                | false =>
                  rw [if_neg (by decide)] at e5
                  go_wp2_with fail
                  refine HBH.out.mono ?_
                  rintro e w8 ⟨rfl, b8⟩
                  have HB9 := Lib.hid (HB8.out.trans (b8.mono HB8.out.size))
                  clear b8
                  go_wp2_with fail
                  go_roundg (nf - (i + 1))
                  case measure => omega
                  case rel => exact ⟨i + 1, by simp, by rw [HZ.out, wz], by omega, rfl, HB9⟩
              · obtain rfl : i = nf := by omega
                have hz0 : bitsD (B.drop i) = 0 := bits_end (by rw [HBL.out]; exact Nat.le_refl _)
                rw [hz0]
                clear hz0 HBI HA6 HI6 HNK6 HN6 HQ6
                go_wp2_with fail
                go_roundg (q1 - (a + 1))
                case measure => omega
                case rel => exact ⟨a + 1, by simp, by omega, rfl, HB8⟩
          · obtain rfl : a = q1 := by omega
            have HF := Lib.hid (HQ6.out _ HB7.out)
            clear HQ6 HN6 HNK6 HA6 HI6
            go_wp2_with fail
            exact HF.out
end Go.Proofs.YtgcapoejieolnaaGreatDoor
namespace Go.Proofs.YtgcapoejieolnaaGreatDoor
open Go.ChangeShapes Go.WideShapes Go.ChangeAt Go.RowKit Go.ChangeMaps Go.Shelf

theorem ownQ : ownKnob Tryz.prog.godebug = none := by kernel_rfl
theorem gPatQ : Tryz.prog.globalNamed "virama/nfa.errPattern" = some 5 := by kernel_rfl
theorem gStaQ : Tryz.prog.globalNamed "virama/nfa.errStates" = some 6 := by kernel_rfl
theorem gFarQ : Tryz.prog.globalNamed "virama/nfa.far" = some 7 := by kernel_rfl
theorem gPatTypeQ : (Tryz.prog.globals[5]?).map (·.type) = some 57 := by kernel_rfl
theorem gStaTypeQ : (Tryz.prog.globals[6]?).map (·.type) = some 57 := by kernel_rfl
theorem gFarTypeQ : (Tryz.prog.globals[7]?).map (·.type) = some 236 := by kernel_rfl
theorem cellsEQ : Tryz.prog.cellsOf 261 = 1 := by kernel_rfl
theorem cellsSQ : Tryz.prog.cellsOf 9 = 1 := by kernel_rfl
theorem starEQ : "*" ++ "errors.errorString" = "*errors.errorString" := by decide
theorem rowEQ (u : TypeId) (h : Tryz.prog.typeName? 3 u = some "*errors.errorString") : u = 237 :=
  typeName_ptr_named (nm := "errors.errorString") (by rw [starEQ]; kernel_rfl) (by kernel_rfl) (by decide) u (by rw [starEQ]; exact h)
abbrev laid2Q : List (String × DataW Unit) := [("virama/nfa.errPattern", Rows.laid_virama_nfa_errPattern), ("virama/nfa.errStates", Rows.laid_virama_nfa_errStates)]
abbrev laidTQ : List (String × DataW Unit) := [("virama/nfa.far", Rows.laid_virama_nfa_far)]
theorem gRulD : Tryz.prog.globalNamed "virama/dfa.errRule" = some 0 := by kernel_rfl
theorem gRulTypeD : (Tryz.prog.globals[0]?).map (·.type) = some 57 := by kernel_rfl
theorem gMacD : Tryz.prog.globalNamed "virama/dfa.errMachine" = some 1 := by kernel_rfl
theorem gMacTypeD : (Tryz.prog.globals[1]?).map (·.type) = some 57 := by kernel_rfl
abbrev laid2D : List (String × DataW Unit) := [("virama/dfa.errRule", Rows.laid_virama_dfa_errRule), ("virama/dfa.errMachine", Rows.laid_virama_dfa_errMachine)]
abbrev laidAQ : List (String × DataW Unit) := [("virama/nfa.errPattern", Rows.laid_virama_nfa_errPattern), ("virama/nfa.errStates", Rows.laid_virama_nfa_errStates), ("virama/nfa.far", Rows.laid_virama_nfa_far), ("virama/dfa.errRule", Rows.laid_virama_dfa_errRule), ("virama/dfa.errMachine", Rows.laid_virama_dfa_errMachine)]
theorem far_of_laidQ {W : World} (h : laidMetH Tryz.prog laidAQ W) : ∀ j x, j < 3 → [(2 : Int), 0, 1][j]? = some x → W.cell? ⟨7, j, none⟩ = some (.int .i64 x) := by
  intro j x hj hx
  have h1 := laidMetH.filter (fun x => x.1 == "virama/nfa.far") h
  have h2 : laidMetH Tryz.prog laidTQ W := h1
  rw [MakeChecks.laidMetH_plain _ _ _ (by kernel_rfl)] at h2
  obtain ⟨ps, ⟨g, t, cs, fuel, p, q, hg, ht, hv, hd, _, _⟩, _, _⟩ := h2
  obtain rfl := Option.some.inj (gFarQ.symm.trans hg)
  obtain rfl := Option.some.inj (gFarTypeQ.symm.trans ht)
  obtain ⟨xs, m, _, ex, _, hl, hel⟩ := DataW.trod_array Tryz.underlying236 hd
  have c5 : Tryz.prog.cellsOf 3 = 1 := by kernel_rfl
  have hlt : j < xs.length := by clear ex hd hel; omega
  have hE := hel j hj
  rw [c5, Nat.mul_one, List.getElem?_eq_getElem hlt] at hE
  obtain ⟨z, e1, e2, _⟩ := DataW.trod_int Tryz.underlying3 hE
  have e3 : .agg (xs.map (·.1)) = Rows.laid_virama_nfa_far (H := Unit) := (Prod.mk.inj ex).1.symm
  have e4 : (xs.map (·.1))[j]? = some (.lit (.int .i64 x)) := by
    have := DataW.agg.inj e3
    rw [this]
    match j, hj, hx with
    | 0, _, hx => cases hx; rfl
    | 1, _, hx => cases hx; rfl
    | 2, _, hx => cases hx; rfl
  rw [List.getElem?_map, List.getElem?_eq_getElem hlt, Option.map_some, e2] at e4
  have hz : z = x := by simpa using e4
  rw [World.var?_cell gFarQ hv j]
  have h0 : ((cs.toList.drop j).take 1)[0]? = some (.int .i64 z) := by rw [e1]; rfl
  rw [hz] at h0
  simpa using h0
theorem glob_ofQ {W : World} (h : laidMetH Tryz.prog laidAQ W) : ∃ aP aS, GlobH W aP aS := by
  have h1 := laidMetH.filter (fun x => x.1 == "virama/nfa.errPattern" || x.1 == "virama/nfa.errStates") h
  have h2 : laidMetH Tryz.prog laid2Q W := h1
  have h' : laidMet Tryz.prog laid2Q W := by rw [MakeChecks.laidMetH_plain _ _ _ (by kernel_rfl)] at h2; exact h2
  obtain ⟨a0, a1, s0, s1, c0, c1, t0, t1, hv0, hv1, hc0, hs0, hz0, hc1, hs1, hz1, hne, hb0, hb1⟩ :=
    laid_sentinels2 h' gPatQ gPatTypeQ gStaQ gStaTypeQ Tryz.underlying57 rowEQ Tryz.underlying237 Tryz.underlying261 rfl rfl Tryz.underlying9 cellsEQ cellsSQ
  have hP : W.cell? ⟨5, 0, none⟩ = some (errVQ a0) := by simpa using World.var?_cell gPatQ hv0 0
  have hS : W.cell? ⟨6, 0, none⟩ = some (errVQ a1) := by simpa using World.var?_cell gStaQ hv1 0
  have lt : ∀ {g j : Nat} {v : Value}, W.cell? ⟨g, j, none⟩ = some v → g < W.heap.size := by
    intro g j v hc
    exact World.block_lt_of_cell? W _ hc
  have f0 := far_of_laidQ h 0 2 (by decide) rfl
  have f1 := far_of_laidQ h 1 0 (by decide) rfl
  have f2 := far_of_laidQ h 2 1 (by decide) rfl
  exact ⟨a0, a1, hP, hS, hne, ⟨c0, t0, hb0⟩, ⟨c1, t1, hb1⟩, lt hP, lt hS, lt f0, f0, f1, f2⟩

theorem glob_ofD {W : World} (h : laidMetH Tryz.prog laidAQ W) : ∃ aR aM, GlobD W aR aM := by
  have h1 := laidMetH.filter (fun x => x.1 == "virama/dfa.errRule" || x.1 == "virama/dfa.errMachine") h
  have h2 : laidMetH Tryz.prog laid2D W := h1
  have h' : laidMet Tryz.prog laid2D W := by rw [MakeChecks.laidMetH_plain _ _ _ (by kernel_rfl)] at h2; exact h2
  obtain ⟨a0, a1, s0, s1, c0, c1, t0, t1, hv0, hv1, hc0, hs0, hz0, hc1, hs1, hz1, hne, hb0, hb1⟩ :=
    laid_sentinels2 h' gRulD gRulTypeD gMacD gMacTypeD Tryz.underlying57 rowEQ Tryz.underlying237 Tryz.underlying261 rfl rfl Tryz.underlying9 cellsEQ cellsSQ
  have hP : W.cell? ⟨0, 0, none⟩ = some (errVQ a0) := by simpa using World.var?_cell gRulD hv0 0
  have hS : W.cell? ⟨1, 0, none⟩ = some (errVQ a1) := by simpa using World.var?_cell gMacD hv1 0
  have lt : ∀ {g j : Nat} {v : Value}, W.cell? ⟨g, j, none⟩ = some v → g < W.heap.size := by
    intro g j v hc
    exact World.block_lt_of_cell? W _ hc
  exact ⟨a0, a1, hP, hS, hne, ⟨c0, t0, hb0⟩, ⟨c1, t1, hb1⟩, lt hP, lt hS⟩

noncomputable def lowQ : Nat := (World.holding Tryz.prog default ⟨#[], #[], []⟩).heap.size
abbrev patSQ : ByteArray := ⟨#[110, 102, 97, 58, 32, 97, 32, 112, 97, 116, 116, 101, 114, 110, 32, 116, 104, 97, 116, 32, 105, 115, 32, 110, 111, 116, 32, 114, 105, 103, 104, 116]⟩
abbrev staSQ : ByteArray := ⟨#[110, 102, 97, 58, 32, 115, 116, 97, 116, 101, 115, 32, 116, 104, 97, 116, 32, 116, 104, 101, 32, 112, 97, 116, 116, 101, 114, 110, 32, 104, 97, 115, 32, 110, 111, 116]⟩
abbrev rulSQ : ByteArray := ⟨#[100, 102, 97, 58, 32, 114, 117, 108, 101, 115, 32, 116, 104, 97, 116, 32, 97, 114, 101, 32, 110, 111, 116, 32, 114, 105, 103, 104, 116]⟩
abbrev macSQ : ByteArray := ⟨#[100, 102, 97, 58, 32, 97, 32, 109, 97, 99, 104, 105, 110, 101, 32, 116, 104, 97, 116, 32, 105, 115, 32, 110, 111, 116, 32, 114, 105, 103, 104, 116, 44, 32, 111, 114, 32, 119, 111, 117, 108, 100, 32, 104, 97, 118, 101, 32, 116, 111, 111, 32, 109, 97, 110, 121, 32, 115, 116, 97, 116, 101, 115]⟩
noncomputable def baseWorldQ (os : Os) : World :=
  let w0 := World.holding Tryz.prog os ⟨#[.cells #[.string patSQ] 261, .cells #[.string staSQ] 261, .cells #[.string rulSQ] 261, .cells #[.string macSQ] 261], #[], []⟩
  { w0 with heap := ((((w0.heap.modify 5 fun
      | .cells _ t frozen => .cells #[errVQ ⟨lowQ, 0, none⟩] t frozen
      | o => o).modify 6 fun
      | .cells _ t frozen => .cells #[errVQ ⟨lowQ + 1, 0, none⟩] t frozen
      | o => o).modify 0 fun
      | .cells _ t frozen => .cells #[errVQ ⟨lowQ + 2, 0, none⟩] t frozen
      | o => o).modify 1 fun
      | .cells _ t frozen => .cells #[errVQ ⟨lowQ + 3, 0, none⟩] t frozen
      | o => o) }
noncomputable def laidWorldQ (os : Os) : World := (baseWorldQ os).layVars Tryz.prog laidTQ
theorem laidWorld_osQ (os : Os) : (laidWorldQ os).os = os := World.layVars_os _ _ _
set_option maxRecDepth 100000 in
theorem laid_met_wQ (os : Os) (args : Array Value) : laidMet Tryz.prog laidAQ ((laidWorldQ os).forCall (fun _ _ => 0) ⟨#[], args, []⟩).memory :=
  laidMet_of_run' 8 (by kernel_rfl) (by kernel_rfl)
theorem laid_metQ (os : Os) (args : Array Value) : laidMetH Tryz.prog laidAQ ((laidWorldQ os).forCall (fun _ _ => 0) ⟨#[], args, []⟩).memory := by
  rw [MakeChecks.laidMetH_plain _ _ _ (by kernel_rfl)]
  exact laid_met_wQ os args

theorem true_postQ {H : Type} {enc : TypeId × Value → H} {f : Func} {s : ChangeSpec} {W W' : World} {args : Array Value} {ds gs : List (DataW H)} {before : List MemPlace}
    (hW : DataW.Whole enc Tryz.prog f.params.toList s.vars false W args.toList ds gs before) (hr : f.resultTypes = #[4]) (hfn : s.fn H (ds ++ gs) = { results := [.lit (.bool true)], args := ds }) (hv : s.vars = [])
    (hargs : DataW.TrodAll enc Tryz.prog W' 0 (fun b => decide (b < W.heap.size)) true f.params.toList args.toList ds before) (hb : Below W.heap.size W W') :
    s.post enc Tryz.prog f false true false false W args (.bool true) W' := by
  refine ⟨ds, gs, before, [], before, [], hW, ?_, ?_, ?_, ?_, fun h => by cases h⟩
  · rw [hr, hfn]
    exact trodAll_cons_mk (shut_bool Tryz.underlying4 _) trodAll_mk0
  · rw [hfn]
    exact hargs
  · rw [hv, hfn]
    rfl
  · exact World.keptBut_mono (fun p hp => ⟨hp, .inr (.inl hp)⟩) (hb.frame (· ∈ before))

abbrev In64K (n : Int) : Prop := -9223372036854775808 ≤ n ∧ n ≤ 9223372036854775807
def NumsInQ (w : World) (o : Option Addr) (l : List Int) : Prop := NumsAt w o l ∧ ∀ c ∈ l, In64K c
theorem in64_wfQ {n : Int} (h : (Lit.int .i64 n).wf = true) : In64K n := by
  simp [Lit.wf, IntKind.min, IntKind.max, IntKind.signed, IntKind.bits] at h
  exact h
theorem list_ofQ {α : Type} {Q : Nat → α → Prop} : ∀ n : Nat, (∀ i, i < n → ∃ x, Q i x) → ∃ l : List α, l.length = n ∧ ∀ i x, l[i]? = some x → Q i x
  | 0, _ => ⟨[], rfl, fun i x h => by simp at h⟩
  | n + 1, h => by
    obtain ⟨l, hl, hq⟩ := list_ofQ n fun i hi => h i (by omega)
    obtain ⟨y, hy⟩ := h n (by omega)
    refine ⟨l ++ [y], by simp [hl], fun i x hx => ?_⟩
    rcases Nat.lt_or_ge i l.length with hi | hi
    · rw [List.getElem?_append_left hi] at hx
      exact hq i x hx
    · rw [List.getElem?_append_right hi] at hx
      have hi2 : i - l.length = 0 := by
        have := (List.getElem?_eq_some_iff.1 hx).1
        simp at this
        omega
      rw [hi2] at hx
      cases hx
      rw [show i = n from by omega]
      exact hy
theorem add_atQ2 (g off k : Nat) : (⟨g, off, none⟩ : Addr).add k = ⟨g, off + k, none⟩ := by unfold Addr.add; split <;> simp_all
theorem cellsIntQ : Tryz.prog.cellsOf 3 = 1 := by kernel_rfl
theorem cellsI64Q : Tryz.prog.cellsOf 2 = 1 := by kernel_rfl
theorem cellsBoolQ : Tryz.prog.cellsOf 4 = 1 := by kernel_rfl
theorem cellsItQ : Tryz.prog.cellsOf 88 = 2 := by kernel_rfl
theorem cellsItsQ : Tryz.prog.cellsOf 47 = 1 := by kernel_rfl
theorem cellsPatQ : Tryz.prog.cellsOf 49 = 2 := by kernel_rfl
section
variable {H : Type} {enc : TypeId × Value → H} {W : World}
theorem open_intsQ {fuel : Nat} {v : Value} {x : DataW H × List MemPlace} (h : DataW.trod enc Tryz.prog W 0 (fun _ => true) true fuel 34 [v] = some x) :
    ∃ (o : Option Addr) (l : List Int) (cap : Nat), v = .slice o l.length cap ∧ (NumsInQ W o l ∧ (o = none → cap = 0) ∧ ∀ p, o = some p → 0 < cap → p.spot = none) ∧ l.length ≤ cap := by
  rcases DataW.trod_slice Tryz.underlying34 h with ⟨hv, _⟩ | ⟨a, len, cap, elems, rest, n, _, hv, _, _, hle, hcap, hlen, hc, hr, _⟩
  · obtain rfl : v = .slice none 0 0 := by simpa using hv
    exact ⟨none, [], 0, rfl, ⟨⟨fun h => absurd h (Nat.not_lt_zero _), fun c h => by cases h⟩, fun _ => rfl, fun p h => by cases h⟩, Nat.le_refl _⟩
  · obtain rfl : v = .slice (some a) len cap := by simpa using hv
    have hall : ∀ i, i < len → ∃ X : Int, W.cell? ((a.add (i * 1)).add 0) = some (.int .i64 X) ∧ In64K X := fun i hi => by
      have he := hc i hi
      rw [cellsIntQ, List.getElem?_eq_getElem (by omega)] at he
      obtain ⟨cs, hcs, ht⟩ := Option.bind_eq_some_iff.1 he
      obtain ⟨_, hl, hg⟩ := World.cells?_some hcs
      obtain ⟨b, c1, _, cw⟩ := DataW.trod_int Tryz.underlying3 ht
      exact ⟨b, by rw [hg 0 (by omega), c1]; rfl, in64_wfQ cw⟩
    have hsp : 0 < cap → a.spot = none := fun h0 => by
      rcases Nat.eq_zero_or_pos len with hz | hz
      · obtain ⟨hrl, hrc⟩ := hr rfl
        have h0l : 0 < rest.length := by rw [hrl, hz]; exact h0
        have he := hrc 0 (by rw [hz]; exact h0)
        rw [cellsIntQ, hz, List.getElem?_eq_getElem h0l] at he
        obtain ⟨cs, hcs, ht⟩ := Option.bind_eq_some_iff.1 he
        obtain ⟨_, hl, hg⟩ := World.cells?_some hcs
        have h1 := hg 0 (by omega)
        rw [List.getElem?_eq_getElem (by rw [hl]; exact Nat.one_pos)] at h1
        simpa [Addr.add] using World.cell?_spot h1
      · obtain ⟨X, h1, _⟩ := hall 0 hz
        simpa [Addr.add] using World.cell?_spot h1
    obtain ⟨rs, hrl, hrs⟩ := list_ofQ len hall
    subst hrl
    refine ⟨some a, rs, cap, rfl, ⟨⟨fun hn => ?_, fun c hc => by obtain ⟨i, hi⟩ := List.getElem?_of_mem hc; exact (hrs i c hi).2⟩, (fun h => by cases h), (fun p h h0 => by cases h; exact hsp h0)⟩, by omega⟩
    have h0 := (hrs 0 _ (List.getElem?_eq_getElem hn)).1
    obtain ⟨g, off, spot⟩ := a
    have hspot : spot = none := by simpa [Addr.add] using World.cell?_spot h0
    subst hspot
    refine ⟨g, off, rfl, fun j x hx => ?_⟩
    have c0 := (hrs j x hx).1
    rwa [add_atQ2, add_atQ2, Nat.mul_one, Nat.add_zero] at c0
theorem list2Q {α : Type} {cs : List α} (h : cs.length = 2) : ∃ c0 c1, cs = [c0, c1] := by
  match cs, h with
  | [c0, c1], _ => exact ⟨c0, c1, rfl⟩
theorem open_itQ {fuel : Nat} {cs : List Value} {x : DataW H × List MemPlace} (h : DataW.trod enc Tryz.prog W 0 (fun _ => true) true fuel 88 cs = some x) : ∃ X : ItemP, cs = [.int .i64 X.1, .int .i64 X.2] ∧ In64K X.1 ∧ In64K X.2 := by
  obtain ⟨y0, y1, n, _, hl, h0, h1⟩ := trod_struct2 Tryz.underlying88 h
  rw [cellsItQ] at hl
  obtain ⟨k0, k1, rfl⟩ := list2Q hl
  change DataW.trod enc Tryz.prog W 0 (fun _ => true) true n 2 (List.take (Tryz.prog.cellsOf 2) (List.drop 0 [k0, k1])) = _ at h0
  change DataW.trod enc Tryz.prog W 0 (fun _ => true) true n 3 (List.take (Tryz.prog.cellsOf 3) (List.drop 1 [k0, k1])) = _ at h1
  rw [cellsI64Q] at h0
  rw [cellsIntQ] at h1
  obtain ⟨a, e0, _, w0⟩ := DataW.trod_int Tryz.underlying2 h0
  obtain ⟨b, e1, _, w1⟩ := DataW.trod_int Tryz.underlying3 h1
  obtain rfl : k0 = .int .i64 a := by simpa using e0
  obtain rfl : k1 = .int .i64 b := by simpa using e1
  exact ⟨(a, b), rfl, in64_wfQ w0, in64_wfQ w1⟩
def ItsInQ (w : World) (o : Option Addr) (l : List ItemP) : Prop := AtI w o l ∧ ∀ x ∈ l, In64K x.1 ∧ In64K x.2
theorem open_itsQ {fuel : Nat} {v : Value} {x : DataW H × List MemPlace} (h : DataW.trod enc Tryz.prog W 0 (fun _ => true) true fuel 47 [v] = some x) :
    ∃ (o : Option Addr) (l : List ItemP) (cap : Nat), v = .slice o l.length cap ∧ ItsInQ W o l ∧ l.length ≤ cap := by
  rcases DataW.trod_slice Tryz.underlying47 h with ⟨hv, _⟩ | ⟨a, len, cap, elems, rest, n, _, hv, _, _, hle, hcap, hlen, hc, _, _⟩
  · obtain rfl : v = .slice none 0 0 := by simpa using hv
    exact ⟨none, [], 0, rfl, ⟨fun h => absurd h (Nat.not_lt_zero _), fun c h => by cases h⟩, Nat.le_refl _⟩
  · obtain rfl : v = .slice (some a) len cap := by simpa using hv
    have hall : ∀ i, i < len → ∃ X : ItemP, W.cell? ((a.add (i * 2)).add 0) = some (.int .i64 X.1) ∧ W.cell? ((a.add (i * 2)).add 1) = some (.int .i64 X.2) ∧ In64K X.1 ∧ In64K X.2 := fun i hi => by
      have he := hc i hi
      rw [cellsItQ, List.getElem?_eq_getElem (by omega)] at he
      obtain ⟨cs, hcs, ht⟩ := Option.bind_eq_some_iff.1 he
      obtain ⟨_, hl, hg⟩ := World.cells?_some hcs
      obtain ⟨X, rfl, h1, h2⟩ := open_itQ ht
      exact ⟨X, by rw [hg 0 (by omega)]; rfl, by rw [hg 1 (by omega)]; rfl, h1, h2⟩
    obtain ⟨rs, hrl, hrs⟩ := list_ofQ len hall
    subst hrl
    refine ⟨some a, rs, cap, rfl, ⟨fun hn => ?_, fun c hc => by obtain ⟨i, hi⟩ := List.getElem?_of_mem hc; exact ⟨(hrs i c hi).2.2.1, (hrs i c hi).2.2.2⟩⟩, by omega⟩
    have h0 := (hrs 0 _ (List.getElem?_eq_getElem hn)).1
    obtain ⟨g, off, spot⟩ := a
    have hspot : spot = none := by simpa [Addr.add] using World.cell?_spot h0
    subst hspot
    refine ⟨g, off, rfl, fun j x hx => ?_⟩
    obtain ⟨c0, c1, _⟩ := hrs j x hx
    rw [add_atQ2, add_atQ2] at c0 c1
    exact ⟨c0, c1⟩
theorem open_pat {fuel : Nat} {cs : List Value} {x : DataW H × List MemPlace} (h : DataW.trod enc Tryz.prog W 0 (fun _ => true) true fuel 49 cs = some x) :
    ∃ (st : Bool) (o : Option Addr) (xs : List ItemP) (cap : Nat), cs = [.bool st, .slice o xs.length cap] ∧ ItsInQ W o xs ∧ xs.length ≤ cap := by
  obtain ⟨y0, y1, n, _, hl, h0, h1⟩ := trod_struct2 Tryz.underlying49 h
  rw [cellsPatQ] at hl
  obtain ⟨k0, k1, rfl⟩ := list2Q hl
  change DataW.trod enc Tryz.prog W 0 (fun _ => true) true n 4 (List.take (Tryz.prog.cellsOf 4) (List.drop 0 [k0, k1])) = _ at h0
  change DataW.trod enc Tryz.prog W 0 (fun _ => true) true n 47 (List.take (Tryz.prog.cellsOf 47) (List.drop 1 [k0, k1])) = _ at h1
  rw [cellsBoolQ] at h0
  rw [cellsItsQ] at h1
  obtain ⟨st, e0, _⟩ := DataW.trod_bool Tryz.underlying4 h0
  obtain rfl : k0 = .bool st := by simpa using e0
  obtain ⟨o, xs, cap, rfl, hI, hc⟩ := open_itsQ (v := k1) h1
  exact ⟨st, o, xs, cap, rfl, hI, hc⟩
end

theorem cellsRulJ : Tryz.prog.cellsOf 51 = 5 := by kernel_rfl
theorem list5J {α : Type} {cs : List α} (h : cs.length = 5) : ∃ c0 c1 c2 c3 c4, cs = [c0, c1, c2, c3, c4] := by
  match cs, h with
  | [c0, c1, c2, c3, c4], _ => exact ⟨c0, c1, c2, c3, c4, rfl⟩
section
variable {H : Type} {enc : TypeId × Value → H} {W : World}
theorem trod3J {P : Program} {t : TypeId} {f0 f1 f2 : Field} {base : Nat} {spare : Nat → Bool} {held : Bool} {fuel : Nat} {cs : List Value} {x : DataW H × List MemPlace} (ht : P.underlying t = some (.struct #[f0, f1, f2])) (h : DataW.trod enc P W base spare held fuel t cs = some x) :
    ∃ y0 y1 y2 n, cs.length = P.cellsOf t ∧ DataW.trod enc P W base spare held n f0.type ((cs.drop f0.offset).take (P.cellsOf f0.type)) = some y0 ∧
      DataW.trod enc P W base spare held n f1.type ((cs.drop f1.offset).take (P.cellsOf f1.type)) = some y1 ∧ DataW.trod enc P W base spare held n f2.type ((cs.drop f2.offset).take (P.cellsOf f2.type)) = some y2 := by
  obtain ⟨xs, n, _, rfl, hl, hlen, hf⟩ := DataW.trod_struct ht h
  match xs, hlen with
  | [y0, y1, y2], _ => exact ⟨y0, y1, y2, n, hl, by simpa using hf 0 f0 rfl, by simpa using hf 1 f1 rfl, by simpa using hf 2 f2 rfl⟩
def RulIn (w : World) (X : RulX) : Prop := (ItsInQ w X.1.2.1 X.1.2.2.1 ∧ X.1.2.2.1.length ≤ X.1.2.2.2) ∧ ItsInQ w X.2.1.2.1 X.2.1.2.2.1 ∧ X.2.1.2.2.1.length ≤ X.2.1.2.2.2
theorem open_rulJ {fuel : Nat} {cs : List Value} {x : DataW H × List MemPlace} (h : DataW.trod enc Tryz.prog W 0 (fun _ => true) true fuel 51 cs = some x) : ∃ X : RulX, cs = (rulC X).toList ∧ RulIn W X := by
  obtain ⟨y0, y1, y2, n, hl, h0, h1, h2⟩ := trod3J Tryz.underlying51 h
  rw [cellsRulJ] at hl
  obtain ⟨k0, k1, k2, k3, k4, rfl⟩ := list5J hl
  change DataW.trod enc Tryz.prog W 0 (fun _ => true) true n 49 (List.take (Tryz.prog.cellsOf 49) (List.drop 0 [k0, k1, k2, k3, k4])) = _ at h0
  change DataW.trod enc Tryz.prog W 0 (fun _ => true) true n 49 (List.take (Tryz.prog.cellsOf 49) (List.drop 2 [k0, k1, k2, k3, k4])) = _ at h1
  change DataW.trod enc Tryz.prog W 0 (fun _ => true) true n 4 (List.take (Tryz.prog.cellsOf 4) (List.drop 4 [k0, k1, k2, k3, k4])) = _ at h2
  rw [cellsPatQ] at h0 h1
  rw [cellsBoolQ] at h2
  obtain ⟨s1, o1, xs1, c1, e1, i1, l1⟩ := open_pat h0
  obtain ⟨s2, o2, xs2, c2, e2, i2, l2⟩ := open_pat h1
  obtain ⟨br, e3, _⟩ := DataW.trod_bool Tryz.underlying4 h2
  have e1' : k0 = .bool s1 ∧ k1 = .slice o1 xs1.length c1 := by simpa using e1
  have e2' : k2 = .bool s2 ∧ k3 = .slice o2 xs2.length c2 := by simpa using e2
  have e3' : k4 = .bool br := by simpa using e3
  obtain ⟨rfl, rfl⟩ := e1'
  obtain ⟨rfl, rfl⟩ := e2'
  obtain rfl := e3'
  exact ⟨((s1, o1, xs1, c1), (s2, o2, xs2, c2), br), rfl, ⟨i1, l1⟩, i2, l2⟩
theorem open_rulsJ {fuel : Nat} {v : Value} {x : DataW H × List MemPlace} (h : DataW.trod enc Tryz.prog W 0 (fun _ => true) true fuel 22 [v] = some x) :
    ∃ (o : Option Addr) (l : List RulX) (cap : Nat), v = .slice o l.length cap ∧ (AtC W o l ∧ ItsC W l) ∧ l.length ≤ cap := by
  rcases DataW.trod_slice Tryz.underlying22 h with ⟨hv, _⟩ | ⟨a, len, cap, elems, rest, n, _, hv, _, _, hle, hcap, hlen, hc, _, _⟩
  · obtain rfl : v = .slice none 0 0 := by simpa using hv
    exact ⟨none, [], 0, rfl, ⟨fun h => absurd h (Nat.not_lt_zero _), fun c h => by cases h⟩, Nat.le_refl _⟩
  · obtain rfl : v = .slice (some a) len cap := by simpa using hv
    have hall : ∀ i, i < len → ∃ X : RulX, (W.cell? ((a.add (i * 5)).add 0) = some (.bool X.1.1) ∧ W.cell? ((a.add (i * 5)).add 1) = some (.slice X.1.2.1 X.1.2.2.1.length X.1.2.2.2) ∧ W.cell? ((a.add (i * 5)).add 2) = some (.bool X.2.1.1) ∧
        W.cell? ((a.add (i * 5)).add 3) = some (.slice X.2.1.2.1 X.2.1.2.2.1.length X.2.1.2.2.2) ∧ W.cell? ((a.add (i * 5)).add 4) = some (.bool X.2.2)) ∧ RulIn W X := fun i hi => by
      have he := hc i hi
      rw [cellsRulJ, List.getElem?_eq_getElem (by omega)] at he
      obtain ⟨cs, hcs, ht⟩ := Option.bind_eq_some_iff.1 he
      obtain ⟨_, hl, hg⟩ := World.cells?_some hcs
      obtain ⟨X, rfl, h1⟩ := open_rulJ ht
      exact ⟨X, ⟨by rw [hg 0 (by omega)]; rfl, by rw [hg 1 (by omega)]; rfl, by rw [hg 2 (by omega)]; rfl, by rw [hg 3 (by omega)]; rfl, by rw [hg 4 (by omega)]; rfl⟩, h1⟩
    obtain ⟨rs, hrl, hrs⟩ := list_ofQ len hall
    subst hrl
    refine ⟨some a, rs, cap, rfl, ⟨fun hn => ?_, fun c hc => by
      obtain ⟨i, hi⟩ := List.getElem?_of_mem hc
      obtain ⟨⟨i1, l1⟩, i2, l2⟩ := (hrs i c hi).2
      exact ⟨⟨i1.1, l1⟩, i2.1, l2⟩⟩, by omega⟩
    have h0 := (hrs 0 _ (List.getElem?_eq_getElem hn)).1.1
    obtain ⟨g, off, spot⟩ := a
    have hspot : spot = none := by simpa [Addr.add] using World.cell?_spot h0
    subst hspot
    refine ⟨g, off, rfl, fun j x hx => ?_⟩
    obtain ⟨⟨c0, c1, c2, c3, c4⟩, _⟩ := hrs j x hx
    rw [add_atQ2, add_atQ2] at c0 c1 c2 c3 c4
    exact ⟨c0, c1, c2, c3, c4⟩
end
end Go.Proofs.YtgcapoejieolnaaGreatDoor
