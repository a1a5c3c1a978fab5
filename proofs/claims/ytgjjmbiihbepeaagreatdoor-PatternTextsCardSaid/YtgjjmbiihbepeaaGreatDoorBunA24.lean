/- The document's own reach, and ends. The document's own Fits, Behind, Ahead. The document's own Names. The document's own list and Print. The document's own Print. -/
import Derived.Test.YtgjjmbiihbepeaaGreatDoorBunA21
import Derived.Test.YtgjjmbiihbepeaaGreatDoorBunA22
import Derived.Test.YtgjjmbiihbepeaaGreatDoorBunA23
import Derived.Test.YtgjjmbiihbepeaaGreatDoorBunA18
import Derived.Test.YtgjjmbiihbepeaaGreatDoorBunP4
import Derived.Test.YtgjjmbiihbepeaaGreatDoorBunA19
import Derived.Deep.QuietTactic
import Derived.StillTailTactics
import Derived.Test.YtgjjmbiihbepeaaGreatDoorBunA13
namespace Go.Proofs.YtgjjmbiihbepeaaGreatDoor
open Go.RowKit Go.Shelf Go.Maps
attribute [local go_sem] Oper.semAt_some

set_option maxRecDepth 100000 in
set_option maxHeartbeats 4000000 in
theorem reach_none (o lo : Option Addr) (cap lcap : Nat) (L : List Int) (F : Nat → Bool) (g : Nat) (w : World) (hF : RowB w g L.length F) :
    Calls Tryz.prog 44 #[.slice o 0 cap, .slice lo L.length lcap, .slice (some ⟨g, 0, none⟩) (L.length + 1) (L.length + 1)] w (ReachQ L.length F w) := by
  have HF : Hid (ReachQ L.length F w (.returned (.slice (some ⟨g, 0, none⟩) (L.length + 1) (L.length + 1))) w) := Lib.hid ⟨g, rfl, hF, Below.refl _ _⟩
  obtain ⟨P, hP⟩ : ∃ P, ReachQ L.length F w = P := ⟨_, rfl⟩
  rw [hP] at HF ⊢
  clear hP hF
  go_enter Tryz.func44, Tryz.ntmps44
  go_wp2
  first | exact HF.out | (go_ret; exact HF.out)
theorem reach_any (lo : Option Addr) (lcap : Nat) (L : List Int) (hn : L.length ≤ 1000) : ∀ (xs : List ItemP), howP xs → xs.length ≤ 1000 → ∀ (o : Option Addr) (cap : Nat), xs.length ≤ cap → ∀ (F : Nat → Bool) (g : Nat) (w : World), AtI w o xs → NumsAt w lo L → RowB w g L.length F →
    Calls Tryz.prog 44 #[.slice o xs.length cap, .slice lo L.length lcap, .slice (some ⟨g, 0, none⟩) (L.length + 1) (L.length + 1)] w (ReachQ L.length (reachR L xs F) w)
  | [], _, _, o, cap, _, F, g, w, _, _, hF => reach_none o lo cap lcap L F g w hF
  | x :: r, hw, hxl, o, cap, hxc, F, g, w, hA, hL, hF => by
    have hrl : r.length + 1 ≤ 1000 := hxl
    have IH : ∀ o' cap' g' F' W, r.length ≤ cap' → Below w.heap.size w W → AtI W o' r → RowB W g' L.length F' → Calls Tryz.prog 44 #[.slice o' r.length cap', .slice lo L.length lcap, .slice (some ⟨g', 0, none⟩) (L.length + 1) (L.length + 1)] W (ReachQ L.length (reachR L r F') W) := fun o' cap' g' F' W hc hb hA' hF' =>
      reach_any lo lcap L hn r (fun y hy => hw y (List.mem_cons_of_mem _ hy)) (by omega) o' cap' hc F' g' W hA' (hL.below hb) hF'
    rcases hw x (by simp) with h | h | h
    · exact reach_step0 x r o lo cap lcap L F g h hn (by omega) hxc w hA hL hF IH
    · exact reach_step1 x r o lo cap lcap L F g h hn (by omega) hxc w hA hL hF IH
    · exact reach_step2 x r o lo cap lcap L F g h hn (by omega) hxc w hA hL hF IH
set_option maxRecDepth 100000 in
set_option maxHeartbeats 4000000 in
theorem ends_any (start : Bool) (o lo : Option Addr) (xs : List ItemP) (L : List Int) (cap lcap a : Nat) (hw : howP xs) (hxl : xs.length ≤ 1000) (hxc : xs.length ≤ cap) (hn : L.length ≤ 1000) (ha : a ≤ L.length) (w : World) (hA : AtI w o xs) (hL : NumsAt w lo L) :
    Calls Tryz.prog 28 #[patV start o xs.length cap, .slice lo L.length lcap, .int .i64 (a : Nat)] w (ReachQ L.length (reachR L xs fun k => decide (k = a)) w) := by
  obtain ⟨P, hP⟩ : ∃ P, ReachQ L.length (reachR L xs fun k => decide (k = a)) w = P := ⟨_, rfl⟩
  have HP := Lib.hid hP
  rw [hP]
  obtain ⟨w1, hw1⟩ : ∃ w1, w.alloc (patO start o xs.length cap) = w1 := ⟨_, rfl⟩
  have b1 : Below w.heap.size w w1 := by rw [← hw1]; exact (Below.refl _ _).alloc (Nat.le_refl _) _
  have z1 : w1.heap.size = w.heap.size + 1 := by rw [← hw1]; simp
  have r1 : w1.heap[w.heap.size]? = some (patO start o xs.length cap) := by rw [← hw1]; exact heap_alloc_new _ _
  obtain ⟨o1, hm1, ho1⟩ := makeB w1 L.length (by omega)
  obtain ⟨w2, hw2⟩ : ∃ w2, w1.alloc o1 = w2 := ⟨_, rfl⟩
  have b2 : Below w1.heap.size w1 w2 := by rw [← hw2]; exact (Below.refl _ _).alloc (Nat.le_refl _) _
  rw [hw2] at hm1 ho1
  rw [z1] at hm1 ho1
  obtain ⟨w3, hw3⟩ : ∃ w3, w2.setCell ⟨w.heap.size + 1, a, none⟩ (.bool true) = w3 := ⟨_, rfl⟩
  have m3 : Moves (fun k => k = w.heap.size + 1) w2 w3 := by rw [← hw3]; exact Moves.setCell rfl
  have ho3 : RowB w3 (w.heap.size + 1) L.length (fun k => decide (k = a)) := by
    rw [← hw3]
    refine (ho1.set a true ha).ext fun p _ => ?_
    by_cases h : p = a
    · rw [if_pos h, decide_eq_true h]
    · rw [if_neg h, decide_eq_false h]
  have r3 := row_below r1 b2
  obtain ⟨p0, p1⟩ := pat_cells r3
  have B2 := b1.trans (b2.mono b1.size)
  have B3 := Moves.below B2 B2.size m3 (fun k hk => by omega)
  have kc := ho1.cell ha
  have kf := ho1.frozen a
  have HR : Hid (Calls Tryz.prog 44 #[.slice o xs.length cap, .slice lo L.length lcap, .slice (some ⟨w.heap.size + 1, 0, none⟩) (L.length + 1) (L.length + 1)] w3 fun e w' => ∃ g, e = .returned (.slice (some ⟨g, 0, none⟩) (L.length + 1) (L.length + 1)) ∧ P (.returned (.slice (some ⟨g, 0, none⟩) (L.length + 1) (L.length + 1))) w') :=
    Lib.hid ((reach_any lo lcap L hn xs hw hxl o cap hxc _ _ w3 (hA.below B3) (hL.below B3) ho3).mono fun e w' hq => by
      obtain ⟨g, rfl, h1, h2⟩ := hq
      refine ⟨g, rfl, ?_⟩
      rw [← HP.out]
      exact ⟨g, rfl, h1, B3.trans (h2.mono B3.size)⟩)
  have HW1 := Lib.hid hw1
  have HW3 := Lib.hid hw3
  obtain ⟨n, hn'⟩ : ∃ n, L.length = n := ⟨_, rfl⟩
  obtain ⟨m, hm⟩ : ∃ m, xs.length = m := ⟨_, rfl⟩
  rw [hn'] at hm1 hn ha HR ⊢
  rw [← HW1.out, hm] at hm1
  rw [hm] at HR HW1 p1 ⊢
  clear hP HP hA hL b1 z1 b2 B2 B3 m3 ho1 ho3 r1 r3 hw2 hw1 hw3 hn' hm hw
  go_enter Tryz.func28, Tryz.ntmps28
  go_wp2_with fail
  rw [HW3.out]
  refine HR.out.mono ?_
  rintro e w' ⟨g, rfl, hp⟩
  have HF := Lib.hid hp
  clear hp
  go_wp2
  first | exact HF.out | (go_ret; exact HF.out)
end Go.Proofs.YtgjjmbiihbepeaaGreatDoor

namespace Go.Proofs.YtgjjmbiihbepeaaGreatDoor
open Go.RowKit Go.Shelf Go.Maps
attribute [local go_sem] Oper.semAt_some

theorem segP_all (l : List Int) : segP l 0 l.length = l := by unfold segP; rw [List.drop_zero, Nat.sub_zero, List.take_length]
theorem segP_take (l : List Int) (i a : Nat) : segP (l.take a) i a = segP l i a := by
  unfold segP
  rw [List.drop_take, List.take_take, Nat.min_self]
set_option maxRecDepth 100000 in
set_option maxHeartbeats 4000000 in
theorem refFits_any (start : Bool) (o lo : Option Addr) (xs : List ItemP) (L : List Int) (cap lcap : Nat) (hxl : xs.length ≤ 1000) (hxc : xs.length ≤ cap) (hn : L.length ≤ 1000) (w : World) (hA : AtI w o xs) (hL : NumsAt w lo L) :
    Calls Tryz.prog 11 #[patV start o xs.length cap, .slice lo L.length lcap] w fun e w' => e = .returned (.bool (fitsA xs L)) ∧ Below w.heap.size w w' := by
  obtain ⟨P, hP⟩ : ∃ P, (fun (e : Ending) w' => e = .returned (.bool (fitsA xs L)) ∧ Below w.heap.size w w') = P := ⟨_, rfl⟩
  have HP := Lib.hid hP
  rw [hP]
  obtain ⟨w1, hw1⟩ : ∃ w1, w.alloc (patO start o xs.length cap) = w1 := ⟨_, rfl⟩
  have b1 : Below w.heap.size w w1 := by rw [← hw1]; exact (Below.refl _ _).alloc (Nat.le_refl _) _
  have r1 : w1.heap[w.heap.size]? = some (patO start o xs.length cap) := by rw [← hw1]; exact heap_alloc_new _ _
  have HR := Lib.hid (refRight_anyQ start o xs cap 32 (by omega) w1 (hA.below b1))
  have HW1 := Lib.hid hw1
  have HB1 := Lib.hid b1
  have R1 := Lib.hid r1
  obtain ⟨q0, q1⟩ := pat_cells r1
  cases hr : rightB xs 32 with
  | false =>
    rw [hr] at HR
    have HQ : Hid (∀ W, Below w1.heap.size w1 W → P (.returned (.bool false)) W) := Lib.hid fun W hb => by
      rw [← HP.out]
      exact ⟨by unfold fitsA; rw [hr]; rfl, HB1.out.trans (hb.mono HB1.out.size)⟩
    obtain ⟨n, hnn⟩ : ∃ n, xs.length = n := ⟨_, rfl⟩
    obtain ⟨m, hmm⟩ : ∃ m, L.length = m := ⟨_, rfl⟩
    rw [hnn] at HR q1 HW1 R1 ⊢
    rw [hmm] at ⊢
    clear hP hw1 b1 r1 hA hL hnn hmm hn hxl hxc hr
    go_enter Tryz.func11, Tryz.ntmps11
    go_wp2_with fail
    rw [HW1.out]
    refine HR.out.mono ?_
    rintro e w2 ⟨rfl, b2⟩
    have HQ2 := Lib.hid (HQ.out w2 b2)
    clear b2
    go_wp2
    first | exact HQ2.out | (go_ret; exact HQ2.out)
  | true =>
    rw [hr] at HR
    have hw := rightB_how hr
    have HE : Hid (∀ W, Below w1.heap.size w1 W → Calls Tryz.prog 28 #[patV start o xs.length cap, .slice lo L.length lcap, .int .i64 0] W fun e w' => ∃ g, e = .returned (.slice (some ⟨g, 0, none⟩) (L.length + 1) (L.length + 1)) ∧ w'.cell? ⟨g, L.length, none⟩ = some (.bool (fitsA xs L)) ∧ Hid (P (.returned (.bool (fitsA xs L))) w')) := Lib.hid fun W hb => by
      have hbw := HB1.out.trans (hb.mono HB1.out.size)
      refine (ends_any start o lo xs L cap lcap 0 hw hxl hxc hn (Nat.zero_le _) W (hA.below hbw) (hL.below hbw)).mono ?_
      rintro e w' ⟨g, rfl, h1, h2⟩
      have hc := h1.cell (Nat.le_refl _)
      rw [fitsB_reach hw (Nat.zero_le _) (Nat.le_refl _), segP_all] at hc
      refine ⟨g, rfl, ?_, Lib.hid ?_⟩
      · unfold fitsA
        rw [hr, Bool.true_and]
        exact hc
      · rw [← HP.out]
        exact ⟨rfl, hbw.trans (h2.mono hbw.size)⟩
    obtain ⟨n, hnn⟩ : ∃ n, xs.length = n := ⟨_, rfl⟩
    obtain ⟨m, hmm⟩ : ∃ m, L.length = m := ⟨_, rfl⟩
    obtain ⟨B, hB⟩ : ∃ B, fitsA xs L = B := ⟨_, rfl⟩
    rw [hB] at HE
    rw [hnn] at HR q1 HW1 R1 HE ⊢
    rw [hmm] at HE hn ⊢
    clear hP hw1 b1 r1 hA hL hnn hmm hxl hxc hr hw hB
    go_enter Tryz.func11, Tryz.ntmps11
    go_wp2_with fail
    rw [HW1.out]
    refine HR.out.mono ?_
    rintro e w2 ⟨rfl, b2⟩
    obtain ⟨p0, p1⟩ := pat_cells (row_below R1.out b2)
    have HE2 := Lib.hid (HE.out w2 b2)
    clear b2 q0 q1
    go_wp2_with fail
    refine HE2.out.mono ?_
    rintro e w3 ⟨g, rfl, hc, hp⟩
    go_wp2
    first | exact hp.out | (go_ret; exact hp.out)
set_option maxRecDepth 100000 in
set_option maxHeartbeats 4000000 in
theorem refBehind_any (start : Bool) (o lo : Option Addr) (xs : List ItemP) (L : List Int) (cap lcap : Nat) (at_ : Int) (hxl : xs.length ≤ 1000) (hxc : xs.length ≤ cap) (hn : L.length ≤ 1000) (hlc : L.length ≤ lcap) (w : World) (hA : AtI w o xs) (hL : NumsAt w lo L) :
    Calls Tryz.prog 13 #[patV start o xs.length cap, .slice lo L.length lcap, .int .i64 at_] w fun e w' => e = .returned (.bool (behindA start xs L at_)) ∧ Below w.heap.size w w' := by
  obtain ⟨P, hP⟩ : ∃ P, (fun (e : Ending) w' => e = .returned (.bool (behindA start xs L at_)) ∧ Below w.heap.size w w') = P := ⟨_, rfl⟩
  have HP := Lib.hid hP
  rw [hP]
  obtain ⟨w1, hw1⟩ : ∃ w1, w.alloc (patO start o xs.length cap) = w1 := ⟨_, rfl⟩
  have b1 : Below w.heap.size w w1 := by rw [← hw1]; exact (Below.refl _ _).alloc (Nat.le_refl _) _
  have r1 : w1.heap[w.heap.size]? = some (patO start o xs.length cap) := by rw [← hw1]; exact heap_alloc_new _ _
  have HR := Lib.hid (refRight_anyQ start o xs cap 32 (by omega) w1 (hA.below b1))
  have HW1 := Lib.hid hw1
  have HB1 := Lib.hid b1
  have R1 := Lib.hid r1
  obtain ⟨q0, q1⟩ := pat_cells r1
  have FIN : Hid (∀ W b, behindA start xs L at_ = b → Below w1.heap.size w1 W → P (.returned (.bool b)) W) := Lib.hid fun W b h hb => by
    rw [← HP.out]
    exact ⟨by rw [h], HB1.out.trans (hb.mono HB1.out.size)⟩
  cases hr : rightB xs 32 with
  | false =>
    rw [hr] at HR
    have HQ : Hid (∀ W, Below w1.heap.size w1 W → P (.returned (.bool false)) W) := Lib.hid fun W hb => FIN.out W false (behindA_right hr) hb
    obtain ⟨n, hnn⟩ : ∃ n, xs.length = n := ⟨_, rfl⟩
    obtain ⟨m, hmm⟩ : ∃ m, L.length = m := ⟨_, rfl⟩
    rw [hnn] at HR q1 HW1 R1 ⊢
    rw [hmm] at ⊢
    clear hP hw1 b1 r1 hA hL hnn hmm hn hxl hxc hr hlc
    go_enter Tryz.func13, Tryz.ntmps13
    go_wp2_with fail
    rw [HW1.out]
    refine HR.out.mono ?_
    rintro e w2 ⟨rfl, b2⟩
    have HQ2 := Lib.hid (HQ.out w2 b2)
    clear b2
    go_wp2
    first | exact HQ2.out | (go_ret; exact HQ2.out)
  | true =>
    rw [hr] at HR
    have hw := rightB_how hr
    by_cases hp1 : at_ < 0
    · have HQ : Hid (∀ W, Below w1.heap.size w1 W → P (.returned (.bool false)) W) := Lib.hid fun W hb => FIN.out W false (behindA_place (by omega)) hb
      obtain ⟨n, hnn⟩ : ∃ n, xs.length = n := ⟨_, rfl⟩
      obtain ⟨m, hmm⟩ : ∃ m, L.length = m := ⟨_, rfl⟩
      rw [hnn] at HR q1 HW1 R1 ⊢
      rw [hmm] at ⊢
      clear hP hw1 b1 r1 hA hL hnn hmm hn hxl hxc hr hlc hw
      go_enter Tryz.func13, Tryz.ntmps13
      go_wp2_with fail
      rw [HW1.out]
      refine HR.out.mono ?_
      rintro e w2 ⟨rfl, b2⟩
      have HQ2 := Lib.hid (HQ.out w2 b2)
      clear b2
      go_wp2
      first | exact HQ2.out | (go_ret; exact HQ2.out)
    by_cases hp2 : ((L.length : Nat) : Int) < at_
    · have HQ : Hid (∀ W, Below w1.heap.size w1 W → P (.returned (.bool false)) W) := Lib.hid fun W hb => FIN.out W false (behindA_place (by omega)) hb
      obtain ⟨n, hnn⟩ : ∃ n, xs.length = n := ⟨_, rfl⟩
      obtain ⟨m, hmm⟩ : ∃ m, L.length = m := ⟨_, rfl⟩
      rw [hnn] at HR q1 HW1 R1 ⊢
      rw [hmm] at hp2 ⊢
      clear hP hw1 b1 r1 hA hL hnn hmm hn hxl hxc hr hlc hw
      go_enter Tryz.func13, Tryz.ntmps13
      go_wp2_with fail
      rw [HW1.out]
      refine HR.out.mono ?_
      rintro e w2 ⟨rfl, b2⟩
      have HQ2 := Lib.hid (HQ.out w2 b2)
      clear b2
      go_wp2
      first | exact HQ2.out | (go_ret; exact HQ2.out)
    obtain ⟨a, rfl⟩ := Int.eq_ofNat_of_zero_le (show 0 ≤ at_ by omega)
    have hal : a ≤ L.length := by omega
    have hlt : (L.take a).length = a := by rw [List.length_take]; omega
    have HE : Hid (∀ W i, i ≤ a → Below w1.heap.size w1 W → Calls Tryz.prog 28 #[patV start o xs.length cap, .slice lo a lcap, .int .i64 (i : Nat)] W fun e w' => ∃ g, e = .returned (.slice (some ⟨g, 0, none⟩) (a + 1) (a + 1)) ∧ w'.cell? ⟨g, a, none⟩ = some (.bool (fitsB xs (segP L i a))) ∧ w'.cell? ⟨w.heap.size, 0, none⟩ = some (.bool start) ∧ w'.cell? ⟨w.heap.size, 1, none⟩ = some (.slice o xs.length cap) ∧ Hid (Below w1.heap.size w1 w')) := Lib.hid fun W i hi hb => by
      have hbw := HB1.out.trans (hb.mono HB1.out.size)
      have h0 := ends_any start o lo xs (L.take a) cap lcap i hw hxl hxc (by omega) (by omega) W (hA.below hbw) ((hL.takeQ a).below hbw)
      rw [hlt] at h0
      refine h0.mono ?_
      rintro e w' ⟨g, rfl, h1, h2⟩
      have hc := h1.cell (Nat.le_refl _)
      rw [fitsB_reach hw hi (by omega), segP_take] at hc
      have hb3 := hb.trans (h2.mono hb.size)
      obtain ⟨p0, p1⟩ := pat_cells (row_below R1.out hb3)
      exact ⟨g, rfl, hc, p0, p1, Lib.hid hb3⟩
    have YES : Hid (∀ i, i ≤ a → (start = true → i = 0) → fitsB xs (segP L i a) = true → behindA start xs L ((a : Nat) : Int) = true) := Lib.hid fun i hi hs h => by
      unfold behindA
      rw [hr, decide_eq_true (show 0 ≤ ((a : Nat) : Int) ∧ ((a : Nat) : Int) ≤ ((L.length : Nat) : Int) by omega), Int.toNat_natCast, Bool.true_and, Bool.true_and]
      cases start with
      | true =>
        obtain rfl : i = 0 := hs rfl
        exact h
      | false =>
        rw [if_neg (by decide), List.any_eq_true]
        exact ⟨i, List.mem_range.2 (by omega), h⟩
    have NO : Hid ((∀ i, i ≤ a → (start = true → i = 0) → fitsB xs (segP L i a) = false) → behindA start xs L ((a : Nat) : Int) = false) := Lib.hid fun h => by
      unfold behindA
      rw [hr, decide_eq_true (show 0 ≤ ((a : Nat) : Int) ∧ ((a : Nat) : Int) ≤ ((L.length : Nat) : Int) by omega), Int.toNat_natCast, Bool.true_and, Bool.true_and]
      cases start with
      | true => exact h 0 (Nat.zero_le _) (fun _ => rfl)
      | false =>
        rw [if_neg (by decide), Bool.eq_false_iff, ne_eq, List.any_eq_true]
        rintro ⟨i, hi, h2⟩
        have := List.mem_range.1 hi
        rw [h i (by omega) (fun e => by cases e)] at h2
        cases h2
    obtain ⟨n, hnn⟩ : ∃ n, xs.length = n := ⟨_, rfl⟩
    obtain ⟨m, hmm⟩ : ∃ m, L.length = m := ⟨_, rfl⟩
    rw [hnn] at HR q1 HW1 R1 HE ⊢
    rw [hmm] at hn hlc hal hp2 ⊢
    have hac : a ≤ lcap := by omega
    have ha6 : a ≤ 1000 := by omega
    have hdA : decide (((a : Nat) : Int) < 0) = false := decide_eq_false (by omega)
    have hdB : decide (m < a) = false := decide_eq_false (by omega)
    clear hP hw1 b1 r1 hA hL hnn hmm hxl hxc hr hw hlt hn
    go_enter Tryz.func13, Tryz.ntmps13
    go_wp2_with fail
    rw [HW1.out]
    refine HR.out.mono ?_
    rintro e w2 ⟨rfl, b2⟩
    have HB2 := Lib.hid b2
    clear b2 q0 q1
    go_wp2_with fail
    go_loopg [7] (a + 1) (fun k' v7 wr => ∃ (i : Nat), v7 = .int .i64 (i : Nat) ∧ i ≤ a + 1 ∧ a + 1 - i = k' ∧ Hid (∀ j, j < i → (start = true → j = 0) → fitsB xs (segP L j a) = false) ∧ Hid (start = true → i = 0) ∧ Hid (Below w1.heap.size w1 wr))
    case atStart => exact ⟨0, rfl, Nat.zero_le _, rfl, Lib.hid fun j h => absurd h (Nat.not_lt_zero _), Lib.hid fun _ => rfl, HB2⟩
    case round =>
      obtain ⟨i, rfl, hi, rfl, HN, HS, HB⟩ := hrel
      have hi6 : i < 1000000 := by omega
      obtain ⟨p0, p1⟩ := pat_cells (row_below R1.out HB.out)
      rcases Nat.lt_or_ge a i with hgt | hle
      · obtain rfl : i = a + 1 := by omega
        have hl3 : ¬ ((a : Nat) : Int) + 1 ≤ ((a : Nat) : Int) := by omega
        have HF := Lib.hid (FIN.out wr false (NO.out fun j hj hs => HN.out j (by omega) hs) HB.out)
        go_wp2
        first | exact HF.out | (go_ret; exact HF.out)
      · have HEI := Lib.hid (HE.out wr.drew i hle HB.out.drew)
        obtain ⟨B, hB⟩ : ∃ B, fitsB xs (segP L i a) = B := ⟨_, rfl⟩
        rw [hB] at HEI
        have HBB := Lib.hid hB
        clear hB
        go_wp2_with fail
        go_region_with (go_at_call 28; refine HEI.out.mono ?_; rintro e w3 ⟨g, rfl, hc, s0, s1, hb3⟩)
        all_goals
          go_simp
          cases B with
          | true =>
            have HF := Lib.hid (FIN.out _ true (YES.out i hle HS.out HBB.out) hb3.out)
            go_wp2
            first | exact HF.out | (go_ret; exact HF.out)
          | false =>
            cases start with
            | true =>
              have HF := Lib.hid (FIN.out _ false (NO.out fun j hj hs => by
                obtain rfl : i = 0 := HS.out rfl
                obtain rfl : j = 0 := hs rfl
                exact HBB.out) hb3.out)
              go_wp2
              first | exact HF.out | (go_ret; exact HF.out)
            | false =>
              have HN2 : Hid (∀ j, j < i + 1 → (false = true → j = 0) → fitsB xs (segP L j a) = false) := Lib.hid fun j hj hs => by
                rcases Nat.lt_or_ge j i with h | h
                · exact HN.out j h hs
                · obtain rfl : j = i := by omega
                  exact HBB.out
              go_wp2
              go_roundg (a + 1 - (i + 1))
              case measure => omega
              case rel => exact ⟨i + 1, by simp, by omega, rfl, HN2, Lib.hid (fun e => by cases e), hb3⟩
set_option maxRecDepth 100000 in
set_option maxHeartbeats 4000000 in
theorem refAhead_any (start : Bool) (o lo : Option Addr) (xs : List ItemP) (L : List Int) (cap lcap : Nat) (at_ : Int) (hxl : xs.length ≤ 1000) (hxc : xs.length ≤ cap) (hn : L.length ≤ 1000) (w : World) (hA : AtI w o xs) (hL : NumsAt w lo L) :
    Calls Tryz.prog 15 #[patV start o xs.length cap, .slice lo L.length lcap, .int .i64 at_] w fun e w' => e = .returned (.bool (aheadA start xs L at_)) ∧ Below w.heap.size w w' := by
  obtain ⟨P, hP⟩ : ∃ P, (fun (e : Ending) w' => e = .returned (.bool (aheadA start xs L at_)) ∧ Below w.heap.size w w') = P := ⟨_, rfl⟩
  have HP := Lib.hid hP
  rw [hP]
  obtain ⟨w1, hw1⟩ : ∃ w1, w.alloc (patO start o xs.length cap) = w1 := ⟨_, rfl⟩
  have b1 : Below w.heap.size w w1 := by rw [← hw1]; exact (Below.refl _ _).alloc (Nat.le_refl _) _
  have r1 : w1.heap[w.heap.size]? = some (patO start o xs.length cap) := by rw [← hw1]; exact heap_alloc_new _ _
  have HR := Lib.hid (refRight_anyQ start o xs cap 32 (by omega) w1 (hA.below b1))
  have HW1 := Lib.hid hw1
  have HB1 := Lib.hid b1
  have R1 := Lib.hid r1
  obtain ⟨q0, q1⟩ := pat_cells r1
  have FIN : Hid (∀ W b, aheadA start xs L at_ = b → Below w1.heap.size w1 W → P (.returned (.bool b)) W) := Lib.hid fun W b h hb => by
    rw [← HP.out]
    exact ⟨by rw [h], HB1.out.trans (hb.mono HB1.out.size)⟩
  have BAD : rightB xs 32 = false ∨ (rightB xs 32 = true ∧ (at_ < 0 ∨ ((L.length : Nat) : Int) < at_ ∨ (0 ≤ at_ ∧ at_ ≤ ((L.length : Nat) : Int) ∧ start = true ∧ 0 < at_))) ∨ (rightB xs 32 = true ∧ 0 ≤ at_ ∧ at_ ≤ ((L.length : Nat) : Int) ∧ (start = false ∨ at_ = 0)) := by
    cases rightB xs 32 with
    | false => exact .inl rfl
    | true =>
      right
      by_cases h1 : at_ < 0
      · exact .inl ⟨rfl, .inl h1⟩
      by_cases h2 : ((L.length : Nat) : Int) < at_
      · exact .inl ⟨rfl, .inr (.inl h2)⟩
      cases start with
      | false => exact .inr ⟨rfl, by omega, by omega, .inl rfl⟩
      | true =>
        by_cases h3 : 0 < at_
        · exact .inl ⟨rfl, .inr (.inr ⟨by omega, by omega, rfl, h3⟩)⟩
        · exact .inr ⟨rfl, by omega, by omega, .inr (by omega)⟩
  rcases BAD with hr | ⟨hr, hbad⟩ | ⟨hr, h0, h1, hs⟩
  · rw [hr] at HR
    have HQ : Hid (∀ W, Below w1.heap.size w1 W → P (.returned (.bool false)) W) := Lib.hid fun W hb => FIN.out W false (aheadA_right hr) hb
    obtain ⟨n, hnn⟩ : ∃ n, xs.length = n := ⟨_, rfl⟩
    obtain ⟨m, hmm⟩ : ∃ m, L.length = m := ⟨_, rfl⟩
    rw [hnn] at HR q1 HW1 R1 ⊢
    rw [hmm] at ⊢
    clear hP hw1 b1 r1 hA hL hnn hmm hn hxl hxc hr
    go_enter Tryz.func15, Tryz.ntmps15
    go_wp2_with fail
    rw [HW1.out]
    refine HR.out.mono ?_
    rintro e w2 ⟨rfl, b2⟩
    have HQ2 := Lib.hid (HQ.out w2 b2)
    clear b2
    go_wp2
    first | exact HQ2.out | (go_ret; exact HQ2.out)
  · rw [hr] at HR
    have HQ : Hid (∀ W, Below w1.heap.size w1 W → P (.returned (.bool false)) W) := Lib.hid fun W hb => FIN.out W false (by
      rcases hbad with h | h | ⟨h1, h2, rfl, h3⟩
      · exact aheadA_place (by omega)
      · exact aheadA_place (by omega)
      · exact aheadA_start h3) hb
    obtain ⟨n, hnn⟩ : ∃ n, xs.length = n := ⟨_, rfl⟩
    obtain ⟨m, hmm⟩ : ∃ m, L.length = m := ⟨_, rfl⟩
    rw [hnn] at HR q1 HW1 R1 ⊢
    rw [hmm] at hbad ⊢
    clear hP hw1 b1 r1 hA hL hnn hmm hn hxl hxc hr
    rcases hbad with h | h | ⟨h1, h2, rfl, h3⟩
    · go_enter Tryz.func15, Tryz.ntmps15
      go_wp2_with fail
      rw [HW1.out]
      refine HR.out.mono ?_
      rintro e w2 ⟨rfl, b2⟩
      have HQ2 := Lib.hid (HQ.out w2 b2)
      clear b2
      go_wp2
      first | exact HQ2.out | (go_ret; exact HQ2.out)
    · have hge : ¬ at_ < 0 := by omega
      go_enter Tryz.func15, Tryz.ntmps15
      go_wp2_with fail
      rw [HW1.out]
      refine HR.out.mono ?_
      rintro e w2 ⟨rfl, b2⟩
      have HQ2 := Lib.hid (HQ.out w2 b2)
      clear b2
      go_wp2
      first | exact HQ2.out | (go_ret; exact HQ2.out)
    · have hge : ¬ at_ < 0 := by omega
      have hge2 : ¬ ((m : Nat) : Int) < at_ := by omega
      go_enter Tryz.func15, Tryz.ntmps15
      go_wp2_with fail
      rw [HW1.out]
      refine HR.out.mono ?_
      rintro e w2 ⟨rfl, b2⟩
      obtain ⟨p0, p1⟩ := pat_cells (row_below R1.out b2)
      have HQ2 := Lib.hid (HQ.out w2 b2)
      clear b2
      go_wp2
      first | exact HQ2.out | (go_ret; exact HQ2.out)
  · rw [hr] at HR
    have hw := rightB_how hr
    obtain ⟨a, rfl⟩ := Int.eq_ofNat_of_zero_le h0
    have hal : a ≤ L.length := by omega
    have hsB : (!start || decide (((a : Nat) : Int) = 0)) = true := by
      rcases hs with rfl | h
      · rfl
      · rw [decide_eq_true h, Bool.or_true]
    have HE : Hid (∀ W, Below w1.heap.size w1 W → Calls Tryz.prog 28 #[patV start o xs.length cap, .slice lo L.length lcap, .int .i64 (a : Nat)] W fun e w' => ∃ g, e = .returned (.slice (some ⟨g, 0, none⟩) (L.length + 1) (L.length + 1)) ∧ Hid (∀ i, a ≤ i → i ≤ L.length → w'.cell? ⟨g, i, none⟩ = some (.bool (fitsB xs (segP L a i)))) ∧ Hid (Below w1.heap.size w1 w')) := Lib.hid fun W hb => by
      have hbw := HB1.out.trans (hb.mono HB1.out.size)
      refine (ends_any start o lo xs L cap lcap a hw hxl hxc (by omega) hal W (hA.below hbw) (hL.below hbw)).mono ?_
      rintro e w' ⟨g, rfl, h1, h2⟩
      refine ⟨g, rfl, Lib.hid fun i hi hi2 => ?_, Lib.hid (hb.trans (h2.mono hb.size))⟩
      rw [h1.cell hi2, fitsB_reach hw hi hi2]
    have YES : Hid (∀ i, a ≤ i → i ≤ L.length → fitsB xs (segP L a i) = true → aheadA start xs L ((a : Nat) : Int) = true) := Lib.hid fun i hi hi2 h => by
      unfold aheadA
      rw [hr, decide_eq_true (show 0 ≤ ((a : Nat) : Int) ∧ ((a : Nat) : Int) ≤ ((L.length : Nat) : Int) by omega), hsB, Int.toNat_natCast, (ahead_some hal).2 ⟨i, hi, hi2, h⟩]
      rfl
    have NO : Hid ((∀ i, a ≤ i → i ≤ L.length → fitsB xs (segP L a i) = false) → aheadA start xs L ((a : Nat) : Int) = false) := Lib.hid fun h => by
      unfold aheadA
      have h0 : someB xs (L.drop a) = false := by
        rw [Bool.eq_false_iff, ne_eq, ahead_some hal]
        rintro ⟨i, hi, hi2, h2⟩
        rw [h i hi hi2] at h2
        cases h2
      rw [Int.toNat_natCast, h0, Bool.and_false]
    obtain ⟨n, hnn⟩ : ∃ n, xs.length = n := ⟨_, rfl⟩
    obtain ⟨m, hmm⟩ : ∃ m, L.length = m := ⟨_, rfl⟩
    rw [hnn] at HR q1 HW1 R1 HE ⊢
    rw [hmm] at hn hal h1 HE YES NO ⊢
    have ha6 : a ≤ 1000 := by omega
    have hdA : decide (((a : Nat) : Int) < 0) = false := decide_eq_false (by omega)
    have hdB : decide (m < a) = false := decide_eq_false (by omega)
    have hge : ¬ ((a : Nat) : Int) < 0 := by omega
    have hge2 : ¬ ((m : Nat) : Int) < ((a : Nat) : Int) := by omega
    have hm6 : m ≤ 1000 := hn
    clear hP hw1 b1 r1 hA hL hnn hmm hxl hxc hr hw hsB h0 h1
    rcases hs with rfl | hs0
    · go_enter Tryz.func15, Tryz.ntmps15
      go_wp2_with fail
      rw [HW1.out]
      refine HR.out.mono ?_
      rintro e w2 ⟨rfl, b2⟩
      obtain ⟨p0, p1⟩ := pat_cells (row_below R1.out b2)
      have HE2 := Lib.hid (HE.out w2 b2)
      clear b2 q0 q1
      go_wp2_with fail
      refine HE2.out.mono ?_
      rintro e w3 ⟨g, rfl, HC, HB3⟩
      clear p0 p1
      go_wp2_with fail
      go_loopg [8] (m + 1 - a) (fun k' v8 wr => ∃ (i : Nat), v8 = .int .i64 (i : Nat) ∧ i ≤ m + 1 ∧ a ≤ i ∧ m + 1 - i = k' ∧ Hid (∀ j, a ≤ j → j < i → fitsB xs (segP L a j) = false) ∧ wr = w3)
      case atStart => exact ⟨a, rfl, by omega, Nat.le_refl _, by omega, Lib.hid fun j h h2 => by omega, rfl⟩
      case round =>
        obtain ⟨i, rfl, hi, hai, rfl, HN, rfl⟩ := hrel
        have hi6 : i < 1000000 := by omega
        rcases Nat.lt_or_ge m i with hgt | hle
        · obtain rfl : i = m + 1 := by omega
          have hl3 : ¬ ((m : Nat) : Int) + 1 ≤ ((m : Nat) : Int) := by omega
          have HF := Lib.hid (FIN.out wr false (NO.out fun j hj hs => HN.out j hj (by omega)) HB3.out)
          go_wp2
          first | exact HF.out | (go_ret; exact HF.out)
        · have kc := HC.out i hai hle
          obtain ⟨B, hB⟩ : ∃ B, fitsB xs (segP L a i) = B := ⟨_, rfl⟩
          rw [hB] at kc
          have HBB := Lib.hid hB
          clear hB
          cases B with
          | true =>
            have HF := Lib.hid (FIN.out wr true (YES.out i hai hle HBB.out) HB3.out)
            go_wp2
            first | exact HF.out | (go_ret; exact HF.out)
          | false =>
            have HN2 : Hid (∀ j, a ≤ j → j < i + 1 → fitsB xs (segP L a j) = false) := Lib.hid fun j h1 hj => by
              rcases Nat.lt_or_ge j i with h | h
              · exact HN.out j h1 h
              · obtain rfl : j = i := by omega
                exact HBB.out
            go_wp2
            go_roundg (m + 1 - (i + 1))
            case measure => omega
            case rel => exact ⟨i + 1, by simp, by omega, by omega, rfl, HN2, rfl⟩
    · obtain rfl : a = 0 := by omega
      go_enter Tryz.func15, Tryz.ntmps15
      go_wp2_with fail
      rw [HW1.out]
      refine HR.out.mono ?_
      rintro e w2 ⟨rfl, b2⟩
      obtain ⟨p0, p1⟩ := pat_cells (row_below R1.out b2)
      have HE2 := Lib.hid (HE.out w2 b2)
      clear b2 q0 q1
      cases start with
      | false =>
        go_wp2_with fail
        refine HE2.out.mono ?_
        rintro e w3 ⟨g, rfl, HC, HB3⟩
        clear p0 p1
        go_wp2_with fail
        go_loopg [8] (m + 1) (fun k' v8 wr => ∃ (i : Nat), v8 = .int .i64 (i : Nat) ∧ i ≤ m + 1 ∧ m + 1 - i = k' ∧ Hid (∀ j, j < i → fitsB xs (segP L 0 j) = false) ∧ wr = w3)
        case atStart => exact ⟨0, rfl, by omega, by omega, Lib.hid fun j h => by omega, rfl⟩
        case round =>
          obtain ⟨i, rfl, hi, rfl, HN, rfl⟩ := hrel
          have hi6 : i < 1000000 := by omega
          rcases Nat.lt_or_ge m i with hgt | hle
          · obtain rfl : i = m + 1 := by omega
            have hl3 : ¬ ((m : Nat) : Int) + 1 ≤ ((m : Nat) : Int) := by omega
            have HF := Lib.hid (FIN.out wr false (NO.out fun j hj hs => HN.out j (by omega)) HB3.out)
            go_wp2
            first | exact HF.out | (go_ret; exact HF.out)
          · have kc := HC.out i (Nat.zero_le _) hle
            obtain ⟨B, hB⟩ : ∃ B, fitsB xs (segP L 0 i) = B := ⟨_, rfl⟩
            rw [hB] at kc
            have HBB := Lib.hid hB
            clear hB
            cases B with
            | true =>
              have HF := Lib.hid (FIN.out wr true (YES.out i (Nat.zero_le _) hle HBB.out) HB3.out)
              go_wp2
              first | exact HF.out | (go_ret; exact HF.out)
            | false =>
              have HN2 : Hid (∀ j, j < i + 1 → fitsB xs (segP L 0 j) = false) := Lib.hid fun j hj => by
                rcases Nat.lt_or_ge j i with h | h
                · exact HN.out j h
                · obtain rfl : j = i := by omega
                  exact HBB.out
              go_wp2
              go_roundg (m + 1 - (i + 1))
              case measure => omega
              case rel => exact ⟨i + 1, by simp, by omega, rfl, HN2, rfl⟩
      | true =>
        go_wp2_with fail
        refine HE2.out.mono ?_
        rintro e w3 ⟨g, rfl, HC, HB3⟩
        clear p0 p1
        go_wp2_with fail
        go_loopg [8] (m + 1) (fun k' v8 wr => ∃ (i : Nat), v8 = .int .i64 (i : Nat) ∧ i ≤ m + 1 ∧ m + 1 - i = k' ∧ Hid (∀ j, j < i → fitsB xs (segP L 0 j) = false) ∧ wr = w3)
        case atStart => exact ⟨0, rfl, by omega, by omega, Lib.hid fun j h => by omega, rfl⟩
        case round =>
          obtain ⟨i, rfl, hi, rfl, HN, rfl⟩ := hrel
          have hi6 : i < 1000000 := by omega
          rcases Nat.lt_or_ge m i with hgt | hle
          · obtain rfl : i = m + 1 := by omega
            have hl3 : ¬ ((m : Nat) : Int) + 1 ≤ ((m : Nat) : Int) := by omega
            have HF := Lib.hid (FIN.out wr false (NO.out fun j hj hs => HN.out j (by omega)) HB3.out)
            go_wp2
            first | exact HF.out | (go_ret; exact HF.out)
          · have kc := HC.out i (Nat.zero_le _) hle
            obtain ⟨B, hB⟩ : ∃ B, fitsB xs (segP L 0 i) = B := ⟨_, rfl⟩
            rw [hB] at kc
            have HBB := Lib.hid hB
            clear hB
            cases B with
            | true =>
              have HF := Lib.hid (FIN.out wr true (YES.out i (Nat.zero_le _) hle HBB.out) HB3.out)
              go_wp2
              first | exact HF.out | (go_ret; exact HF.out)
            | false =>
              have HN2 : Hid (∀ j, j < i + 1 → fitsB xs (segP L 0 j) = false) := Lib.hid fun j hj => by
                rcases Nat.lt_or_ge j i with h | h
                · exact HN.out j h
                · obtain rfl : j = i := by omega
                  exact HBB.out
              go_wp2
              go_roundg (m + 1 - (i + 1))
              case measure => omega
              case rel => exact ⟨i + 1, by simp, by omega, rfl, HN2, rfl⟩
end Go.Proofs.YtgjjmbiihbepeaaGreatDoor

namespace Go.Proofs.YtgjjmbiihbepeaaGreatDoor
open Go.RowKit Go.Shelf Go.Maps
attribute [local go_sem] Oper.semAt_some

theorem drewN_moreK (w : World) (a b : Nat) : (w.drewN a).drewN b = w.drewN (a + b) := World.drewN_drewN w a b
theorem refValue_q (o : Option Addr) (ns : List ByteArray) (cap : Nat) (s : ByteArray) (hn : ns.length ≤ 1000) (w : World) (hA : TxtAt w o ns) :
    Calls Tryz.prog 53 #[.slice o ns.length cap, .string s] w fun e w' => e = .returned (ansV (valueL ns s)) ∧ w' = w := by
  obtain ⟨P, hP⟩ : ∃ P, (fun (e : Ending) w' => e = .returned (ansV (valueL ns s)) ∧ w' = w) = P := ⟨_, rfl⟩
  have HP := Lib.hid hP
  rw [hP]
  obtain ⟨n, hnn⟩ : ∃ n, ns.length = n := ⟨_, rfl⟩
  have HN := Lib.hid hnn
  rw [hnn] at hn ⊢
  have HA := Lib.hid hA
  clear hP hnn hA
  go_enter Tryz.func53, Tryz.ntmps53
  go_wp2_with fail
  go_loopg [6] n (fun k v wr => ∃ (j : Nat), v = .int .i64 (j : Nat) ∧ j ≤ n ∧ k = n - j ∧ Hid (valueL (ns.take j) s = none) ∧ w = wr)
  case atStart => exact ⟨0, rfl, Nat.zero_le _, rfl, Lib.hid rfl, rfl⟩
  case round =>
    obtain ⟨j, rfl, hj, rfl, HI, rfl⟩ := hrel
    rcases Nat.lt_or_ge j n with hlt | hge
    · have hj1 : j < 1000000 := by omega
      obtain ⟨x, hx⟩ : ∃ x, ns[j]? = some x := ⟨_, List.getElem?_eq_getElem (by rw [HN.out]; exact hlt)⟩
      obtain ⟨g, off, rfl, hc⟩ := HA.out (by rw [HN.out]; omega)
      have k0 := hc j x hx
      have hg := World.block_lt_of_cell? w _ k0
      by_cases he : x = s
      · have HQ : Hid (P (.returned (.tuple #[.int .i64 (j : Nat), .bool true])) w) := by
          rw [← HP.out]
          exact Lib.hid ⟨by rw [valueL_pre hx HI.out he]; rfl, rfl⟩
        have hd : (x.toList == s.toList) = true := by rw [he]; simp
        clear hc hx he
        go_wp2
        exact HQ.out
      · have HI2 : Hid (valueL (ns.take (j + 1)) s = none) := Lib.hid (by rw [valueL_snoc hx, HI.out, if_neg he]; rfl)
        have hd : (x.toList == s.toList) = false := toList_sameP he
        clear hc hx he
        go_wp2
        go_roundg (n - (j + 1))
        case measure => omega
        case rel => exact ⟨j + 1, by simp, by omega, rfl, HI2, rfl⟩
    · obtain rfl : j = n := by omega
      have hI := HI.out
      rw [List.take_of_length_le (by rw [HN.out]; exact Nat.le_refl _)] at hI
      have HQ : Hid (P (.returned (.tuple #[.int .i64 0, .bool false])) w) := by
        rw [← HP.out]
        exact Lib.hid ⟨by rw [hI]; rfl, rfl⟩
      clear hI HI
      go_wp2
      exact HQ.out
theorem TxtAt.take {w : World} {o : Option Addr} {ns : List ByteArray} (h : TxtAt w o ns) (j : Nat) : TxtAt w o (ns.take j) := fun hn => by
  obtain ⟨g, off, ho, hc⟩ := h (by rw [List.length_take] at hn; omega)
  refine ⟨g, off, ho, fun i x hx => hc i x ?_⟩
  have hi := (List.getElem?_eq_some_iff.1 hx).1
  rw [List.length_take] at hi
  rwa [List.getElem?_take_of_lt (by omega)] at hx
theorem take_listP (s : ByteArray) (j : Nat) (h : j < s.size) : s.data.toList.take (j + 1) = s.data.toList.take j ++ [s[j]'h] := by
  have hj : j < s.data.toList.length := by simpa using h
  rw [List.take_succ_eq_append_getElem hj]
  rfl
theorem nodupP_more {l : List ByteArray} {j : Nat} {x : ByteArray} (hx : l[j]? = some x) (h : (l.take j).Nodup) (hn : valueL (l.take j) x = none) : (l.take (j + 1)).Nodup := (nodup_snoc hx).2 ⟨h, hn⟩
theorem nodupP_not {l : List ByteArray} {j : Nat} {x : ByteArray} {v : Nat} (hx : l[j]? = some x) (hn : valueL (l.take j) x = some v) : ¬ namesL l := fun h => by
  have h2 : (l.take (j + 1)).Nodup := List.Sublist.nodup (List.take_sublist _ _) h.2.1
  rw [((nodup_snoc hx).1 h2).2] at hn
  cases hn
set_option maxRecDepth 100000 in
set_option maxHeartbeats 4000000 in
theorem refNames_any (o : Option Addr) (ns : List ByteArray) (cap : Nat) (hn : ns.length ≤ 1000) (hc : ns.length ≤ cap) (hz : ∀ s ∈ ns, s.size ≤ 1000000) (w : World) (hA : TxtAt w o ns) :
    Calls Tryz.prog 34 #[.slice o ns.length cap] w fun e w' => e = .returned (.bool (decide (namesL ns))) ∧ ∃ q, w' = w.drewN q := by
  obtain ⟨P, hP⟩ : ∃ P, (fun (e : Ending) w' => e = .returned (.bool (decide (namesL ns))) ∧ ∃ q, w' = w.drewN q) = P := ⟨_, rfl⟩
  have HP := Lib.hid hP
  rw [hP]
  obtain ⟨n, hnn⟩ : ∃ n, ns.length = n := ⟨_, rfl⟩
  have HN := Lib.hid hnn
  rw [hnn] at hn hc ⊢
  have HA := Lib.hid hA
  have HZ := Lib.hid hz
  have NO : Hid (¬ namesL ns → ∀ q, P (.returned (.bool false)) (w.drewN q)) := by
    rw [← HP.out]
    exact Lib.hid fun h q => ⟨by rw [decide_eq_false h], q, rfl⟩
  have YES : Hid (∀ b, decide (namesL ns) = b → ∀ q, P (.returned (.bool b)) (w.drewN q)) := by
    rw [← HP.out]
    exact Lib.hid fun b h q => ⟨by rw [h], q, rfl⟩
  clear hP hnn hA hz
  go_enter Tryz.func34, Tryz.ntmps34
  go_wp2_with fail
  go_loopg [3] n (fun k v wr => ∃ (j q : Nat), v = .int .i64 (j : Nat) ∧ j ≤ n ∧ k = n - j ∧ Hid ((∀ s ∈ ns.take j, nameS s) ∧ (ns.take j).Nodup) ∧ wr = w.drewN q)
  case atStart => exact ⟨0, 0, rfl, Nat.zero_le _, rfl, Lib.hid ⟨fun s h => by simp at h, by simp⟩, rfl⟩
  case round =>
    obtain ⟨j, q, rfl, hj, rfl, HI, rfl⟩ := hrel
    have hwj : IntKind.i64.wrap (((j : Nat) : Int) + 1) = (j : Nat) + 1 := wrap_id (by omega) (by omega)
    rcases Nat.lt_or_ge j n with hlt | hge
    · have hj1 : j < 1000000 := by omega
      obtain ⟨x, hx⟩ : ∃ x, ns[j]? = some x := ⟨_, List.getElem?_eq_getElem (by rw [HN.out]; exact hlt)⟩
      have hxm := List.mem_of_getElem? hx
      have hxz := HZ.out x hxm
      obtain ⟨g, off, rfl, hcc⟩ := HA.out (by rw [HN.out]; omega)
      have k0 := hcc j x hx
      have hg := World.block_lt_of_cell? w _ k0
      have HX := Lib.hid hx
      have HXM := Lib.hid hxm
      have hl : x.data.toList.length = x.size := Array.length_toList
      have HL := Lib.hid hl
      have htl : (ns.take j).length = j := by rw [List.length_take, HN.out]; omega
      have hrv := refValue_q (some ⟨g, off, none⟩) (ns.take j) cap x (by omega)
      rw [htl] at hrv
      have HRV := Lib.hid hrv
      have HAT := Lib.hid (HA.out.take j)
      clear hcc hx hxm hl htl hrv
      go_wp2_with fail
      go_loopg [4] x.size (fun k v wr => ∃ (i : Nat), v = .int .i64 (i : Nat) ∧ i ≤ x.size ∧ k = x.size - i ∧ Hid (∀ b ∈ x.data.toList.take i, letB b = true) ∧ wr = w.drewN q)
      case atStart => exact ⟨0, rfl, Nat.zero_le _, rfl, Lib.hid fun s h => by simp at h, rfl⟩
      case round =>
        obtain ⟨i, rfl, hi, rfl, HI2, rfl⟩ := hrel
        have hwi : IntKind.i64.wrap (((i : Nat) : Int) + 1) = (i : Nat) + 1 := wrap_id (by omega) (by omega)
        rcases Nat.lt_or_ge i x.size with hlt2 | hge2
        · have hle := letter_any (x[i]'hlt2) (w.drewN q)
          have HTK := Lib.hid (take_listP x i hlt2)
          obtain ⟨b, hb⟩ : ∃ b, x[i]'hlt2 = b := ⟨_, rfl⟩
          rw [hb] at hle HTK
          have HLE := Lib.hid hle
          have hbn : (x[i]'hlt2).toNat = b.toNat := by rw [hb]
          obtain ⟨c, hcb⟩ : ∃ c, b.toNat = c := ⟨_, rfl⟩
          rw [hcb] at HLE hbn
          cases hlb : letB b with
          | true =>
            rw [hlb] at HLE
            have HI3 : Hid (∀ b ∈ x.data.toList.take (i + 1), letB b = true) := Lib.hid fun y hy => by
              rw [HTK.out] at hy
              rcases List.mem_append.1 hy with h1 | h1
              · exact HI2.out y h1
              · rw [List.mem_singleton.1 h1]; exact hlb
            clear hle hb hcb hlb
            go_wp2_with fail
            refine HLE.out.mono ?_
            rintro e w2 ⟨rfl, rfl⟩
            clear HLE hbn
            go_wp2
            go_roundg (x.size - (i + 1))
            case measure => omega
            case rel => exact ⟨i + 1, by simp, by omega, rfl, HI3, rfl⟩
          | false =>
            rw [hlb] at HLE
            have HQ := Lib.hid (NO.out (fun h => by
              have := (h.1 x HXM.out).1 b (by
                have h2 : b ∈ x.data.toList.take (i + 1) := by rw [HTK.out]; exact List.mem_append_right _ (by simp)
                exact List.mem_of_mem_take h2)
              rw [hlb] at this
              cases this) q)
            clear hle hb hcb hlb
            go_wp2_with fail
            refine HLE.out.mono ?_
            rintro e w2 ⟨rfl, rfl⟩
            clear HLE hbn
            go_wp2
            exact HQ.out
        · obtain rfl : i = x.size := by omega
          have hall := HI2.out
          rw [List.take_of_length_le (by rw [HL.out]; exact Nat.le_refl _)] at hall
          have HALL := Lib.hid hall
          have HRV2 : Hid (∀ y, Calls Tryz.prog 53 #[.slice (some ⟨g, off, none⟩) j cap, .string x] (w.drewN (q + y)) fun e w' => e = .returned (ansV (valueL (ns.take j) x)) ∧ ∃ m, w' = w.drewN (q + m)) := Lib.hid fun y => (HRV.out (w.drewN (q + y)) (HAT.out.below (below_drewN w _))).mono fun e w' h => ⟨h.1, y, h.2⟩
          clear hall HRV
          cases hval : valueL (ns.take j) x with
          | some v =>
            rw [hval] at HRV2
            have HQ := Lib.hid (NO.out (nodupP_not HX.out hval))
            unfold ansV at HRV2
            clear hval
            go_wp2_with fail
            go_quiet ((exact HRV2.out _))
            go_wp2
            exact HQ.out _
          | none =>
            rw [hval] at HRV2
            have HVN := Lib.hid hval
            unfold ansV at HRV2
            clear hval
            by_cases h0 : x.size = 0
            · have hx0 : x = ⟨#[]⟩ := bytes_ext (by show _ = []; exact List.eq_nil_of_length_eq_zero (by rw [HL.out, h0]))
              have HQ := Lib.hid (NO.out (fun h => by have := (h.1 x HXM.out).2.1; omega))
              have hd : x.toList = [] := by rw [Lib.toList_data, hx0]
              have hd2 : x.toList.isEmpty = true := by rw [hd]; rfl
              clear hx0 h0
              go_wp2_with fail
              go_quiet ((exact HRV2.out _))
              go_wp2
              exact HQ.out _
            · have hd : ¬ x.toList = [] := fun e => h0 (by rw [Lib.toList_data] at e; rw [← HL.out, e]; rfl)
              have hd2 : x.toList.isEmpty = false := by cases hh : x.toList with
                | nil => exact absurd hh hd
                | cons a b => rfl
              by_cases h4 : x.size ≤ 40
              · have HNW : Hid ((∀ s ∈ ns.take (j + 1), nameS s) ∧ (ns.take (j + 1)).Nodup) := Lib.hid ⟨fun s hs => by
                  rw [List.take_add_one, HX.out] at hs
                  rcases List.mem_append.1 hs with h1 | h1
                  · exact HI.out.1 s h1
                  · simp at h1; rw [h1]; exact ⟨HALL.out, by omega, h4⟩, nodupP_more HX.out HI.out.2 HVN.out⟩
                have h5 : ¬ ((x.size : Nat) : Int) > 40 := by omega
                go_wp2_with fail
                go_quiet ((exact HRV2.out _))
                go_wp2
                go_roundg (n - (j + 1))
                case measure => omega
                case rel => exact ⟨j + 1, q + nq, by simp, by omega, rfl, HNW, (drewN_moreK w q nq).symm ▸ rfl⟩
              · have HQ := Lib.hid (NO.out (fun h => h4 (h.1 x HXM.out).2.2))
                have h5 : ((x.size : Nat) : Int) > 40 := by omega
                go_wp2_with fail
                go_quiet ((exact HRV2.out _))
                go_wp2
                exact HQ.out _
    · obtain rfl : j = n := by omega
      have hI := HI.out
      rw [List.take_of_length_le (by rw [HN.out]; exact Nat.le_refl _)] at hI
      have hb : decide (namesL ns) = (decide (1 ≤ j) && decide (j ≤ 32)) := by
        rw [← Bool.decide_and]
        refine decide_eq_decide.2 ⟨fun h => ⟨by have := h.2.2.1; rw [HN.out] at this; exact this, by have := h.2.2.2; rw [HN.out] at this; exact this⟩, fun h => ⟨hI.1, hI.2, by rw [HN.out]; exact h.1, by rw [HN.out]; exact h.2⟩⟩
      have HQ := Lib.hid (YES.out _ hb)
      clear hI HI hb
      by_cases h1 : 1 ≤ j
      · by_cases h2 : j ≤ 32
        · rw [decide_eq_true h1, decide_eq_true h2, show (true && true) = true from rfl] at HQ
          have h3 : ((j : Nat) : Int) ≤ 32 := by omega
          go_wp2
          exact HQ.out _
        · rw [decide_eq_true h1, decide_eq_false h2, show (true && false) = false from rfl] at HQ
          have h3 : ¬ ((j : Nat) : Int) ≤ 32 := by omega
          go_wp2
          exact HQ.out _
      · rw [decide_eq_false h1, Bool.false_and] at HQ
        go_wp2
        exact HQ.out _
end Go.Proofs.YtgjjmbiihbepeaaGreatDoor

namespace Go.Proofs.YtgjjmbiihbepeaaGreatDoor
open Go.RowKit Go.Shelf Go.Maps
attribute [local go_sem] Oper.semAt_some

theorem listK_snoc (ns : List ByteArray) (c : Nat) : ∀ cs : List Nat, cs ≠ [] → listB ns (cs ++ [c]) = listB ns cs ++ 32 :: (nameAt ns c).data.toList
  | [], h => absurd rfl h
  | [a], _ => by
    unfold listB
    rw [List.cons_append, List.nil_append, List.map_cons, List.map_cons, joinK_two]
    simp [Lib.join, List.intercalate]
  | a :: b :: r, _ => by
    have ih := listK_snoc ns c (b :: r) (by simp)
    unfold listB at ih ⊢
    simp only [List.cons_append, List.map_cons] at ih ⊢
    rw [joinK_two, joinK_two, ih]
    simp
theorem listK_one (ns : List ByteArray) (c : Nat) : listB ns [c] = (nameAt ns c).data.toList := by simp [listB, Lib.join, List.intercalate]
set_option maxRecDepth 100000 in
set_option maxHeartbeats 4000000 in
theorem refList_any (o : Option Addr) (ns : List ByteArray) (cap x n : Nat) (hn : ns.length = n) (h32 : n ≤ 32) (hx : x < 2 ^ n) (hz : ∀ s ∈ ns, s.size ≤ 1000) (w : World) (hA : TxtAt w o ns) :
    Calls Tryz.prog 55 #[.int .i64 (x : Nat), .slice o n cap] w fun e w' => e = .returned (strV (listB ns (classesN n x))) ∧ Below w.heap.size w w' := by
  have hx32 : x < 2 ^ 32 := Nat.lt_of_lt_of_le hx (Nat.pow_le_pow_right (by decide) h32)
  have hcz : classesZ ((x : Nat) : Int) = classesN n x := by
    unfold classesZ
    rw [rightZ_32 (Nat.le_refl 32) hx32, if_pos rfl, Int.toNat_natCast]
    exact classesN_32 hx h32
  have KC := Lib.hid (refClasses_any ((x : Nat) : Int) w)
  have hlt := classesK_lt n x
  have hle := classesN_le n x
  rw [hcz] at KC
  obtain ⟨P, hP⟩ : ∃ P, (fun (e : Ending) w' => e = .returned (strV (listB ns (classesN n x))) ∧ Below w.heap.size w w') = P := ⟨_, rfl⟩
  have HP := Lib.hid hP
  rw [hP]
  obtain ⟨cs, hcs⟩ : ∃ cs, classesN n x = cs := ⟨_, rfl⟩
  rw [hcs] at KC HP hlt hle
  obtain ⟨q, hq⟩ : ∃ q, cs.length = q := ⟨_, rfl⟩
  simp only [hq] at KC
  rw [hq] at hle
  have HQL := Lib.hid hq
  have HA := Lib.hid hA
  have HZ := Lib.hid hz
  have HN := Lib.hid hn
  have HLT := Lib.hid hlt
  clear hP hA hz hn hcs hlt hcz hx hx32 hq
  go_enter Tryz.func55, Tryz.ntmps55
  go_wp2_with fail
  refine KC.out.mono ?_
  rintro e' w1 ⟨o5, c5, rfl, n5, hc5, b1⟩
  have B1 := Lib.hid b1
  have N5 := Lib.hid n5
  have A1 := Lib.hid (HA.out.below b1)
  clear b1 n5
  go_wp2_with fail
  go_loopg [5, 7] q (fun k v i wr => ∃ (j : Nat) (t : ByteArray), i = .int .i64 (j : Nat) ∧ v = .string t ∧ Hid (t.data.toList = listB ns (cs.take j)) ∧ j ≤ q ∧ k = q - j ∧ w1 = wr)
  case atStart => exact ⟨0, ⟨#[]⟩, rfl, rfl, Lib.hid (by simp [listB, Lib.join, List.intercalate]), Nat.zero_le _, rfl, rfl⟩
  case round =>
    obtain ⟨j, t, rfl, rfl, HT, hj, rfl, rfl⟩ := hrel
    have htl : t.size ≤ 1001 * j := by
      have h1 := lensK ns HZ.out (cs.take j) (fun c hc => by rw [HN.out]; exact HLT.out c (List.mem_of_mem_take hc))
      rw [← HT.out, List.length_take] at h1
      have h2 : t.data.toList.length = t.size := Array.length_toList
      have h3 : min j cs.length ≤ j := Nat.min_le_left _ _
      omega
    rcases Nat.lt_or_ge j q with hlt | hge
    · have hj1 : j < 1000000 := by omega
      obtain ⟨c, hc⟩ : ∃ d, cs[j]? = some d := ⟨_, List.getElem?_eq_getElem (by rw [HQL.out]; exact hlt)⟩
      have hcn := HLT.out c (List.mem_of_getElem? hc)
      obtain ⟨g5, off5, rfl, hcc5⟩ := N5.out (by rw [List.length_map, HQL.out]; omega)
      have k5 := hcc5 j ((c : Nat) : Int) (by rw [List.getElem?_map, hc]; rfl)
      have hg5 := World.block_lt_of_cell? w1 _ k5
      obtain ⟨g, off, rfl, hcc⟩ := A1.out (by rw [HN.out]; omega)
      obtain ⟨f, hf⟩ : ∃ f, nameAt ns c = f := ⟨_, rfl⟩
      have k0 := hcc c f (by rw [← hf]; exact nameAt_get (by rw [HN.out]; exact hcn))
      have hg := World.block_lt_of_cell? w1 _ k0
      have hfs : f.size ≤ 1000 := HZ.out f (List.mem_of_getElem? (show ns[c]? = some f by rw [← hf]; exact nameAt_get (by rw [HN.out]; exact hcn)))
      have htk : cs.take (j + 1) = cs.take j ++ [c] := by rw [List.take_add_one, hc]; rfl
      have a1 : ¬ 9223372036854775807 < t.size + 1 := by omega
      have a2 : ¬ 9223372036854775807 < t.size + 1 + f.size := by omega
      have a3 : ¬ 9223372036854775807 < t.size + f.size := by omega
      rcases Nat.eq_zero_or_pos j with rfl | h0
      · have HT2 : Hid ((t ++ f).data.toList = listB ns (cs.take (0 + 1))) := Lib.hid (by
          have h1 := HT.out
          rw [List.take_zero] at h1
          have h2 : t.data.toList = [] := h1.trans (by simp [listB, Lib.join, List.intercalate])
          rw [htk, List.take_zero, List.nil_append, listK_one, hf, ByteArray.data_append, Array.toList_append, h2, List.nil_append])
        rw [Nat.add_zero] at k5
        clear hcc hcc5 hc hf htk htl
        go_wp2
        go_roundg (q - (0 + 1))
        case measure => omega
        case rel => exact ⟨0 + 1, t ++ f, by simp, rfl, HT2, by omega, rfl, rfl⟩
      · have HT2 : Hid ((t ++ ⟨#[32]⟩ ++ f).data.toList = listB ns (cs.take (j + 1))) := Lib.hid (by
          have hne : cs.take j ≠ [] := fun h => by
            have := congrArg List.length h
            rw [List.length_take, HQL.out, List.length_nil] at this
            omega
          rw [htk, listK_snoc ns c _ hne, hf, ByteArray.data_append, Array.toList_append, ByteArray.data_append, Array.toList_append, HT.out]
          simp)
        have hjz : ¬ j = 0 := by omega
        clear hcc hcc5 hc hf htk htl
        go_wp2
        go_roundg (q - (j + 1))
        case measure => omega
        case rel => exact ⟨j + 1, t ++ ⟨#[32]⟩ ++ f, by simp, rfl, HT2, by omega, rfl, rfl⟩
    · obtain rfl : j = q := by omega
      have HQ : Hid (P (.returned (.string t)) w1) := by
        rw [← HP.out]
        have h := HT.out
        rw [List.take_of_length_le (by rw [HQL.out]; exact Nat.le_refl _)] at h
        refine Lib.hid ⟨?_, B1.out⟩
        rw [← h]
      clear htl
      go_wp2
      exact HQ.out
end Go.Proofs.YtgjjmbiihbepeaaGreatDoor

namespace Go.Proofs.YtgjjmbiihbepeaaGreatDoor
open Go.RowKit Go.Shelf Go.Maps
attribute [local go_sem] Oper.semAt_some

theorem whole_iffK {n x : Nat} (hx : x < 2 ^ n) : (classesN n x).length = n ↔ x = 2 ^ n - 1 := by
  constructor
  · intro h
    apply Nat.eq_of_testBit_eq
    intro i
    rw [Nat.testBit_two_pow_sub_one]
    by_cases hi : i < n
    · rw [decide_eq_true hi]
      have h2 : (List.range n).filter (fun c => x.testBit c) = List.range n := List.Sublist.eq_of_length List.filter_sublist (by rw [List.length_range]; exact h)
      have h3 : i ∈ (List.range n).filter (fun c => x.testBit c) := by rw [h2]; exact List.mem_range.2 hi
      exact (List.mem_filter.1 h3).2
    · rw [decide_eq_false hi]
      exact Nat.testBit_lt_two_pow (Nat.lt_of_lt_of_le hx (Nat.pow_le_pow_right (by decide) (by omega)))
  · rintro rfl
    unfold classesN
    rw [List.filter_eq_self.2 (fun c hc => by
      have := List.mem_range.1 hc
      simp [Nat.testBit_two_pow_sub_one, this])]
    exact List.length_range
set_option maxRecDepth 100000 in
set_option maxHeartbeats 4000000 in
theorem refPrint_any (o : Option Addr) (ns : List ByteArray) (cap : Nat) (s : Int) (hn : ns.length ≤ 1000) (hc : ns.length ≤ cap) (hz : ∀ s ∈ ns, s.size ≤ 1000) (w : World) (hA : TxtAt w o ns) :
    Calls Tryz.prog 35 #[.int .i64 s, .slice o ns.length cap] w fun e w' => e = .returned (.tuple #[strV (printV ns s), .int .i64 (printE ns s)]) ∧ Below w.heap.size w w' := by
  have HNM := Lib.hid (refNames_any o ns cap hn hc (fun s h => by have := hz s h; omega) w hA)
  obtain ⟨P, hP⟩ : ∃ P, (fun (e : Ending) w' => e = .returned (.tuple #[strV (printV ns s), .int .i64 (printE ns s)]) ∧ Below w.heap.size w w') = P := ⟨_, rfl⟩
  have HP := Lib.hid hP
  rw [hP]
  obtain ⟨n, hnn⟩ : ∃ n, ns.length = n := ⟨_, rfl⟩
  have HR := Lib.hid (fun W => refRight_any s ((n : Nat) : Int) W)
  by_cases hnl : namesL ns
  case neg =>
    rw [decide_eq_false hnl, hnn] at HNM
    have hv : printV ns s = [] := by unfold printV; rw [if_neg hnl]
    have he : printE ns s = 2 := by unfold printE; rw [if_neg hnl]
    have HPP : Hid (∀ W, Below w.heap.size w W → P (.returned (.tuple #[.string ⟨#[]⟩, .int .i64 2])) W) := Lib.hid fun W hb => by
      rw [← HP.out]
      exact ⟨by rw [hv, he], hb⟩
    rw [hnn]
    clear hv he hP hnl hA hz hn hc hnn HR
    go_enter Tryz.func35, Tryz.ntmps35
    go_wp2_with fail
    refine HNM.out.mono ?_
    rintro e w1 ⟨rfl, q, rfl⟩
    have HQ := Lib.hid (HPP.out _ (below_drewN w q))
    go_wp2
    exact HQ.out
  case pos =>
    rw [decide_eq_true hnl, hnn] at HNM
    cases hr : rightZ s ((n : Nat) : Int) with
    | false =>
      rw [hr] at HR
      have hv : printV ns s = [] := by unfold printV; rw [if_pos hnl, hnn, hr]; rfl
      have he : printE ns s = 70 := by unfold printE; rw [if_pos hnl, hnn, hr]; rfl
      have HPP : Hid (∀ W, Below w.heap.size w W → P (.returned (.tuple #[.string ⟨#[]⟩, .int .i64 70])) W) := Lib.hid fun W hb => by
        rw [← HP.out]
        exact ⟨by rw [hv, he], hb⟩
      rw [hnn]
      clear hv he hP hnl hA hz hn hc hnn hr
      go_enter Tryz.func35, Tryz.ntmps35
      go_wp2_with fail
      refine HNM.out.mono ?_
      rintro e w1 ⟨rfl, q, rfl⟩
      have B1 := Lib.hid (below_drewN w q)
      go_wp2_with fail
      refine (HR.out _).mono ?_
      rintro e w2 ⟨rfl, rfl⟩
      have HQ := Lib.hid (HPP.out _ B1.out)
      go_wp2
      exact HQ.out
    | true =>
      rw [hr] at HR
      obtain ⟨x, m, rfl, hm, h1m, h32m, hx⟩ := rightZ_of hr
      obtain rfl : n = m := by omega
      have hv : printV ns ((x : Nat) : Int) = textB ns x := by unfold printV; rw [if_pos hnl, hnn, if_pos hr]; rfl
      have he : printE ns ((x : Nat) : Int) = 0 := by unfold printE; rw [if_pos hnl, hnn, if_pos hr]
      have hx32 : x < 2 ^ 32 := Nat.lt_of_lt_of_le hx (Nat.pow_le_pow_right (by decide) h32m)
      have hcz : classesZ ((x : Nat) : Int) = classesN n x := by
        unfold classesZ
        rw [rightZ_32 (Nat.le_refl 32) hx32, if_pos rfl, Int.toNat_natCast]
        exact classesN_32 hx h32m
      have KC := Lib.hid (fun W => refClasses_any ((x : Nat) : Int) W)
      rw [hcz] at KC
      have hyl := notN_lt (n := n) (x := x)
      have KN := Lib.hid (fun W => refNot_any ((x : Nat) : Int) ((n : Nat) : Int) W)
      rw [notZ_nat h1m h32m hx] at KN
      have hwi := whole_iffK hx
      have KL := Lib.hid (fun W (hb : Below w.heap.size w W) => refList_any o ns cap x n hnn h32m hx hz W (hA.below hb))
      have KM := Lib.hid (fun W (hb : Below w.heap.size w W) => refList_any o ns cap (notN n x) n hnn h32m hyl hz W (hA.below hb))
      have s1 := lensK ns hz (classesN n x) (by rw [hnn]; exact classesK_lt n x)
      have s2 := lensK ns hz (classesN n (notN n x)) (by rw [hnn]; exact classesK_lt n _)
      have s3 := classesN_le n x
      have s4 := classesN_le n (notN n x)
      obtain ⟨L1, hL1⟩ : ∃ L : ByteArray, (⟨(listB ns (classesN n x)).toArray⟩ : ByteArray) = L := ⟨_, rfl⟩
      obtain ⟨L2, hL2⟩ : ∃ L : ByteArray, (⟨(listB ns (classesN n (notN n x))).toArray⟩ : ByteArray) = L := ⟨_, rfl⟩
      have z1 : L1.size ≤ 100000 := by rw [← hL1, strV_size]; omega
      have z2 : L2.size ≤ 100000 := by rw [← hL2, strV_size]; omega
      obtain ⟨T, hT⟩ : ∃ T : ByteArray, (⟨(textB ns x).toArray⟩ : ByteArray) = T := ⟨_, rfl⟩
      obtain ⟨k, hk⟩ : ∃ k, (classesN n x).length = k := ⟨_, rfl⟩
      have TT : (k = n ∧ ⟨#[46]⟩ = T) ∨ (k ≠ n ∧ k = 1 ∧ L1 = T) ∨ (k ≠ n ∧ k ≠ 1 ∧ n < 2 * k ∧ (⟨#[91, 94]⟩ : ByteArray) ++ L2 ++ ⟨#[93]⟩ = T) ∨ (k ≠ n ∧ k ≠ 1 ∧ ¬ n < 2 * k ∧ (⟨#[91]⟩ : ByteArray) ++ L1 ++ ⟨#[93]⟩ = T) := by
        rw [hk] at hwi
        unfold textB at hT
        rw [hnn, hk] at hT
        by_cases g0 : k = n
        · rw [if_pos (hwi.1 g0)] at hT
          exact .inl ⟨g0, hT⟩
        · rw [if_neg (fun h => g0 (hwi.2 h))] at hT
          by_cases g1 : k = 1
          · rw [if_pos g1, hL1] at hT
            exact .inr (.inl ⟨g0, g1, hT⟩)
          · rw [if_neg g1] at hT
            by_cases g2 : n < 2 * k
            · rw [if_pos g2, ← strV_add, ← strV_add, hL2] at hT
              exact .inr (.inr (.inl ⟨g0, g1, g2, hT⟩))
            · rw [if_neg g2, ← strV_add, ← strV_add, hL1] at hT
              exact .inr (.inr (.inr ⟨g0, g1, g2, hT⟩))
      have HPP : Hid (∀ W, Below w.heap.size w W → P (.returned (.tuple #[.string T, .int .i64 0])) W) := Lib.hid fun W hb => by
        rw [← HP.out]
        exact ⟨by rw [hv, he, ← hT], hb⟩
      rw [hnn]
      have KL' : Hid (∀ W, Below w.heap.size w W → Calls Tryz.prog 55 #[.int .i64 (x : Nat), .slice o n cap] W fun e w' => e = .returned (.string L1) ∧ Below W.heap.size W w') := by rw [← hL1]; exact KL
      have KM' : Hid (∀ W, Below w.heap.size w W → Calls Tryz.prog 55 #[.int .i64 (notN n x : Nat), .slice o n cap] W fun e w' => e = .returned (.string L2) ∧ Below W.heap.size W w') := by rw [← hL2]; exact KM
      obtain ⟨y, hy⟩ : ∃ y, notN n x = y := ⟨_, rfl⟩
      rw [hy] at KN KM'
      simp only [hk] at KC
      rw [hk] at s3
      have a1 : ¬ 9223372036854775807 < 2 + L2.size := by omega
      have a2 : ¬ 9223372036854775807 < 2 + L2.size + 1 := by omega
      have a3 : ¬ 9223372036854775807 < 1 + L1.size := by omega
      have a4 : ¬ 9223372036854775807 < 1 + L1.size + 1 := by omega
      clear hv he hP hnl hA hz hn hc hnn hr hx hx32 hcz hyl hwi KL KM s1 s2 s4 hL1 hL2 z1 z2 hT hk hy hm
      rcases TT with ⟨g0, rfl⟩ | ⟨g0, g1, rfl⟩ | ⟨g0, g1, g2, hTT⟩ | ⟨g0, g1, g2, hTT⟩
      all_goals
        go_enter Tryz.func35, Tryz.ntmps35
        go_wp2_with fail
        refine HNM.out.mono ?_
        rintro e w1 ⟨rfl, q, rfl⟩
        have B1 := Lib.hid (below_drewN w q)
        go_wp2_with fail
        refine (HR.out _).mono ?_
        rintro e w2 ⟨rfl, rfl⟩
        go_wp2_with fail
        refine (KC.out _).mono ?_
        rintro e w3 ⟨o5, c5, rfl, _, _, b3⟩
        have B3 := Lib.hid (B1.out.trans (b3.mono B1.out.size))
        clear b3
      · have HQ := Lib.hid (HPP.out _ B3.out)
        go_wp2
        exact HQ.out
      · go_wp2_with fail
        refine (KL'.out _ B3.out).mono ?_
        rintro e w4 ⟨rfl, b4⟩
        have HQ := Lib.hid (HPP.out _ (B3.out.trans (b4.mono B3.out.size)))
        clear b4
        go_wp2
        exact HQ.out
      · go_wp2_with fail
        refine (KN.out _).mono ?_
        rintro e w4 ⟨rfl, rfl⟩
        go_wp2_with fail
        refine (KM'.out _ B3.out).mono ?_
        rintro e w4 ⟨rfl, b4⟩
        have HQ := Lib.hid (HPP.out _ (B3.out.trans (b4.mono B3.out.size)))
        clear b4
        go_wp2
        exact HQ.out
      · go_wp2_with fail
        refine (KL'.out _ B3.out).mono ?_
        rintro e w4 ⟨rfl, b4⟩
        have HQ := Lib.hid (HPP.out _ (B3.out.trans (b4.mono B3.out.size)))
        clear b4
        go_wp2
        exact HQ.out
end Go.Proofs.YtgjjmbiihbepeaaGreatDoor
