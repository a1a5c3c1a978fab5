/- Shaken by bunq.py. -/
import Derived.Test.YtnmhdcbpbaanoaaGreatDoorBuq31
import Derived.Test.YtnmhdcbpbaanoaaGreatDoorBuq33
import Derived.Test.YtnmhdcbpbaanoaaGreatDoorBuq35
import Derived.Test.YtnmhdcbpbaanoaaGreatDoorBuq12
import Derived.Test.YtnmhdcbpbaanoaaGreatDoorBuq25
namespace Go.Proofs.YtnmhdcbpbaanoaaGreatDoor
open Go.RowKit Go.Shelf Go.Maps
attribute [local go_sem] Oper.semAt_some

set_option maxRecDepth 100000 in
set_option maxHeartbeats 4000000 in
theorem reach_none (o lo : Option Addr) (cap lcap : Nat) (L : List Int) (F : Nat → Bool) (g : Nat) (w : World) (hF : RowB w g L.length F) :
    Calls Tryz.prog 89 #[.slice o 0 cap, .slice lo L.length lcap, .slice (some ⟨g, 0, none⟩) (L.length + 1) (L.length + 1)] w (ReachQ L.length F w) := by
  have HF : Hid (ReachQ L.length F w (.returned (.slice (some ⟨g, 0, none⟩) (L.length + 1) (L.length + 1))) w) := Lib.hid ⟨g, rfl, hF, Below.refl _ _⟩
  obtain ⟨P, hP⟩ : ∃ P, ReachQ L.length F w = P := ⟨_, rfl⟩
  rw [hP] at HF ⊢
  clear hP hF
  go_enter Tryz.func89, Tryz.ntmps89
  go_wp2
  first | exact HF.out | (go_ret; exact HF.out)
theorem reach_any (lo : Option Addr) (lcap : Nat) (L : List Int) (hn : L.length ≤ 1000) : ∀ (xs : List ItemP), howP xs → xs.length ≤ 1000 → ∀ (o : Option Addr) (cap : Nat), xs.length ≤ cap → ∀ (F : Nat → Bool) (g : Nat) (w : World), AtI w o xs → NumsAt w lo L → RowB w g L.length F →
    Calls Tryz.prog 89 #[.slice o xs.length cap, .slice lo L.length lcap, .slice (some ⟨g, 0, none⟩) (L.length + 1) (L.length + 1)] w (ReachQ L.length (reachR L xs F) w)
  | [], _, _, o, cap, _, F, g, w, _, _, hF => reach_none o lo cap lcap L F g w hF
  | x :: r, hw, hxl, o, cap, hxc, F, g, w, hA, hL, hF => by
    have hrl : r.length + 1 ≤ 1000 := hxl
    have IH : ∀ o' cap' g' F' W, r.length ≤ cap' → Below w.heap.size w W → AtI W o' r → RowB W g' L.length F' → Calls Tryz.prog 89 #[.slice o' r.length cap', .slice lo L.length lcap, .slice (some ⟨g', 0, none⟩) (L.length + 1) (L.length + 1)] W (ReachQ L.length (reachR L r F') W) := fun o' cap' g' F' W hc hb hA' hF' =>
      reach_any lo lcap L hn r (fun y hy => hw y (List.mem_cons_of_mem _ hy)) (by omega) o' cap' hc F' g' W hA' (hL.below hb) hF'
    rcases hw x (by simp) with h | h | h
    · exact reach_step0 x r o lo cap lcap L F g h hn (by omega) hxc w hA hL hF IH
    · exact reach_step1 x r o lo cap lcap L F g h hn (by omega) hxc w hA hL hF IH
    · exact reach_step2 x r o lo cap lcap L F g h hn (by omega) hxc w hA hL hF IH
set_option maxRecDepth 100000 in
set_option maxHeartbeats 4000000 in
theorem ends_any (start : Bool) (o lo : Option Addr) (xs : List ItemP) (L : List Int) (cap lcap a : Nat) (hw : howP xs) (hxl : xs.length ≤ 1000) (hxc : xs.length ≤ cap) (hn : L.length ≤ 1000) (ha : a ≤ L.length) (w : World) (hA : AtI w o xs) (hL : NumsAt w lo L) :
    Calls Tryz.prog 61 #[patV start o xs.length cap, .slice lo L.length lcap, .int .i64 (a : Nat)] w (ReachQ L.length (reachR L xs fun k => decide (k = a)) w) := by
  obtain ⟨P, hP⟩ : ∃ P, ReachQ L.length (reachR L xs fun k => decide (k = a)) w = P := ⟨_, rfl⟩
  have HP := Lib.hid hP
  rw [hP]
  obtain ⟨w1, hw1⟩ : ∃ w1, w.alloc (patO start o xs.length cap) = w1 := ⟨_, rfl⟩
  have b1 : Below w.heap.size w w1 := by rw [← hw1]; exact (Below.refl _ _).alloc (Nat.le_refl _) _
  have z1 : w1.heap.size = w.heap.size + 1 := by rw [← hw1]; simp
  have r1 : w1.heap[w.heap.size]? = some (patO start o xs.length cap) := by rw [← hw1]; exact heap_alloc_new _ _
  obtain ⟨o1, hm1, ho1⟩ := makeB w1 L.length (by omega)
  obtain ⟨w2, hw2⟩ : ∃ w2, w1.alloc o1 = w2 := ⟨_, rfl⟩
  have b2 : Below w1.heap.size w1 w2 := by rw [← hw2]; exact (Below.refl _ _).alloc (Nat.le_refl _) _
  rw [hw2] at hm1 ho1
  rw [z1] at hm1 ho1
  obtain ⟨w3, hw3⟩ : ∃ w3, w2.setCell ⟨w.heap.size + 1, a, none⟩ (.bool true) = w3 := ⟨_, rfl⟩
  have m3 : Moves (fun k => k = w.heap.size + 1) w2 w3 := by rw [← hw3]; exact Moves.setCell rfl
  have ho3 : RowB w3 (w.heap.size + 1) L.length (fun k => decide (k = a)) := by
    rw [← hw3]
    refine (ho1.set a true ha).ext fun p _ => ?_
    by_cases h : p = a
    · rw [if_pos h, decide_eq_true h]
    · rw [if_neg h, decide_eq_false h]
  have r3 := row_below r1 b2
  obtain ⟨p0, p1⟩ := pat_cells r3
  have B2 := b1.trans (b2.mono b1.size)
  have B3 := Moves.below B2 B2.size m3 (fun k hk => by omega)
  have kc := ho1.cell ha
  have kf := ho1.frozen a
  have HR : Hid (Calls Tryz.prog 89 #[.slice o xs.length cap, .slice lo L.length lcap, .slice (some ⟨w.heap.size + 1, 0, none⟩) (L.length + 1) (L.length + 1)] w3 fun e w' => ∃ g, e = .returned (.slice (some ⟨g, 0, none⟩) (L.length + 1) (L.length + 1)) ∧ P (.returned (.slice (some ⟨g, 0, none⟩) (L.length + 1) (L.length + 1))) w') :=
    Lib.hid ((reach_any lo lcap L hn xs hw hxl o cap hxc _ _ w3 (hA.below B3) (hL.below B3) ho3).mono fun e w' hq => by
      obtain ⟨g, rfl, h1, h2⟩ := hq
      refine ⟨g, rfl, ?_⟩
      rw [← HP.out]
      exact ⟨g, rfl, h1, B3.trans (h2.mono B3.size)⟩)
  have HW1 := Lib.hid hw1
  have HW3 := Lib.hid hw3
  obtain ⟨n, hn'⟩ : ∃ n, L.length = n := ⟨_, rfl⟩
  obtain ⟨m, hm⟩ : ∃ m, xs.length = m := ⟨_, rfl⟩
  rw [hn'] at hm1 hn ha HR ⊢
  rw [← HW1.out, hm] at hm1
  rw [hm] at HR HW1 p1 ⊢
  clear hP HP hA hL b1 z1 b2 B2 B3 m3 ho1 ho3 r1 r3 hw2 hw1 hw3 hn' hm hw
  go_enter Tryz.func61, Tryz.ntmps61
  go_wp2_with fail
  rw [HW3.out]
  refine HR.out.mono ?_
  rintro e w' ⟨g, rfl, hp⟩
  have HF := Lib.hid hp
  clear hp
  go_wp2
  first | exact HF.out | (go_ret; exact HF.out)
end Go.Proofs.YtnmhdcbpbaanoaaGreatDoor
namespace Go.Proofs.YtnmhdcbpbaanoaaGreatDoor
open Go.RowKit Go.Shelf Go.Maps
attribute [local go_sem] Oper.semAt_some

theorem segP_take (l : List Int) (i a : Nat) : segP (l.take a) i a = segP l i a := by
  unfold segP
  rw [List.drop_take, List.take_take, Nat.min_self]
set_option maxRecDepth 100000 in
set_option maxHeartbeats 4000000 in
theorem refBehind_any (start : Bool) (o lo : Option Addr) (xs : List ItemP) (L : List Int) (cap lcap : Nat) (at_ : Int) (hxl : xs.length ≤ 1000) (hxc : xs.length ≤ cap) (hn : L.length ≤ 1000) (hlc : L.length ≤ lcap) (w : World) (hA : AtI w o xs) (hL : NumsAt w lo L) :
    Calls Tryz.prog 37 #[patV start o xs.length cap, .slice lo L.length lcap, .int .i64 at_] w fun e w' => e = .returned (.bool (behindA start xs L at_)) ∧ Below w.heap.size w w' := by
  obtain ⟨P, hP⟩ : ∃ P, (fun (e : Ending) w' => e = .returned (.bool (behindA start xs L at_)) ∧ Below w.heap.size w w') = P := ⟨_, rfl⟩
  have HP := Lib.hid hP
  rw [hP]
  obtain ⟨w1, hw1⟩ : ∃ w1, w.alloc (patO start o xs.length cap) = w1 := ⟨_, rfl⟩
  have b1 : Below w.heap.size w w1 := by rw [← hw1]; exact (Below.refl _ _).alloc (Nat.le_refl _) _
  have r1 : w1.heap[w.heap.size]? = some (patO start o xs.length cap) := by rw [← hw1]; exact heap_alloc_new _ _
  have HR := Lib.hid (refRight_anyQ start o xs cap 32 (by omega) w1 (hA.below b1))
  have HW1 := Lib.hid hw1
  have HB1 := Lib.hid b1
  have R1 := Lib.hid r1
  obtain ⟨q0, q1⟩ := pat_cells r1
  have FIN : Hid (∀ W b, behindA start xs L at_ = b → Below w1.heap.size w1 W → P (.returned (.bool b)) W) := Lib.hid fun W b h hb => by
    rw [← HP.out]
    exact ⟨by rw [h], HB1.out.trans (hb.mono HB1.out.size)⟩
  cases hr : rightB xs 32 with
  | false =>
    rw [hr] at HR
    have HQ : Hid (∀ W, Below w1.heap.size w1 W → P (.returned (.bool false)) W) := Lib.hid fun W hb => FIN.out W false (behindA_right hr) hb
    obtain ⟨n, hnn⟩ : ∃ n, xs.length = n := ⟨_, rfl⟩
    obtain ⟨m, hmm⟩ : ∃ m, L.length = m := ⟨_, rfl⟩
    rw [hnn] at HR q1 HW1 R1 ⊢
    rw [hmm] at ⊢
    clear hP hw1 b1 r1 hA hL hnn hmm hn hxl hxc hr hlc
    go_enter Tryz.func37, Tryz.ntmps37
    go_wp2_with fail
    rw [HW1.out]
    refine HR.out.mono ?_
    rintro e w2 ⟨rfl, b2⟩
    have HQ2 := Lib.hid (HQ.out w2 b2)
    clear b2
    go_wp2
    first | exact HQ2.out | (go_ret; exact HQ2.out)
  | true =>
    rw [hr] at HR
    have hw := rightB_how hr
    by_cases hp1 : at_ < 0
    · have HQ : Hid (∀ W, Below w1.heap.size w1 W → P (.returned (.bool false)) W) := Lib.hid fun W hb => FIN.out W false (behindA_place (by omega)) hb
      obtain ⟨n, hnn⟩ : ∃ n, xs.length = n := ⟨_, rfl⟩
      obtain ⟨m, hmm⟩ : ∃ m, L.length = m := ⟨_, rfl⟩
      rw [hnn] at HR q1 HW1 R1 ⊢
      rw [hmm] at ⊢
      clear hP hw1 b1 r1 hA hL hnn hmm hn hxl hxc hr hlc hw
      go_enter Tryz.func37, Tryz.ntmps37
      go_wp2_with fail
      rw [HW1.out]
      refine HR.out.mono ?_
      rintro e w2 ⟨rfl, b2⟩
      have HQ2 := Lib.hid (HQ.out w2 b2)
      clear b2
      go_wp2
      first | exact HQ2.out | (go_ret; exact HQ2.out)
    by_cases hp2 : ((L.length : Nat) : Int) < at_
    · have HQ : Hid (∀ W, Below w1.heap.size w1 W → P (.returned (.bool false)) W) := Lib.hid fun W hb => FIN.out W false (behindA_place (by omega)) hb
      obtain ⟨n, hnn⟩ : ∃ n, xs.length = n := ⟨_, rfl⟩
      obtain ⟨m, hmm⟩ : ∃ m, L.length = m := ⟨_, rfl⟩
      rw [hnn] at HR q1 HW1 R1 ⊢
      rw [hmm] at hp2 ⊢
      clear hP hw1 b1 r1 hA hL hnn hmm hn hxl hxc hr hlc hw
      go_enter Tryz.func37, Tryz.ntmps37
      go_wp2_with fail
      rw [HW1.out]
      refine HR.out.mono ?_
      rintro e w2 ⟨rfl, b2⟩
      have HQ2 := Lib.hid (HQ.out w2 b2)
      clear b2
      go_wp2
      first | exact HQ2.out | (go_ret; exact HQ2.out)
    obtain ⟨a, rfl⟩ := Int.eq_ofNat_of_zero_le (show 0 ≤ at_ by omega)
    have hal : a ≤ L.length := by omega
    have hlt : (L.take a).length = a := by rw [List.length_take]; omega
    have HE : Hid (∀ W i, i ≤ a → Below w1.heap.size w1 W → Calls Tryz.prog 61 #[patV start o xs.length cap, .slice lo a lcap, .int .i64 (i : Nat)] W fun e w' => ∃ g, e = .returned (.slice (some ⟨g, 0, none⟩) (a + 1) (a + 1)) ∧ w'.cell? ⟨g, a, none⟩ = some (.bool (fitsB xs (segP L i a))) ∧ w'.cell? ⟨w.heap.size, 0, none⟩ = some (.bool start) ∧ w'.cell? ⟨w.heap.size, 1, none⟩ = some (.slice o xs.length cap) ∧ Hid (Below w1.heap.size w1 w')) := Lib.hid fun W i hi hb => by
      have hbw := HB1.out.trans (hb.mono HB1.out.size)
      have h0 := ends_any start o lo xs (L.take a) cap lcap i hw hxl hxc (by omega) (by omega) W (hA.below hbw) ((hL.takeQ a).below hbw)
      rw [hlt] at h0
      refine h0.mono ?_
      rintro e w' ⟨g, rfl, h1, h2⟩
      have hc := h1.cell (Nat.le_refl _)
      rw [fitsB_reach hw hi (by omega), segP_take] at hc
      have hb3 := hb.trans (h2.mono hb.size)
      obtain ⟨p0, p1⟩ := pat_cells (row_below R1.out hb3)
      exact ⟨g, rfl, hc, p0, p1, Lib.hid hb3⟩
    have YES : Hid (∀ i, i ≤ a → (start = true → i = 0) → fitsB xs (segP L i a) = true → behindA start xs L ((a : Nat) : Int) = true) := Lib.hid fun i hi hs h => by
      unfold behindA
      rw [hr, decide_eq_true (show 0 ≤ ((a : Nat) : Int) ∧ ((a : Nat) : Int) ≤ ((L.length : Nat) : Int) by omega), Int.toNat_natCast, Bool.true_and, Bool.true_and]
      cases start with
      | true =>
        obtain rfl : i = 0 := hs rfl
        exact h
      | false =>
        rw [if_neg (by decide), List.any_eq_true]
        exact ⟨i, List.mem_range.2 (by omega), h⟩
    have NO : Hid ((∀ i, i ≤ a → (start = true → i = 0) → fitsB xs (segP L i a) = false) → behindA start xs L ((a : Nat) : Int) = false) := Lib.hid fun h => by
      unfold behindA
      rw [hr, decide_eq_true (show 0 ≤ ((a : Nat) : Int) ∧ ((a : Nat) : Int) ≤ ((L.length : Nat) : Int) by omega), Int.toNat_natCast, Bool.true_and, Bool.true_and]
      cases start with
      | true => exact h 0 (Nat.zero_le _) (fun _ => rfl)
      | false =>
        rw [if_neg (by decide), Bool.eq_false_iff, ne_eq, List.any_eq_true]
        rintro ⟨i, hi, h2⟩
        have := List.mem_range.1 hi
        rw [h i (by omega) (fun e => by cases e)] at h2
        cases h2
    obtain ⟨n, hnn⟩ : ∃ n, xs.length = n := ⟨_, rfl⟩
    obtain ⟨m, hmm⟩ : ∃ m, L.length = m := ⟨_, rfl⟩
    rw [hnn] at HR q1 HW1 R1 HE ⊢
    rw [hmm] at hn hlc hal hp2 ⊢
    have hac : a ≤ lcap := by omega
    have ha6 : a ≤ 1000 := by omega
    have hdA : decide (((a : Nat) : Int) < 0) = false := decide_eq_false (by omega)
    have hdB : decide (m < a) = false := decide_eq_false (by omega)
    clear hP hw1 b1 r1 hA hL hnn hmm hxl hxc hr hw hlt hn
    go_enter Tryz.func37, Tryz.ntmps37
    go_wp2_with fail
    rw [HW1.out]
    refine HR.out.mono ?_
    rintro e w2 ⟨rfl, b2⟩
    have HB2 := Lib.hid b2
    clear b2 q0 q1
    go_wp2_with fail
    go_loopg [7] (a + 1) (fun k' v7 wr => ∃ (i : Nat), v7 = .int .i64 (i : Nat) ∧ i ≤ a + 1 ∧ a + 1 - i = k' ∧ Hid (∀ j, j < i → (start = true → j = 0) → fitsB xs (segP L j a) = false) ∧ Hid (start = true → i = 0) ∧ Hid (Below w1.heap.size w1 wr))
    case atStart => exact ⟨0, rfl, Nat.zero_le _, rfl, Lib.hid fun j h => absurd h (Nat.not_lt_zero _), Lib.hid fun _ => rfl, HB2⟩
    case round =>
      obtain ⟨i, rfl, hi, rfl, HN, HS, HB⟩ := hrel
      have hi6 : i < 1000000 := by omega
      obtain ⟨p0, p1⟩ := pat_cells (row_below R1.out HB.out)
      rcases Nat.lt_or_ge a i with hgt | hle
      · obtain rfl : i = a + 1 := by omega
        have hl3 : ¬ ((a : Nat) : Int) + 1 ≤ ((a : Nat) : Int) := by omega
        have HF := Lib.hid (FIN.out wr false (NO.out fun j hj hs => HN.out j (by omega) hs) HB.out)
        go_wp2
        first | exact HF.out | (go_ret; exact HF.out)
      · have HEI := Lib.hid (HE.out wr.drew i hle HB.out.drew)
        obtain ⟨B, hB⟩ : ∃ B, fitsB xs (segP L i a) = B := ⟨_, rfl⟩
        rw [hB] at HEI
        have HBB := Lib.hid hB
        clear hB
        go_wp2_with fail
        go_region_with (go_at_call 61; refine HEI.out.mono ?_; rintro e w3 ⟨g, rfl, hc, s0, s1, hb3⟩)
        all_goals
          go_simp
          cases B with
          | true =>
            have HF := Lib.hid (FIN.out _ true (YES.out i hle HS.out HBB.out) hb3.out)
            go_wp2
            first | exact HF.out | (go_ret; exact HF.out)
          | false =>
            cases start with
            | true =>
              have HF := Lib.hid (FIN.out _ false (NO.out fun j hj hs => by
                obtain rfl : i = 0 := HS.out rfl
                obtain rfl : j = 0 := hs rfl
                exact HBB.out) hb3.out)
              go_wp2
              first | exact HF.out | (go_ret; exact HF.out)
            | false =>
              have HN2 : Hid (∀ j, j < i + 1 → (false = true → j = 0) → fitsB xs (segP L j a) = false) := Lib.hid fun j hj hs => by
                rcases Nat.lt_or_ge j i with h | h
                · exact HN.out j h hs
                · obtain rfl : j = i := by omega
                  exact HBB.out
              go_wp2
              go_roundg (a + 1 - (i + 1))
              case measure => omega
              case rel => exact ⟨i + 1, by simp, by omega, rfl, HN2, Lib.hid (fun e => by cases e), hb3⟩
set_option maxRecDepth 100000 in
set_option maxHeartbeats 4000000 in
theorem refAhead_any (start : Bool) (o lo : Option Addr) (xs : List ItemP) (L : List Int) (cap lcap : Nat) (at_ : Int) (hxl : xs.length ≤ 1000) (hxc : xs.length ≤ cap) (hn : L.length ≤ 1000) (w : World) (hA : AtI w o xs) (hL : NumsAt w lo L) :
    Calls Tryz.prog 38 #[patV start o xs.length cap, .slice lo L.length lcap, .int .i64 at_] w fun e w' => e = .returned (.bool (aheadA start xs L at_)) ∧ Below w.heap.size w w' := by
  obtain ⟨P, hP⟩ : ∃ P, (fun (e : Ending) w' => e = .returned (.bool (aheadA start xs L at_)) ∧ Below w.heap.size w w') = P := ⟨_, rfl⟩
  have HP := Lib.hid hP
  rw [hP]
  obtain ⟨w1, hw1⟩ : ∃ w1, w.alloc (patO start o xs.length cap) = w1 := ⟨_, rfl⟩
  have b1 : Below w.heap.size w w1 := by rw [← hw1]; exact (Below.refl _ _).alloc (Nat.le_refl _) _
  have r1 : w1.heap[w.heap.size]? = some (patO start o xs.length cap) := by rw [← hw1]; exact heap_alloc_new _ _
  have HR := Lib.hid (refRight_anyQ start o xs cap 32 (by omega) w1 (hA.below b1))
  have HW1 := Lib.hid hw1
  have HB1 := Lib.hid b1
  have R1 := Lib.hid r1
  obtain ⟨q0, q1⟩ := pat_cells r1
  have FIN : Hid (∀ W b, aheadA start xs L at_ = b → Below w1.heap.size w1 W → P (.returned (.bool b)) W) := Lib.hid fun W b h hb => by
    rw [← HP.out]
    exact ⟨by rw [h], HB1.out.trans (hb.mono HB1.out.size)⟩
  have BAD : rightB xs 32 = false ∨ (rightB xs 32 = true ∧ (at_ < 0 ∨ ((L.length : Nat) : Int) < at_ ∨ (0 ≤ at_ ∧ at_ ≤ ((L.length : Nat) : Int) ∧ start = true ∧ 0 < at_))) ∨ (rightB xs 32 = true ∧ 0 ≤ at_ ∧ at_ ≤ ((L.length : Nat) : Int) ∧ (start = false ∨ at_ = 0)) := by
    cases rightB xs 32 with
    | false => exact .inl rfl
    | true =>
      right
      by_cases h1 : at_ < 0
      · exact .inl ⟨rfl, .inl h1⟩
      by_cases h2 : ((L.length : Nat) : Int) < at_
      · exact .inl ⟨rfl, .inr (.inl h2)⟩
      cases start with
      | false => exact .inr ⟨rfl, by omega, by omega, .inl rfl⟩
      | true =>
        by_cases h3 : 0 < at_
        · exact .inl ⟨rfl, .inr (.inr ⟨by omega, by omega, rfl, h3⟩)⟩
        · exact .inr ⟨rfl, by omega, by omega, .inr (by omega)⟩
  rcases BAD with hr | ⟨hr, hbad⟩ | ⟨hr, h0, h1, hs⟩
  · rw [hr] at HR
    have HQ : Hid (∀ W, Below w1.heap.size w1 W → P (.returned (.bool false)) W) := Lib.hid fun W hb => FIN.out W false (aheadA_right hr) hb
    obtain ⟨n, hnn⟩ : ∃ n, xs.length = n := ⟨_, rfl⟩
    obtain ⟨m, hmm⟩ : ∃ m, L.length = m := ⟨_, rfl⟩
    rw [hnn] at HR q1 HW1 R1 ⊢
    rw [hmm] at ⊢
    clear hP hw1 b1 r1 hA hL hnn hmm hn hxl hxc hr
    go_enter Tryz.func38, Tryz.ntmps38
    go_wp2_with fail
    rw [HW1.out]
    refine HR.out.mono ?_
    rintro e w2 ⟨rfl, b2⟩
    have HQ2 := Lib.hid (HQ.out w2 b2)
    clear b2
    go_wp2
    first | exact HQ2.out | (go_ret; exact HQ2.out)
  · rw [hr] at HR
    have HQ : Hid (∀ W, Below w1.heap.size w1 W → P (.returned (.bool false)) W) := Lib.hid fun W hb => FIN.out W false (by
      rcases hbad with h | h | ⟨h1, h2, rfl, h3⟩
      · exact aheadA_place (by omega)
      · exact aheadA_place (by omega)
      · exact aheadA_start h3) hb
    obtain ⟨n, hnn⟩ : ∃ n, xs.length = n := ⟨_, rfl⟩
    obtain ⟨m, hmm⟩ : ∃ m, L.length = m := ⟨_, rfl⟩
    rw [hnn] at HR q1 HW1 R1 ⊢
    rw [hmm] at hbad ⊢
    clear hP hw1 b1 r1 hA hL hnn hmm hn hxl hxc hr
    rcases hbad with h | h | ⟨h1, h2, rfl, h3⟩
    · go_enter Tryz.func38, Tryz.ntmps38
      go_wp2_with fail
      rw [HW1.out]
      refine HR.out.mono ?_
      rintro e w2 ⟨rfl, b2⟩
      have HQ2 := Lib.hid (HQ.out w2 b2)
      clear b2
      go_wp2
      first | exact HQ2.out | (go_ret; exact HQ2.out)
    · have hge : ¬ at_ < 0 := by omega
      go_enter Tryz.func38, Tryz.ntmps38
      go_wp2_with fail
      rw [HW1.out]
      refine HR.out.mono ?_
      rintro e w2 ⟨rfl, b2⟩
      have HQ2 := Lib.hid (HQ.out w2 b2)
      clear b2
      go_wp2
      first | exact HQ2.out | (go_ret; exact HQ2.out)
    · have hge : ¬ at_ < 0 := by omega
      have hge2 : ¬ ((m : Nat) : Int) < at_ := by omega
      go_enter Tryz.func38, Tryz.ntmps38
      go_wp2_with fail
      rw [HW1.out]
      refine HR.out.mono ?_
      rintro e w2 ⟨rfl, b2⟩
      obtain ⟨p0, p1⟩ := pat_cells (row_below R1.out b2)
      have HQ2 := Lib.hid (HQ.out w2 b2)
      clear b2
      go_wp2
      first | exact HQ2.out | (go_ret; exact HQ2.out)
  · rw [hr] at HR
    have hw := rightB_how hr
    obtain ⟨a, rfl⟩ := Int.eq_ofNat_of_zero_le h0
    have hal : a ≤ L.length := by omega
    have hsB : (!start || decide (((a : Nat) : Int) = 0)) = true := by
      rcases hs with rfl | h
      · rfl
      · rw [decide_eq_true h, Bool.or_true]
    have HE : Hid (∀ W, Below w1.heap.size w1 W → Calls Tryz.prog 61 #[patV start o xs.length cap, .slice lo L.length lcap, .int .i64 (a : Nat)] W fun e w' => ∃ g, e = .returned (.slice (some ⟨g, 0, none⟩) (L.length + 1) (L.length + 1)) ∧ Hid (∀ i, a ≤ i → i ≤ L.length → w'.cell? ⟨g, i, none⟩ = some (.bool (fitsB xs (segP L a i)))) ∧ Hid (Below w1.heap.size w1 w')) := Lib.hid fun W hb => by
      have hbw := HB1.out.trans (hb.mono HB1.out.size)
      refine (ends_any start o lo xs L cap lcap a hw hxl hxc (by omega) hal W (hA.below hbw) (hL.below hbw)).mono ?_
      rintro e w' ⟨g, rfl, h1, h2⟩
      refine ⟨g, rfl, Lib.hid fun i hi hi2 => ?_, Lib.hid (hb.trans (h2.mono hb.size))⟩
      rw [h1.cell hi2, fitsB_reach hw hi hi2]
    have YES : Hid (∀ i, a ≤ i → i ≤ L.length → fitsB xs (segP L a i) = true → aheadA start xs L ((a : Nat) : Int) = true) := Lib.hid fun i hi hi2 h => by
      unfold aheadA
      rw [hr, decide_eq_true (show 0 ≤ ((a : Nat) : Int) ∧ ((a : Nat) : Int) ≤ ((L.length : Nat) : Int) by omega), hsB, Int.toNat_natCast, (ahead_some hal).2 ⟨i, hi, hi2, h⟩]
      rfl
    have NO : Hid ((∀ i, a ≤ i → i ≤ L.length → fitsB xs (segP L a i) = false) → aheadA start xs L ((a : Nat) : Int) = false) := Lib.hid fun h => by
      unfold aheadA
      have h0 : someB xs (L.drop a) = false := by
        rw [Bool.eq_false_iff, ne_eq, ahead_some hal]
        rintro ⟨i, hi, hi2, h2⟩
        rw [h i hi hi2] at h2
        cases h2
      rw [Int.toNat_natCast, h0, Bool.and_false]
    obtain ⟨n, hnn⟩ : ∃ n, xs.length = n := ⟨_, rfl⟩
    obtain ⟨m, hmm⟩ : ∃ m, L.length = m := ⟨_, rfl⟩
    rw [hnn] at HR q1 HW1 R1 HE ⊢
    rw [hmm] at hn hal h1 HE YES NO ⊢
    have ha6 : a ≤ 1000 := by omega
    have hdA : decide (((a : Nat) : Int) < 0) = false := decide_eq_false (by omega)
    have hdB : decide (m < a) = false := decide_eq_false (by omega)
    have hge : ¬ ((a : Nat) : Int) < 0 := by omega
    have hge2 : ¬ ((m : Nat) : Int) < ((a : Nat) : Int) := by omega
    have hm6 : m ≤ 1000 := hn
    clear hP hw1 b1 r1 hA hL hnn hmm hxl hxc hr hw hsB h0 h1
    rcases hs with rfl | hs0
    · go_enter Tryz.func38, Tryz.ntmps38
      go_wp2_with fail
      rw [HW1.out]
      refine HR.out.mono ?_
      rintro e w2 ⟨rfl, b2⟩
      obtain ⟨p0, p1⟩ := pat_cells (row_below R1.out b2)
      have HE2 := Lib.hid (HE.out w2 b2)
      clear b2 q0 q1
      go_wp2_with fail
      refine HE2.out.mono ?_
      rintro e w3 ⟨g, rfl, HC, HB3⟩
      clear p0 p1
      go_wp2_with fail
      go_loopg [8] (m + 1 - a) (fun k' v8 wr => ∃ (i : Nat), v8 = .int .i64 (i : Nat) ∧ i ≤ m + 1 ∧ a ≤ i ∧ m + 1 - i = k' ∧ Hid (∀ j, a ≤ j → j < i → fitsB xs (segP L a j) = false) ∧ wr = w3)
      case atStart => exact ⟨a, rfl, by omega, Nat.le_refl _, by omega, Lib.hid fun j h h2 => by omega, rfl⟩
      case round =>
        obtain ⟨i, rfl, hi, hai, rfl, HN, rfl⟩ := hrel
        have hi6 : i < 1000000 := by omega
        rcases Nat.lt_or_ge m i with hgt | hle
        · obtain rfl : i = m + 1 := by omega
          have hl3 : ¬ ((m : Nat) : Int) + 1 ≤ ((m : Nat) : Int) := by omega
          have HF := Lib.hid (FIN.out wr false (NO.out fun j hj hs => HN.out j hj (by omega)) HB3.out)
          go_wp2
          first | exact HF.out | (go_ret; exact HF.out)
        · have kc := HC.out i hai hle
          obtain ⟨B, hB⟩ : ∃ B, fitsB xs (segP L a i) = B := ⟨_, rfl⟩
          rw [hB] at kc
          have HBB := Lib.hid hB
          clear hB
          cases B with
          | true =>
            have HF := Lib.hid (FIN.out wr true (YES.out i hai hle HBB.out) HB3.out)
            go_wp2
            first | exact HF.out | (go_ret; exact HF.out)
          | false =>
            have HN2 : Hid (∀ j, a ≤ j → j < i + 1 → fitsB xs (segP L a j) = false) := Lib.hid fun j h1 hj => by
              rcases Nat.lt_or_ge j i with h | h
              · exact HN.out j h1 h
              · obtain rfl : j = i := by omega
                exact HBB.out
            go_wp2
            go_roundg (m + 1 - (i + 1))
            case measure => omega
            case rel => exact ⟨i + 1, by simp, by omega, by omega, rfl, HN2, rfl⟩
    · obtain rfl : a = 0 := by omega
      go_enter Tryz.func38, Tryz.ntmps38
      go_wp2_with fail
      rw [HW1.out]
      refine HR.out.mono ?_
      rintro e w2 ⟨rfl, b2⟩
      obtain ⟨p0, p1⟩ := pat_cells (row_below R1.out b2)
      have HE2 := Lib.hid (HE.out w2 b2)
      clear b2 q0 q1
      cases start with
      | false =>
        go_wp2_with fail
        refine HE2.out.mono ?_
        rintro e w3 ⟨g, rfl, HC, HB3⟩
        clear p0 p1
        go_wp2_with fail
        go_loopg [8] (m + 1) (fun k' v8 wr => ∃ (i : Nat), v8 = .int .i64 (i : Nat) ∧ i ≤ m + 1 ∧ m + 1 - i = k' ∧ Hid (∀ j, j < i → fitsB xs (segP L 0 j) = false) ∧ wr = w3)
        case atStart => exact ⟨0, rfl, by omega, by omega, Lib.hid fun j h => by omega, rfl⟩
        case round =>
          obtain ⟨i, rfl, hi, rfl, HN, rfl⟩ := hrel
          have hi6 : i < 1000000 := by omega
          rcases Nat.lt_or_ge m i with hgt | hle
          · obtain rfl : i = m + 1 := by omega
            have hl3 : ¬ ((m : Nat) : Int) + 1 ≤ ((m : Nat) : Int) := by omega
            have HF := Lib.hid (FIN.out wr false (NO.out fun j hj hs => HN.out j (by omega)) HB3.out)
            go_wp2
            first | exact HF.out | (go_ret; exact HF.out)
          · have kc := HC.out i (Nat.zero_le _) hle
            obtain ⟨B, hB⟩ : ∃ B, fitsB xs (segP L 0 i) = B := ⟨_, rfl⟩
            rw [hB] at kc
            have HBB := Lib.hid hB
            clear hB
            cases B with
            | true =>
              have HF := Lib.hid (FIN.out wr true (YES.out i (Nat.zero_le _) hle HBB.out) HB3.out)
              go_wp2
              first | exact HF.out | (go_ret; exact HF.out)
            | false =>
              have HN2 : Hid (∀ j, j < i + 1 → fitsB xs (segP L 0 j) = false) := Lib.hid fun j hj => by
                rcases Nat.lt_or_ge j i with h | h
                · exact HN.out j h
                · obtain rfl : j = i := by omega
                  exact HBB.out
              go_wp2
              go_roundg (m + 1 - (i + 1))
              case measure => omega
              case rel => exact ⟨i + 1, by simp, by omega, rfl, HN2, rfl⟩
      | true =>
        go_wp2_with fail
        refine HE2.out.mono ?_
        rintro e w3 ⟨g, rfl, HC, HB3⟩
        clear p0 p1
        go_wp2_with fail
        go_loopg [8] (m + 1) (fun k' v8 wr => ∃ (i : Nat), v8 = .int .i64 (i : Nat) ∧ i ≤ m + 1 ∧ m + 1 - i = k' ∧ Hid (∀ j, j < i → fitsB xs (segP L 0 j) = false) ∧ wr = w3)
        case atStart => exact ⟨0, rfl, by omega, by omega, Lib.hid fun j h => by omega, rfl⟩
        case round =>
          obtain ⟨i, rfl, hi, rfl, HN, rfl⟩ := hrel
          have hi6 : i < 1000000 := by omega
          rcases Nat.lt_or_ge m i with hgt | hle
          · obtain rfl : i = m + 1 := by omega
            have hl3 : ¬ ((m : Nat) : Int) + 1 ≤ ((m : Nat) : Int) := by omega
            have HF := Lib.hid (FIN.out wr false (NO.out fun j hj hs => HN.out j (by omega)) HB3.out)
            go_wp2
            first | exact HF.out | (go_ret; exact HF.out)
          · have kc := HC.out i (Nat.zero_le _) hle
            obtain ⟨B, hB⟩ : ∃ B, fitsB xs (segP L 0 i) = B := ⟨_, rfl⟩
            rw [hB] at kc
            have HBB := Lib.hid hB
            clear hB
            cases B with
            | true =>
              have HF := Lib.hid (FIN.out wr true (YES.out i (Nat.zero_le _) hle HBB.out) HB3.out)
              go_wp2
              first | exact HF.out | (go_ret; exact HF.out)
            | false =>
              have HN2 : Hid (∀ j, j < i + 1 → fitsB xs (segP L 0 j) = false) := Lib.hid fun j hj => by
                rcases Nat.lt_or_ge j i with h | h
                · exact HN.out j h
                · obtain rfl : j = i := by omega
                  exact HBB.out
              go_wp2
              go_roundg (m + 1 - (i + 1))
              case measure => omega
              case rel => exact ⟨i + 1, by simp, by omega, rfl, HN2, rfl⟩
end Go.Proofs.YtnmhdcbpbaanoaaGreatDoor
namespace Go.Proofs.YtnmhdcbpbaanoaaGreatDoor
open Go.RowKit Go.Shelf Go.Maps
attribute [local go_sem] Oper.semAt_some

theorem rights_one (x : RuleP) : rightsU [x] 32 = rightU 32 x := by
  unfold rightsU
  simp
set_option maxRecDepth 100000 in
set_option maxHeartbeats 4000000 in
theorem refAppliesJ_any (x : RulX) (lo : Option Addr) (lcap : Nat) (L : List Int) (a : Int) (hk : L.length ≤ 1000) (hfw : FewC [x]) (w : World) (hI : ItsC w [x]) (hL : ListJ w lo L lcap) :
    Calls Tryz.prog 19 #[rulV x, .slice lo L.length lcap, .int .i64 a] w fun e w' => e = .returned (.bool (appliesU (plX x) L a)) ∧ Below w.heap.size w w' := by
  obtain ⟨P, hP⟩ : ∃ P, (fun (e : Ending) (w' : World) => e = .returned (.bool (appliesU (plX x) L a)) ∧ Below w.heap.size w w') = P := ⟨_, rfl⟩
  have HP := Lib.hid hP
  rw [hP]
  have HAU : appliesU (plX x) L a = (rightU 32 (plX x) && placeU L a && (aheadA x.2.1.1 x.2.1.2.2.1 L a && behindA x.1.1 x.1.2.2.1 L a)) := rfl
  obtain ⟨w1, hw1⟩ : ∃ w1, w.alloc (rulO x) = w1 := ⟨_, rfl⟩
  have b1 : Below w.heap.size w w1 := by rw [← hw1]; exact (Below.refl _ _).alloc (Nat.le_refl _) _
  have z1 : w1.heap.size = w.heap.size + 1 := by rw [← hw1]; simp
  have r1 : w1.heap[w.heap.size]? = some (rulO x) := by rw [← hw1]; exact heap_alloc_new _ _
  obtain ⟨w2, hw2⟩ : ∃ w2, w1.alloc (rulO x) = w2 := ⟨_, rfl⟩
  have b2 : Below w1.heap.size w1 w2 := by rw [← hw2]; exact (Below.refl _ _).alloc (Nat.le_refl _) _
  have r2 : w2.heap[w.heap.size + 1]? = some (rulO x) := by rw [← hw2, ← z1]; exact heap_alloc_new _ _
  have B2 := b1.trans (b2.mono b1.size)
  have A2 : AtC w2 (some ⟨w.heap.size + 1, 0, none⟩) [x] := fun _ => ⟨_, 0, rfl, fun j y hy => by
    have hj : j = 0 := by have := (List.getElem?_eq_some_iff.1 hy).1; simp at this; exact this
    subst hj
    obtain rfl : x = y := by simpa using hy
    exact rul_cells r2⟩
  have HR := Lib.hid (refRightJ_any (some ⟨w.heap.size + 1, 0, none⟩) [x] 1 32 (by simp) hfw w2 A2 (hI.below B2))
  rw [show [x].map plX = [plX x] from rfl, show [x].length = 1 from rfl, rights_one] at HR
  obtain ⟨⟨i1, l1⟩, i2, l2⟩ := hI x (by simp)
  obtain ⟨f1, f2⟩ := hfw x (by simp)
  have KB := Lib.hid (fun W (hb : Below w.heap.size w W) => refBehind_any x.1.1 x.1.2.1 lo x.1.2.2.1 L x.1.2.2.2 lcap a f1 l1 hk hL.le W (i1.below hb) (hL.at_.below hb))
  have KD := Lib.hid (fun W (hb : Below w.heap.size w W) => refAhead_any x.2.1.1 x.2.1.2.1 lo x.2.1.2.2.1 L x.2.1.2.2.2 lcap a f2 l2 hk W (i2.below hb) (hL.at_.below hb))
  have HPI := Lib.hid (place_iff L a)
  have HCC : Hid (∀ W, Below w2.heap.size w2 W → W.cell? ⟨w.heap.size, 0, none⟩ = some (.bool x.1.1) ∧ W.cell? ⟨w.heap.size, 1, none⟩ = some (.slice x.1.2.1 x.1.2.2.1.length x.1.2.2.2) ∧ W.cell? ⟨w.heap.size, 2, none⟩ = some (.bool x.2.1.1) ∧ W.cell? ⟨w.heap.size, 3, none⟩ = some (.slice x.2.1.2.1 x.2.1.2.2.1.length x.2.1.2.2.2)) := Lib.hid fun W hb => by
    obtain ⟨c0, c1, c2, c3, _⟩ := rul_cells (row_below (row_below r1 b2) hb)
    exact ⟨c0, c1, c2, c3⟩
  have HFIN : Hid (∀ v W, appliesU (plX x) L a = v → Below w.heap.size w W → P (.returned (.bool v)) W) := Lib.hid fun v W h hb => by
    rw [← HP.out]
    exact ⟨by rw [h], hb⟩
  rw [HAU] at HFIN
  obtain ⟨c0, c1, c2, c3, c4⟩ := rul_cells r1
  obtain ⟨r, hr⟩ : ∃ q, rightU 32 (plX x) = q := ⟨_, rfl⟩
  rw [hr] at HFIN HR
  obtain ⟨⟨s1, p1, xs1, q1⟩, ⟨s2, p2, xs2, q2⟩, br⟩ := x
  simp only at c0 c1 c2 c3 c4 KB KD HCC HFIN
  obtain ⟨vb, hvb⟩ : ∃ q, behindA s1 xs1 L a = q := ⟨_, rfl⟩
  obtain ⟨va, hva⟩ : ∃ q, aheadA s2 xs2 L a = q := ⟨_, rfl⟩
  obtain ⟨vp, hvp⟩ : ∃ q, placeU L a = q := ⟨_, rfl⟩
  rw [hvp] at HPI
  simp only [hvb, hva, hvp] at KB KD HFIN
  obtain ⟨k, hkk⟩ : ∃ k, L.length = k := ⟨_, rfl⟩
  obtain ⟨m1, hm1⟩ : ∃ k, xs1.length = k := ⟨_, rfl⟩
  obtain ⟨m2, hm2⟩ : ∃ k, xs2.length = k := ⟨_, rfl⟩
  show Calls Tryz.prog 19 #[.agg #[.bool s1, .slice p1 xs1.length q1, .bool s2, .slice p2 xs2.length q2, .bool br], .slice lo L.length lcap, .int .i64 a] w P
  rw [hkk] at HPI
  replace hw1 : w.alloc (.cells #[.bool s1, .slice p1 xs1.length q1, .bool s2, .slice p2 xs2.length q2, .bool br] 37) = w1 := hw1
  replace hw2 : w1.alloc (.cells #[.bool s1, .slice p1 xs1.length q1, .bool s2, .slice p2 xs2.length q2, .bool br] 37) = w2 := hw2
  simp only [hkk, hm1, hm2] at KB KD HCC c1 c3 hw1 hw2 ⊢
  have HW1 := Lib.hid hw1
  have HW2 := Lib.hid hw2
  have HB := Lib.hid B2
  clear hw1 hw2 b1 b2 r1 r2 B2 z1 A2 hI hL hk hfw i1 l1 i2 l2 f1 f2 HAU hr hvb hva hvp hkk hm1 hm2 hP HP
  go_enter Tryz.func19, Tryz.ntmps19
  go_wp2_with fail
  rw [HW1.out]
  try rw [HW2.out]
  refine HR.out.mono ?_
  rintro e w3 ⟨rfl, b3⟩
  have HB3 := Lib.hid (HB.out.trans (b3.mono HB.out.size))
  have HD3 := Lib.hid b3
  obtain ⟨d0, d1, d2, d3⟩ := HCC.out w3 b3
  clear b3 HR c0 c1 c2 c3 c4
  cases r with
  | false =>
    have HQ := Lib.hid (HFIN.out false w3 (by simp) HB3.out)
    clear HFIN HPI KB KD HCC
    go_wp2_with fail
    exact HQ.out
  | true =>
    by_cases h3 : 0 < a
    · have e3 : decide (0 < a) = true := decide_eq_true h3
      by_cases h4 : a < ((k : Nat) : Int)
      · have e4 : decide (a < ((k : Nat) : Int)) = true := decide_eq_true h4
        obtain rfl : vp = true := HPI.out.2 ⟨h3, h4⟩
        have K1 := Lib.hid (KB.out w3 HB3.out)
        clear h3 h4 HPI KB
        go_wp2_with fail
        refine K1.out.mono ?_
        rintro e w4 ⟨rfl, b4⟩
        have HB4 := Lib.hid (HB3.out.trans (b4.mono HB3.out.size))
        obtain ⟨f0, f1, f2, f3⟩ := HCC.out w4 (HD3.out.trans (b4.mono HD3.out.size))
        clear b4 K1 d0 d1 d2 d3 HCC
        cases vb with
        | false =>
          have HQ := Lib.hid (HFIN.out false w4 (by simp) HB4.out)
          clear HFIN KD
          go_wp2_with fail
          exact HQ.out
        | true =>
          have K2 := Lib.hid (KD.out w4 HB4.out)
          clear KD
          go_wp2_with fail
          refine K2.out.mono ?_
          rintro e w5 ⟨rfl, b5⟩
          have HQ := Lib.hid (HFIN.out va w5 (by simp) (HB4.out.trans (b5.mono HB4.out.size)))
          clear b5 K2 HFIN f0 f1 f2 f3
          cases va <;> (go_wp2_with fail; exact HQ.out)
      · have e4 : decide (a < ((k : Nat) : Int)) = false := decide_eq_false h4
        have hv : vp = false := by cases vp with | false => rfl | true => exact absurd (HPI.out.1 rfl).2 h4
        subst hv
        have HQ := Lib.hid (HFIN.out false w3 (by simp) HB3.out)
        clear HFIN HPI KB KD HCC
        go_wp2_with fail
        exact HQ.out
    · have e3 : decide (0 < a) = false := decide_eq_false h3
      have hv : vp = false := by cases vp with | false => rfl | true => exact absurd (HPI.out.1 rfl).1 h3
      subst hv
      have HQ := Lib.hid (HFIN.out false w3 (by simp) HB3.out)
      clear HFIN HPI KB KD HCC
      go_wp2_with fail
      exact HQ.out
end Go.Proofs.YtnmhdcbpbaanoaaGreatDoor
namespace Go.Proofs.YtnmhdcbpbaanoaaGreatDoor
open Go.RowKit Go.Shelf Go.Maps
attribute [local go_sem] Oper.semAt_some
attribute [local go_sem ↓] app_hide

set_option maxRecDepth 100000 in
set_option maxHeartbeats 4000000 in
theorem refDecideJ_any (o lo : Option Addr) (l : List RulX) (cap lcap : Nat) (L : List Int) (a : Int) (hn : l.length ≤ 100000) (hk : L.length ≤ 1000) (hfw : FewC l) (w : World) (hA : AtC w o l) (hI : ItsC w l) (hL : ListJ w lo L lcap) :
    Calls Tryz.prog 17 #[.slice o l.length cap, .slice lo L.length lcap, .int .i64 a] w fun e w' => e = .returned (.tuple #[.bool (decideU (l.map plX) L a).1, .int .i64 (decideU (l.map plX) L a).2]) ∧ Below w.heap.size w w' := by
  obtain ⟨P, hP⟩ : ∃ P, (fun (e : Ending) (w' : World) => e = .returned (.tuple #[.bool (decideU (l.map plX) L a).1, .int .i64 (decideU (l.map plX) L a).2]) ∧ Below w.heap.size w w') = P := ⟨_, rfl⟩
  have HP := Lib.hid hP
  rw [hP]
  have HR := Lib.hid (refRightJ_any o l cap 32 hn hfw w hA hI)
  have HPI := Lib.hid (place_iff L a)
  have HFIN : Hid (∀ b i W, decideU (l.map plX) L a = (b, i) → Below w.heap.size w W → P (.returned (.tuple #[.bool b, .int .i64 i])) W) := Lib.hid fun b i W h hb => by
    rw [← HP.out]
    exact ⟨by rw [h], hb⟩
  have HDW := Lib.hid (fun h => decide_wrong (l := l.map plX) (L := L) (a := a) h)
  have HDU : Hid (rightsU (l.map plX) 32 = true → placeU L a = true → decideU (l.map plX) L a = firstU L a (l.map plX) 0) := Lib.hid fun h1 h2 => by
    unfold decideU
    rw [h1, h2]
    rfl
  have HAP := Lib.hid (fun (h1 : rightsU (l.map plX) 32 = true) (h2 : placeU L a = true) (x : RulX) (hx : x ∈ l) W (hb : Below w.heap.size w W) => by
    have h := refAppliesJ_any x lo lcap L a hk (fun z hz => hfw z (by rw [List.mem_singleton.1 hz]; exact hx)) W (fun z hz => (hI.below hb) z (by rw [List.mem_singleton.1 hz]; exact hx)) (hL.below hb)
    rw [applies_right h1 h2 (List.mem_map_of_mem hx)] at h
    exact h)
  obtain ⟨r, hr⟩ : ∃ q, rightsU (l.map plX) 32 = q := ⟨_, rfl⟩
  obtain ⟨vp, hvp⟩ : ∃ q, placeU L a = q := ⟨_, rfl⟩
  rw [hr] at HR HDW HDU HAP
  rw [hvp] at HPI HDW HDU HAP
  obtain ⟨n, hnn⟩ : ∃ n, l.length = n := ⟨_, rfl⟩
  obtain ⟨k, hkk⟩ : ∃ k, L.length = k := ⟨_, rfl⟩
  have HN := Lib.hid hnn
  have HA := Lib.hid hA
  rw [hnn] at HR hn ⊢
  rw [hkk] at HPI HAP ⊢
  clear hP HP hA hI hL hfw hnn hkk hr hvp hk
  go_enter Tryz.func17, Tryz.ntmps17
  go_wp2_with fail
  refine HR.out.mono ?_
  rintro e w1 ⟨rfl, b1⟩
  have HB1 := Lib.hid b1
  clear b1 HR
  cases r with
  | false =>
    have HQ := Lib.hid (HFIN.out false (-1) w1 (HDW.out (.inl rfl)) HB1.out)
    clear HFIN HDW HDU HAP HPI
    go_wp2_with fail
    first | exact HQ.out | exact bodyPost_ret (results_tmp2 (t := 6) (u := 7) rfl _ _ _) rfl HQ.out
  | true =>
    by_cases h3 : a ≤ 0
    · have hv : vp = false := by cases vp with | false => rfl | true => exact absurd (HPI.out.1 rfl).1 (by omega)
      have e3 : decide (a ≤ 0) = true := decide_eq_true h3
      have HQ := Lib.hid (HFIN.out false (-1) w1 (HDW.out (.inr hv)) HB1.out)
      clear HFIN HDW HDU HAP HPI hv
      go_wp2_with fail
      first | exact HQ.out | exact bodyPost_ret (results_tmp2 (t := 6) (u := 7) rfl _ _ _) rfl HQ.out
    have e3 : decide (a ≤ 0) = false := decide_eq_false h3
    by_cases h4 : ((k : Nat) : Int) ≤ a
    · have hv : vp = false := by cases vp with | false => rfl | true => exact absurd (HPI.out.1 rfl).2 (by omega)
      have e4 : decide (((k : Nat) : Int) ≤ a) = true := decide_eq_true h4
      have HQ := Lib.hid (HFIN.out false (-1) w1 (HDW.out (.inr hv)) HB1.out)
      clear HFIN HDW HDU HAP HPI hv
      go_wp2_with fail
      first | exact HQ.out | exact bodyPost_ret (results_tmp2 (t := 6) (u := 7) rfl _ _ _) rfl HQ.out
    have e4 : decide (((k : Nat) : Int) ≤ a) = false := decide_eq_false h4
    obtain rfl : vp = true := HPI.out.2 ⟨by omega, by omega⟩
    have HD := Lib.hid (HDU.out rfl rfl)
    have HAP2 := Lib.hid (HAP.out rfl rfl)
    clear HDW HDU HAP HPI h3 h4
    go_wp2_with fail
    go_loopg [8] n (fun k' v8 wr => ∃ (j : Nat), v8 = .int .i64 (j : Nat) ∧ j ≤ n ∧ k' = n - j ∧ Hid (∀ y ∈ (l.map plX).take j, sideU L a y = false) ∧ Hid (Below w.heap.size w wr))
    case atStart => exact ⟨0, rfl, Nat.zero_le _, rfl, Lib.hid (fun x hx => by simp at hx), HB1⟩
    case round =>
      obtain ⟨j, rfl, hj, rfl, HT, HB⟩ := hrel
      rcases Nat.lt_or_ge j n with hlt | hge
      · have d1 : decide (((j : Nat) : Int) < ((n : Nat) : Int)) = true := decide_eq_true (by omega)
        obtain ⟨x, hx⟩ : ∃ x, l[j]? = some x := ⟨_, List.getElem?_eq_getElem (by rw [HN.out]; exact hlt)⟩
        have hxm := List.mem_of_getElem? hx
        have hxp : (l.map plX)[j]? = some (plX x) := by rw [List.getElem?_map, hx]; rfl
        obtain ⟨g, off, rfl, hc⟩ := HA.out (by rw [HN.out]; omega)
        obtain ⟨u0, u1, u2, u3, u4⟩ := hc j x hx
        have hb2 := HB.out
        have t0 := cell_keepQ hb2 u0
        have t1 := cell_keepQ hb2 u1
        have t2 := cell_keepQ hb2 u2
        have t3 := cell_keepQ hb2 u3
        have t4 := cell_keepQ hb2 u4
        have K := HAP2.out x hxm wr hb2
        have HYES := Lib.hid (fun (h : sideU L a (plX x) = true) W (hb : Below w.heap.size w W) => HFIN.out (plX x).2.2 ((j : Nat) : Int) W (by rw [HD.out]; exact first_at hxp HT.out h) hb)
        have HNO : Hid (sideU L a (plX x) = false → ∀ y ∈ (l.map plX).take (j + 1), sideU L a y = false) := Lib.hid fun h y hy => by
          rw [List.take_add_one, hxp] at hy
          rcases List.mem_append.1 hy with hy | hy
          · exact HT.out y hy
          · have : y = plX x := by simpa using hy
            rw [this]; exact h
        obtain ⟨s, hs⟩ : ∃ s, sideU L a (plX x) = s := ⟨_, rfl⟩
        rw [hs] at K HYES HNO
        have hlt2 := World.block_lt_of_cell? wr _ t0
        obtain ⟨⟨s1, p1, xs1, k1⟩, ⟨s2, p2, xs2, k2⟩, br⟩ := x
        replace K : Calls Tryz.prog 19 #[.agg #[.bool s1, .slice p1 xs1.length k1, .bool s2, .slice p2 xs2.length k2, .bool br], .slice lo k lcap, .int .i64 a] wr fun e w' => e = .returned (.bool s) ∧ Below wr.heap.size wr w' := K
        simp only at t0 t1 t2 t3 t4 HYES
        obtain ⟨m1, hm1⟩ : ∃ k, xs1.length = k := ⟨_, rfl⟩
        obtain ⟨m2, hm2⟩ : ∃ k, xs2.length = k := ⟨_, rfl⟩
        simp only [hm1, hm2] at K t1 t3
        have HK := Lib.hid K
        have HT4 := Lib.hid t4
        have hjm : j < 1000000 := by omega
        clear hc hx hxm hxp hb2 u0 u1 u2 u3 u4 K hs hm1 hm2 HT
        go_wp2_with fail
        refine HK.out.mono ?_
        rintro e wn ⟨rfl, bn⟩
        have HBn := Lib.hid (HB.out.trans (bn.mono HB.out.size))
        have v4 := cell_keepQ bn HT4.out
        clear bn t0 t1 t2 t3 t4 HK HB
        cases s with
        | true =>
          have HQ := Lib.hid (HYES.out rfl wn HBn.out)
          clear HYES HNO HFIN
          go_wp2_with fail
          first | exact HQ.out | exact bodyPost_ret (results_tmp2 (t := 6) (u := 7) rfl _ _ _) rfl HQ.out
        | false =>
          have HN2 := Lib.hid (HNO.out rfl)
          clear HYES HNO
          go_wp2_with fail
          go_roundg (n - (j + 1))
          case measure => omega
          case rel => exact ⟨j + 1, by simp, by omega, rfl, HN2, HBn⟩
      · obtain rfl : j = n := by omega
        have d1 : decide (((j : Nat) : Int) < ((j : Nat) : Int)) = false := decide_eq_false (by omega)
        have hT := HT.out
        rw [List.take_of_length_le (by rw [List.length_map, HN.out]; exact Nat.le_refl _)] at hT
        have HQ := Lib.hid (HFIN.out true (-1) wr (by rw [HD.out]; exact first_none hT) HB.out)
        clear hT HT HFIN HD HAP2
        go_wp2_with fail
        first | exact HQ.out | exact bodyPost_ret (results_tmp2 (t := 6) (u := 7) rfl _ _ _) rfl HQ.out
def cutsQ (l : List RuleP) (L : List Int) (p : Nat) : List Nat := if p ≤ L.length then cutsM l L p else cutsW l L
theorem cutsQ_one (l : List RuleP) (L : List Int) : cutsQ l L 1 = [0] := by
  unfold cutsQ
  split
  · unfold cutsM; simp
  · have : L = [] := List.eq_nil_of_length_eq_zero (by omega)
    unfold cutsW
    rw [if_pos this]
theorem cutsQ_end (l : List RuleP) (L : List Int) : cutsQ l L (L.length + 1) = cutsW l L := by
  unfold cutsQ
  rw [if_neg (by omega)]
theorem cutsQ_next {l : List RuleP} {L : List Int} {p : Nat} (h1 : 1 ≤ p) (h2 : p ≤ L.length) (hr : rightsU l 32 = true) : cutsQ l L (p + 1) = cutsQ l L p ++ (if (decideU l L ((p : Nat) : Int)).1 = true ∨ p = L.length then [p] else []) := by
  unfold cutsQ
  rw [if_pos h2]
  rcases Nat.lt_or_ge p L.length with h | h
  · have hp : placeU L ((p : Nat) : Int) = true := (place_iff L _).2 ⟨by omega, by omega⟩
    have hd : decideU l L ((p : Nat) : Int) = firstU L ((p : Nat) : Int) l 0 := by
      unfold decideU
      rw [hr, hp]
      rfl
    rw [if_pos (by omega), cutsM_snoc l L h1, hd]
    congr 1
    by_cases e : (firstU L ((p : Nat) : Int) l 0).1 = true
    · rw [if_pos e, if_pos (.inl e)]
    · rw [if_neg e, if_neg (by rintro (h' | h'); exact e h'; omega)]
  · obtain rfl : p = L.length := by omega
    rw [if_neg (by omega), if_pos (.inr rfl)]
    unfold cutsW
    rw [if_neg (fun e => by rw [e] at h1; simp at h1)]
theorem cutsQ_len (l : List RuleP) (L : List Int) (p : Nat) (h : p ≤ L.length + 1) : (cutsQ l L p).length ≤ p + 2 := by
  unfold cutsQ
  split
  · have := cutsM_len l L p; omega
  · have := cutsW_len l L; omega
set_option maxRecDepth 100000 in
set_option maxHeartbeats 4000000 in
theorem refCutsJ_any (o lo : Option Addr) (l : List RulX) (cap lcap : Nat) (L : List Int) (hn : l.length ≤ 100000) (hk : L.length ≤ 1000) (hfw : FewC l) (w : World) (hA : AtC w o l) (hI : ItsC w l) (hL : ListJ w lo L lcap) :
    Calls Tryz.prog 15 #[.slice o l.length cap, .slice lo L.length lcap] w (CutsQ (cutsV (l.map plX) L) (cutsE (l.map plX)) w) := by
  obtain ⟨P, hP⟩ : ∃ P, CutsQ (cutsV (l.map plX) L) (cutsE (l.map plX)) w = P := ⟨_, rfl⟩
  have HP := Lib.hid hP
  rw [hP]
  have HR := Lib.hid (refRightJ_any o l cap 32 hn hfw w hA hI)
  have HDE := Lib.hid (fun a W (hb : Below w.heap.size w W) => refDecideJ_any o lo l cap lcap L a hn hk hfw W (hA.below hb) (hI.below hb) (hL.below hb))
  have HBAD : Hid (rightsU (l.map plX) 32 = false → ∀ W, Below w.heap.size w W → P (.returned (.tuple #[.slice none 0 0, .int .i64 90])) W) := Lib.hid fun h W hb => by
    rw [← HP.out]
    have e1 : cutsV (l.map plX) L = [] := by unfold cutsV; rw [h]; rfl
    have e2 : cutsE (l.map plX) = 90 := by unfold cutsE; rw [h]; rfl
    rw [e1, e2]
    exact ⟨none, 0, rfl, fun h => absurd h (Nat.lt_irrefl _), Nat.le_refl _, hb⟩
  have HEND : Hid (rightsU (l.map plX) 32 = true → ∀ W ro rc q base, (cutsW (l.map plX) L).length = q → W.ownsRow base 3 1 (.slice ro q rc) q ((cutsW (l.map plX) L).map intC) → Below w.heap.size w W → P (.returned (.tuple #[.slice ro q rc, .int .i64 0])) W) := Lib.hid fun h W ro rc q base hq ho hb => by
    rw [← HP.out]
    have e1 : cutsV (l.map plX) L = (cutsW (l.map plX) L).map (fun a => ((a : Nat) : Int)) := by unfold cutsV; rw [if_pos h, cutsW_eq]
    have e2 : cutsE (l.map plX) = 0 := by unfold cutsE; rw [h]; rfl
    rw [e1, e2]
    subst hq
    exact ⟨ro, rc, by rw [List.length_map], nums_own ho, by rw [List.length_map]; exact own_cap ho, hb⟩
  have HNX := Lib.hid (fun (hr : rightsU (l.map plX) 32 = true) (p : Nat) (h1 : 1 ≤ p) (h2 : p ≤ L.length) => cutsQ_next (l := l.map plX) h1 h2 hr)
  have HLE := Lib.hid (fun p h => cutsQ_len (l.map plX) L p h)
  have H1 := Lib.hid (cutsQ_one (l.map plX) L)
  have HE := Lib.hid (cutsQ_end (l.map plX) L)
  obtain ⟨R, hR⟩ : ∃ q, l.map plX = q := ⟨_, rfl⟩
  rw [hR] at HR HBAD HEND HNX HLE H1 HE
  simp only [hR] at HDE
  obtain ⟨r, hr⟩ : ∃ q, rightsU R 32 = q := ⟨_, rfl⟩
  rw [hr] at HR HBAD HEND HNX
  obtain ⟨n, hnn⟩ : ∃ n, l.length = n := ⟨_, rfl⟩
  obtain ⟨k, hkk⟩ : ∃ k, L.length = k := ⟨_, rfl⟩
  rw [hnn] at HR HDE ⊢
  rw [hkk] at HDE HNX HLE HE hk ⊢
  clear hP HP hA hI hL hfw hnn hkk hr hR hn
  go_enter Tryz.func15, Tryz.ntmps15
  go_wp2_with fail
  refine HR.out.mono ?_
  rintro e w1 ⟨rfl, b1⟩
  have HB1 := Lib.hid b1
  clear b1 HR
  cases r with
  | false =>
    have HQ := Lib.hid (HBAD.out rfl w1 HB1.out)
    clear HBAD HEND HNX HDE
    go_wp2_with fail
    first | exact HQ.out | exact bodyPost_ret (results_tmp2 (t := 4) (u := 5) rfl _ _ _) rfl HQ.out
  | true =>
    obtain ⟨w2, hw2⟩ : ∃ w2, w1.alloc (.cells #[.int .i64 0] 3) = w2 := ⟨_, rfl⟩
    have HO2 : Hid (w2.ownsRow w1.heap.size 3 1 (.slice (some ⟨w1.heap.size, 0, none⟩) 1 1) 1 [.int .i64 0]) := Lib.hid (by rw [← hw2]; exact own_oneJ _ (Nat.le_refl _))
    have HB2 : Hid (Below w1.heap.size w1 w2) := Lib.hid (by rw [← hw2]; exact (Below.refl _ _).alloc (Nat.le_refl _) _)
    have HNX2 := Lib.hid (HNX.out rfl)
    have HEN2 := Lib.hid (HEND.out rfl)
    clear HBAD HEND HNX
    go_wp2_with fail
    try rw [hw2]
    clear hw2
    go_loopg [6, 7] (k + 1) (fun k' v6 v7 wr => ∃ (p q : Nat) (ro : Option Addr) (rc : Nat), v7 = .int .i64 (p : Nat) ∧ v6 = .slice ro q rc ∧ 1 ≤ p ∧ p ≤ k + 1 ∧ k' = k + 2 - p ∧ Hid ((cutsQ R L p).length = q) ∧ Hid (wr.ownsRow w1.heap.size 3 1 (.slice ro q rc) q ((cutsQ R L p).map intC)) ∧ Hid (Below w1.heap.size w1 wr))
    case atStart => exact ⟨1, 1, _, _, rfl, rfl, Nat.le_refl _, by omega, by omega, Lib.hid (by rw [H1.out]; rfl), Lib.hid (by rw [H1.out]; exact HO2.out), HB2⟩
    case round =>
      obtain ⟨p, q, ro, rc, rfl, rfl, hp1, hpk, rfl, HQL, HO, HB⟩ := hrel
      rcases Nat.lt_or_ge k p with hlt | hge
      · obtain rfl : p = k + 1 := by omega
        have d1 : decide ((((k + 1 : Nat) : Nat) : Int) ≤ ((k : Nat) : Int)) = false := decide_eq_false (by omega)
        have d2 : decide (((k : Nat) : Int) + 1 ≤ ((k : Nat) : Int)) = false := decide_eq_false (by omega)
        have HQ := Lib.hid (HEN2.out wr ro rc q w1.heap.size (by rw [← HE.out]; exact HQL.out) (by rw [← HE.out]; exact HO.out) (HB1.out.trans (HB.out.mono HB1.out.size)))
        clear HEN2 HNX2 HDE HO
        go_wp2_with fail
        first | exact HQ.out | exact bodyPost_ret (results_tmp2 (t := 4) (u := 5) rfl _ _ _) rfl HQ.out
      · have d1 : decide (((p : Nat) : Int) ≤ ((k : Nat) : Int)) = true := decide_eq_true (by omega)
        have HD := Lib.hid (HDE.out ((p : Nat) : Int) wr (HB1.out.trans (HB.out.mono HB1.out.size)))
        have HN2 := Lib.hid (HNX2.out p hp1 hge)
        have hq1 := HLE.out p (by omega)
        rw [HQL.out] at hq1
        obtain ⟨⟨d, i⟩, hd⟩ : ∃ q, decideU R L ((p : Nat) : Int) = q := ⟨_, rfl⟩
        rw [hd] at HD HN2
        simp only at HD HN2
        have hpm : p < 1000000 := by omega
        clear hd
        go_wp2_with fail
        refine HD.out.mono ?_
        rintro e w3 ⟨rfl, b3⟩
        have HO3 := Lib.hid (own_below HO.out b3)
        have HB3 := Lib.hid (HB.out.trans (b3.mono HB.out.size))
        clear b3 HD HO HB
        have HAPP : Hid ((d = true ∨ p = k) → ∃ g' cap' w6, (appSem #[23, 23] 23 #[.slice ro q rc, .slice (some ⟨w3.heap.size, 0, none⟩) 1 1]).run Tryz.prog (w3.alloc (.cells #[.int .i64 (p : Nat)] 3)) = .ok (.slice (some ⟨g', 0, none⟩) (q + 1) cap') w6 ∧ Hid ((cutsQ R L (p + 1)).length = q + 1) ∧ Hid (w6.ownsRow w1.heap.size 3 1 (.slice (some ⟨g', 0, none⟩) (q + 1) cap') (q + 1) ((cutsQ R L (p + 1)).map intC)) ∧ Hid (Below w1.heap.size w1 w6)) := Lib.hid fun h => by
          have hz3 := HB3.out.size
          obtain ⟨g', cap', w6, hrun, hown', hgrow⟩ := code_ownK p HO3.out (by omega) hz3
          have e : cutsQ R L (p + 1) = cutsQ R L p ++ [p] := by rw [HN2.out, if_pos h]
          exact ⟨g', cap', w6, hrun, Lib.hid (by rw [e, List.length_append, HQL.out]; rfl), Lib.hid (by rw [e, List.map_append]; exact hown'), Lib.hid ((HB3.out.alloc hz3 _).grown hgrow (by rw [World.size_alloc]; omega) (fun k hk => own_rowJ HO3.out hk))⟩
        have HSKIP : Hid (¬ (d = true ∨ p = k) → Hid ((cutsQ R L (p + 1)).length = q) ∧ Hid (w3.ownsRow w1.heap.size 3 1 (.slice ro q rc) q ((cutsQ R L (p + 1)).map intC))) := Lib.hid fun h => by
          have e : cutsQ R L (p + 1) = cutsQ R L p := by rw [HN2.out, if_neg h, List.append_nil]
          rw [e]
          exact ⟨HQL, HO3⟩
        clear HN2 HQL
        cases d with
        | true =>
          obtain ⟨g', cap', w6, hrun, HQ6, HO6, HB6⟩ := HAPP.out (.inl rfl)
          clear HAPP HSKIP
          go_wp2_with fail
          go_roundg (k + 2 - (p + 1))
          case measure => omega
          case rel => exact ⟨p + 1, _, _, _, by simp, rfl, by omega, by omega, rfl, HQ6, HO6, HB6⟩
        | false =>
          by_cases hpk2 : p = k
          · obtain ⟨g', cap', w6, hrun, HQ6, HO6, HB6⟩ := HAPP.out (.inr hpk2)
            have d3 : decide (((p : Nat) : Int) = ((k : Nat) : Int)) = true := decide_eq_true (by omega)
            have d4 : (((p : Nat) : Int) == ((k : Nat) : Int)) = true := beq_iff_eq.2 (by omega)
            clear HAPP HSKIP hpk2
            go_wp2_with fail
            go_roundg (k + 2 - (p + 1))
            case measure => omega
            case rel => exact ⟨p + 1, _, _, _, by simp, rfl, by omega, by omega, rfl, HQ6, HO6, HB6⟩
          · obtain ⟨HQ6, HO6⟩ := HSKIP.out (by rintro (h | h); cases h; exact hpk2 h)
            have d3 : decide (((p : Nat) : Int) = ((k : Nat) : Int)) = false := decide_eq_false (by omega)
            have d4 : (((p : Nat) : Int) == ((k : Nat) : Int)) = false := beq_eq_false_iff_ne.2 (by omega)
            clear HAPP HSKIP hpk2
            go_wp2_with fail
            go_roundg (k + 2 - (p + 1))
            case measure => omega
            case rel => exact ⟨p + 1, _, _, _, by simp, rfl, by omega, by omega, rfl, HQ6, HO6, HB3⟩
end Go.Proofs.YtnmhdcbpbaanoaaGreatDoor
