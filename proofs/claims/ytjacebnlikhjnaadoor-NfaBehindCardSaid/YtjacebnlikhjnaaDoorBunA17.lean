/- forth, back; Fits, Behind, Ahead. Fits, Behind, Ahead. The document's own states, plainly: a set with one state more, closed. The document's own worth, Right, Has of sets, Right of patterns, without the tower of texts (from XKRef and XQRefRight). The document's own bit, has, add. The document's own step. -/
import Derived.Test.YtjacebnlikhjnaaDoorBunA11
import Derived.Test.YtjacebnlikhjnaaDoorBunA16
namespace Go.Proofs.YtjacebnlikhjnaaDoor
open Go.RowKit Go.Shelf Go.Maps
attribute [local go_sem] Oper.semAt_some

/-- The matcher that forth and back answer. -/
def NewQ (lo : Option Addr) (ln lcap : Nat) (back : Bool) (ys : List ItemP) (w : World) (e : Ending) (w' : World) : Prop := ∃ M b o cap, w.heap.size ≤ M ∧ b ≠ M ∧ (0 < ys.length → ∀ k, inQ o k → k ≠ M) ∧ e = .returned (mV M) ∧ MatAt w' M (.slice lo ln lcap) back (.slice o ys.length cap) zeroF zeroF (.map (some b)) ∧ AtI w' o ys ∧ FitMap w' b M ∧ Below w.heap.size w w'
set_option maxHeartbeats 2000000 in
theorem back_any (o lo : Option Addr) (xs : List ItemP) (cap ln lcap : Nat) (hn : xs.length ≤ 1000) (w : World) (hA : AtI w o xs) :
    Calls Tryd.prog 45 #[.slice o xs.length cap, .slice lo ln lcap] w (NewQ lo ln lcap true xs.reverse w) := by
  have HC := Lib.hid (clone_any o xs cap hn w hA)
  have HL := Lib.hid (show xs.reverse.length = xs.length from List.length_reverse)
  obtain ⟨P, hP⟩ : ∃ P, NewQ lo ln lcap true xs.reverse w = P := ⟨_, rfl⟩
  have HP := Lib.hid hP
  rw [hP]
  -- from the turned row on
  have FIN : Hid (∀ (o1 : Option Addr) (c1 : Nat) (W : World), AtI W o1 xs.reverse → Below w.heap.size w W → Calls Tryd.prog 59 #[.agg #[.slice lo ln lcap, .bool true], .slice o1 xs.length c1] W fun e W' => ∃ M, e = .returned (mV M) ∧ P (.returned (mV M)) W') := Lib.hid fun o1 c1 W h1 hb => by
    refine (matcherOf_any lo ln lcap true o1 xs.length c1 W).mono ?_
    rintro e w2 ⟨M, b, h2, h3, h4, rfl, h5, h6, h7⟩
    refine ⟨M, rfl, ?_⟩
    rw [← HP.out]
    exact ⟨M, b, o1, c1, by have := hb.size; omega, h4, fun h0 k hk => by have := h1.lt h0 hk; omega, rfl, by rw [HL.out]; exact h5, h1.below h7, h6, hb.trans (h7.mono hb.size)⟩
  have RV : Hid (∀ (o1 : Option Addr) (c1 : Nat) (W : World), W.ownsRow w.heap.size 48 2 (.slice o1 xs.length c1) xs.length (cellsI xs) → Below w.heap.size w W → Calls Tryd.prog 58 #[.slice o1 xs.length c1] W fun e W' => (∃ v, e = .returned v) ∧ AtI W' o1 xs.reverse ∧ Below w.heap.size w W') := Lib.hid fun o1 c1 W ho hb => by
    rcases Nat.eq_zero_or_pos xs.length with h0 | h0
    · obtain rfl := List.eq_nil_of_length_eq_zero h0
      refine (reverse_none o1 c1 W).mono ?_
      rintro e w2 ⟨hv, rfl⟩
      exact ⟨hv, fun h => absurd h (Nat.not_lt_zero _), hb⟩
    · obtain ⟨g, rfl, hg, hr⟩ := rowI_own ho h0
      refine (reverse_any g xs c1 (by omega) h0 W hr).mono ?_
      rintro e w2 ⟨hv, h2, h3⟩
      exact ⟨hv, h2.atI, Moves.below hb hb.size h3 (fun k e => by omega)⟩
  obtain ⟨n, hnn⟩ : ∃ n, xs.length = n := ⟨_, rfl⟩
  unfold CloneQ at HC
  rw [hnn] at HC FIN RV ⊢
  clear hP hA hnn hn HL
  go_enter Tryd.func45, Tryd.ntmps45
  go_wp2_with fail
  refine HC.out.mono ?_
  rintro e w2 ⟨o1, c1, rfl, ho, hb⟩
  have R2 := Lib.hid (RV.out o1 c1 w2 ho hb)
  clear ho hb
  go_wp2_with fail
  refine R2.out.mono ?_
  rintro e w3 ⟨⟨v, rfl⟩, ha, hb⟩
  have F3 := Lib.hid (FIN.out o1 c1 w3 ha hb)
  clear ha hb
  go_wp2_with fail
  refine F3.out.mono ?_
  rintro e w4 ⟨M, rfl, hp⟩
  have HQ := Lib.hid hp
  clear hp
  go_wp2
  first | exact HQ.out | (go_ret; exact HQ.out)
theorem isPlace_any (at_ : Int) (o : Option Addr) (n cap : Nat) (w : World) : Calls Tryd.prog 44 #[.int .i64 at_, .slice o n cap] w fun e w' => e = .returned (.bool (decide (0 ≤ at_ ∧ at_ ≤ (n : Nat)))) ∧ w = w' := by
  by_cases h0 : 0 ≤ at_
  · by_cases h1 : at_ ≤ ((n : Nat) : Int)
    · have hd : decide (0 ≤ at_ ∧ at_ ≤ (n : Nat)) = true := decide_eq_true ⟨h0, h1⟩
      rw [hd]
      clear hd
      go_enter Tryd.func44, Tryd.ntmps44
      go_wp2
      go_ret
      exact ⟨rfl, rfl⟩
    · have hd : decide (0 ≤ at_ ∧ at_ ≤ (n : Nat)) = false := decide_eq_false (fun h => h1 h.2)
      rw [hd]
      clear hd
      go_enter Tryd.func44, Tryd.ntmps44
      go_wp2
      go_ret
      exact ⟨rfl, rfl⟩
  · have hd : decide (0 ≤ at_ ∧ at_ ≤ (n : Nat)) = false := decide_eq_false (fun h => h0 h.1)
    rw [hd]
    clear hd
    go_enter Tryd.func44, Tryd.ntmps44
    go_wp2
    go_ret
    exact ⟨rfl, rfl⟩
/-- fits, of a matcher that was just made. -/
theorem fits_new {lo : Option Addr} {l : List Int} {lcap : Nat} {back : Bool} {ys : List ItemP} {w w2 : World} {e : Ending} (whole : Bool) (hn : ys.length ≤ 10) (hw : howP ys) (hl : l.length ≤ 1000000) (hL : NumsAt w lo l) (h : NewQ lo l.length lcap back ys w e w2) :
    ∃ M, e = .returned (mV M) ∧ Below w.heap.size w w2 ∧ Calls Tryd.prog 46 #[mV M, .bool whole] w2 fun e w' => e = .returned (.bool (fitsG whole ys (listN back l))) ∧ Below w.heap.size w w' := by
  obtain ⟨M, b, o, cap, h1, h2, h3, rfl, h4, h5, h6, h7⟩ := h
  refine ⟨M, rfl, h7, (fits_any b M cap lcap o lo back whole ys l zeroF zeroF w2 hn hw hl h5 (hL.below h7) h6 h2 h3 (fun h0 k hk => by have := hL.ltQ h0 hk; omega) h4).mono ?_⟩
  rintro e w3 ⟨rfl, hm⟩
  exact ⟨rfl, Moves.below h7 h7.size hm (fun k e => by omega)⟩
end Go.Proofs.YtjacebnlikhjnaaDoor

namespace Go.Proofs.YtjacebnlikhjnaaDoor
open Go.RowKit Go.Shelf Go.Maps
attribute [local go_sem] Oper.semAt_some

theorem NumsAt.takeQ {w : World} {o : Option Addr} {l : List Int} (h : NumsAt w o l) (k : Nat) : NumsAt w o (l.take k) := fun hn => by
  rw [List.length_take] at hn
  obtain ⟨g, off, ho, hc⟩ := h (by omega)
  refine ⟨g, off, ho, fun j x hx => hc j x ?_⟩
  rw [List.getElem?_take] at hx
  split at hx
  · exact hx
  · cases hx
theorem behindA_some {start : Bool} {xs : List ItemP} {l : List Int} {a : Nat} (hr : rightB xs 32 = true) (ha : a ≤ l.length) : behindA start xs l ((a : Nat) : Int) = fitsG start xs.reverse (listN true (l.take a)) := by
  have hw := rightB_how hr
  unfold behindA fitsG listN
  rw [hr, decide_eq_true (show (0 : Int) ≤ ((a : Nat) : Int) ∧ ((a : Nat) : Int) ≤ (l.length : Nat) by omega), Int.toNat_natCast]
  cases start with
  | true =>
    simp only [if_true, Bool.true_and]
    rw [back_all hw]
  | false =>
    simp only [if_true, Bool.true_and, Bool.false_eq_true, if_false]
    rw [back_some hw ha]
theorem behindA_right {start : Bool} {xs : List ItemP} {l : List Int} {at_ : Int} (hr : rightB xs 32 = false) : behindA start xs l at_ = false := by
  unfold behindA
  rw [hr]
  rfl
theorem behindA_place {start : Bool} {xs : List ItemP} {l : List Int} {at_ : Int} (h : ¬ (0 ≤ at_ ∧ at_ ≤ l.length)) : behindA start xs l at_ = false := by
  unfold behindA
  rw [decide_eq_false h, Bool.and_false]
  rfl
set_option maxRecDepth 100000 in
set_option maxHeartbeats 4000000 in
theorem Behind_anyQ (start : Bool) (o lo : Option Addr) (xs : List ItemP) (l : List Int) (cap lcap : Nat) (at_ : Int) (hn : xs.length ≤ 1000) (hl : l.length ≤ 100000) (hlc : l.length ≤ lcap) (w : World) (hA : AtI w o xs) (hL : NumsAt w lo l) :
    Calls Tryd.prog 26 #[patV start o xs.length cap, .slice lo l.length lcap, .int .i64 at_] w fun e w' => e = .returned (.bool (behindA start xs l at_)) ∧ Below w.heap.size w w' := by
  obtain ⟨w1, hw1⟩ : ∃ w1, w.alloc (patO start o xs.length cap) = w1 := ⟨_, rfl⟩
  have b1 : Below w.heap.size w w1 := by rw [← hw1]; exact (Below.refl _ _).alloc (Nat.le_refl _) _
  have r1 : w1.heap[w.heap.size]? = some (patO start o xs.length cap) := by rw [← hw1]; exact heap_alloc_new _ _
  have HR := Lib.hid (Right_anyQ start o xs cap 32 (by omega) w1 (hA.below b1))
  obtain ⟨P, hP⟩ : ∃ P, (fun (e : Ending) w' => e = .returned (.bool (behindA start xs l at_)) ∧ Below w.heap.size w w') = P := ⟨_, rfl⟩
  have HP := Lib.hid hP
  rw [hP]
  have HW1 := Lib.hid hw1
  have HB1 := Lib.hid b1
  have R1 := Lib.hid r1
  obtain ⟨q0, q1⟩ := pat_cells r1
  cases hr : rightB xs 32 with
  | false =>
    rw [hr] at HR
    have HQ : Hid (∀ W, Below w1.heap.size w1 W → P (.returned (.bool false)) W) := Lib.hid fun W hb => by
      rw [← HP.out]
      exact ⟨by rw [behindA_right hr], HB1.out.trans (hb.mono HB1.out.size)⟩
    obtain ⟨n, hnn⟩ : ∃ n, xs.length = n := ⟨_, rfl⟩
    obtain ⟨m, hmm⟩ : ∃ m, l.length = m := ⟨_, rfl⟩
    rw [hnn] at HR q1 HW1 R1 ⊢
    rw [hmm] at ⊢
    clear hP hw1 b1 r1 hA hL hnn hmm hn hl hlc hr
    go_enter Tryd.func26, Tryd.ntmps26
    go_wp2_with fail
    rw [HW1.out]
    refine HR.out.mono ?_
    rintro e w2 ⟨rfl, b2⟩
    have HQ2 := Lib.hid (HQ.out w2 b2)
    clear b2
    go_wp2
    first | exact HQ2.out | (go_ret; exact HQ2.out)
  | true =>
    rw [hr] at HR
    by_cases hp : 0 ≤ at_ ∧ at_ ≤ ((l.length : Nat) : Int)
    · obtain ⟨a, rfl⟩ := Int.eq_ofNat_of_zero_le hp.1
      have hal : a ≤ l.length := by omega
      have hlt : (l.take a).length = a := by rw [List.length_take]; omega
      have PL : Hid (∀ W, Calls Tryd.prog 44 #[.int .i64 (a : Nat), .slice lo l.length lcap] W fun e w' => e = .returned (.bool true) ∧ W = w') := Lib.hid fun W => by
        have := isPlace_any ((a : Nat) : Int) lo l.length lcap W
        rwa [decide_eq_true hp] at this
      have BO : Hid (∀ W, Below w1.heap.size w1 W → Calls Tryd.prog 45 #[.slice o xs.length cap, .slice lo a lcap] W fun e w3 => ∃ M, e = .returned (mV M) ∧ w3.cell? ⟨w.heap.size, 0, none⟩ = some (.bool start) ∧ w3.cell? ⟨w.heap.size, 1, none⟩ = some (.slice o xs.length cap) ∧ Hid (Calls Tryd.prog 46 #[mV M, .bool start] w3 fun e w' => ∃ b, e = .returned (.bool b) ∧ P (.returned (.bool b)) w')) := Lib.hid fun W hb => by
        have hbw := HB1.out.trans (hb.mono HB1.out.size)
        have h1 := back_any o lo xs cap (l.take a).length lcap hn W (hA.below hbw)
        rw [hlt] at h1
        refine h1.mono fun e w3 hq => ?_
        rw [← hlt] at hq
        obtain ⟨M, he, hb2, hc⟩ := fits_new start (by rw [List.length_reverse]; exact (rightB_parts hr).2.1) (howP_reverse (rightB_how hr)) (by rw [hlt]; omega) ((hL.takeQ a).below hbw) hq
        obtain ⟨p0, p1⟩ := pat_cells (row_below (row_below R1.out hb) hb2)
        refine ⟨M, he, p0, p1, Lib.hid (hc.mono ?_)⟩
        rintro e w' ⟨rfl, h2⟩
        refine ⟨_, rfl, ?_⟩
        rw [← HP.out]
        exact ⟨by rw [behindA_some hr hal], hbw.trans (h2.mono hbw.size)⟩
      obtain ⟨n, hnn⟩ : ∃ n, xs.length = n := ⟨_, rfl⟩
      obtain ⟨m, hmm⟩ : ∃ m, l.length = m := ⟨_, rfl⟩
      rw [hnn] at HR q1 HW1 R1 BO ⊢
      rw [hmm] at PL hlc hal hl ⊢
      have hac : a ≤ lcap := by omega
      clear hP hw1 b1 r1 hA hL hnn hmm hn hr hp hlt
      go_enter Tryd.func26, Tryd.ntmps26
      go_wp2_with fail
      rw [HW1.out]
      refine HR.out.mono ?_
      rintro e w2 ⟨rfl, b2⟩
      obtain ⟨p0, p1⟩ := pat_cells (row_below R1.out b2)
      have BO2 := Lib.hid (BO.out w2.drew b2.drew)
      clear b2 q0 q1
      go_wp2_with fail
      refine (PL.out _).mono ?_
      rintro e w2' ⟨rfl, rfl⟩
      go_wp2_with fail
      go_region_with (first | (go_at_call 45; refine BO2.out.mono ?_; rintro e w3 ⟨M, rfl, s0, s1, HC⟩) | (go_at_call 46; refine HC.out.mono ?_; rintro e w4 ⟨b, rfl, hp⟩))
      all_goals
        go_simp
        have HQ2 := Lib.hid hp
        clear hp
        go_wp2
        first | exact HQ2.out | (go_ret; exact HQ2.out)
    · have PL : Hid (∀ W, Calls Tryd.prog 44 #[.int .i64 at_, .slice lo l.length lcap] W fun e w' => e = .returned (.bool false) ∧ W = w') := Lib.hid fun W => by
        have := isPlace_any at_ lo l.length lcap W
        rwa [decide_eq_false hp] at this
      have HQ : Hid (∀ W, Below w1.heap.size w1 W → P (.returned (.bool false)) W) := Lib.hid fun W hb => by
        rw [← HP.out]
        exact ⟨by rw [behindA_place hp], HB1.out.trans (hb.mono HB1.out.size)⟩
      obtain ⟨n, hnn⟩ : ∃ n, xs.length = n := ⟨_, rfl⟩
      obtain ⟨m, hmm⟩ : ∃ m, l.length = m := ⟨_, rfl⟩
      rw [hnn] at HR q1 HW1 R1 ⊢
      rw [hmm] at PL ⊢
      clear hP hw1 b1 r1 hA hL hnn hmm hn hl hlc hr hp
      go_enter Tryd.func26, Tryd.ntmps26
      go_wp2_with fail
      rw [HW1.out]
      refine HR.out.mono ?_
      rintro e w2 ⟨rfl, b2⟩
      have HQ2 := Lib.hid (HQ.out w2 b2)
      clear b2
      go_wp2_with fail
      refine (PL.out _).mono ?_
      rintro e w2' ⟨rfl, rfl⟩
      go_wp2
      first | exact HQ2.out | (go_ret; exact HQ2.out)
end Go.Proofs.YtjacebnlikhjnaaDoor

namespace Go.Proofs.YtjacebnlikhjnaaDoor

def addN (xs : List ItemP) (s n : Nat) : Nat := s ||| closedH xs (2 ^ n)
/-- Does a state go on of itself? -/
def onN (xs : List ItemP) (n : Nat) : Bool := decide (n % 2 = 0) && (match xs[n / 2]? with | some x => decide (x.2 ≠ 0) | none => false)
theorem onN_of {xs : List ItemP} {n : Nat} (h : onN xs n = true) : n % 2 = 0 ∧ ∃ x, xs[n / 2]? = some x ∧ x.2 ≠ 0 := by
  unfold onN at h
  obtain ⟨h0, h1⟩ := Bool.and_eq_true_iff.1 h
  refine ⟨of_decide_eq_true h0, ?_⟩
  cases hx : xs[n / 2]? with
  | none => rw [hx] at h1; cases h1
  | some x => rw [hx] at h1; exact ⟨x, rfl, of_decide_eq_true h1⟩
theorem onN_is {xs : List ItemP} {n : Nat} {x : ItemP} (h0 : n % 2 = 0) (hx : xs[n / 2]? = some x) (hne : x.2 ≠ 0) : onN xs n = true := by
  unfold onN
  rw [hx, decide_eq_true h0]
  show (true && decide (x.2 ≠ 0)) = true
  rw [decide_eq_true hne]; rfl
theorem onN_not {xs : List ItemP} {n : Nat} (h : ∀ x, n % 2 = 0 → xs[n / 2]? = some x → x.2 = 0) : onN xs n = false := by
  cases e : onN xs n with
  | false => rfl
  | true =>
    obtain ⟨h0, x, hx, hne⟩ := onN_of e
    exact absurd (h x h0 hx) hne
theorem path_zero {xs : List ItemP} {j i : Nat} (h : pathH xs j i) : i = j ∨ (∃ x, xs[j]? = some x ∧ x.2 ≠ 0) ∧ pathH xs (j + 1) i := by
  rcases Nat.lt_or_ge j i with g | g
  · obtain ⟨x, hx, h0⟩ := h.2 j (Nat.le_refl _) g
    exact .inr ⟨⟨x, hx, h0⟩, by omega, fun m h1 h2 => h.2 m (by omega) h2⟩
  · exact .inl (by have := h.1; omega)
theorem closed_two_even (xs : List ItemP) (n i : Nat) : (closedH xs (2 ^ n)).testBit (2 * i) = true ↔ n % 2 = 0 ∧ pathH xs (n / 2) i := by
  rw [closed_even, over_iff]
  constructor
  · rintro ⟨j, hj, hp⟩
    have hj : (2 ^ n).testBit (2 * j) = true := hj
    rw [Nat.testBit_two_pow] at hj
    have := of_decide_eq_true hj
    subst this
    refine ⟨by omega, ?_⟩
    rwa [show 2 * j / 2 = j by omega]
  · rintro ⟨h0, hp⟩
    exact ⟨n / 2, by show (2 ^ n).testBit (2 * (n / 2)) = true; rw [Nat.testBit_two_pow]; exact decide_eq_true (by omega), hp⟩
theorem closed_two_odd (xs : List ItemP) (n i : Nat) : (closedH xs (2 ^ n)).testBit (2 * i + 1) = decide (n = 2 * i + 1) := by rw [closed_odd, Nat.testBit_two_pow]
theorem addN_stop {xs : List ItemP} {s n : Nat} (h : onN xs n = false) : addN xs s n = s ||| 2 ^ n := by
  unfold addN
  refine congrArg (s ||| ·) (bits_ext (fun i => ?_) fun i => ?_)
  · rw [Bool.eq_iff_iff, closed_two_even, Nat.testBit_two_pow, decide_eq_true_eq]
    constructor
    · rintro ⟨h0, hp⟩
      rcases path_zero hp with e | ⟨⟨x, hx, hne⟩, _⟩
      · omega
      · rw [onN_is h0 hx hne] at h; cases h
    · intro e; exact ⟨by omega, by rw [show n / 2 = i by omega]; exact pathH_refl xs i⟩
  · rw [closed_two_odd, Nat.testBit_two_pow]
theorem addN_go {xs : List ItemP} {s n : Nat} (h : onN xs n = true) : addN xs s n = addN xs (s ||| 2 ^ n) (n + 2) := by
  obtain ⟨h0, x, hx, hne⟩ := onN_of h
  unfold addN
  rw [Nat.or_assoc]
  refine congrArg (s ||| ·) (bits_ext (fun i => ?_) fun i => ?_)
  · rw [Nat.testBit_or, Bool.eq_iff_iff, Bool.or_eq_true, closed_two_even, closed_two_even, Nat.testBit_two_pow, decide_eq_true_eq, show (n + 2) / 2 = n / 2 + 1 by omega]
    constructor
    · rintro ⟨_, hp⟩
      rcases path_zero hp with e | ⟨_, g⟩
      · left; omega
      · right; exact ⟨by omega, g⟩
    · rintro (e | ⟨_, g⟩)
      · exact ⟨h0, by rw [show n / 2 = i by omega]; exact pathH_refl xs i⟩
      · exact ⟨h0, pathH_next hx hne g⟩
  · rw [Nat.testBit_or, closed_two_odd, closed_two_odd, Nat.testBit_two_pow, decide_eq_false (show ¬ n + 2 = 2 * i + 1 by omega), Bool.or_false]
theorem addN_lt {xs : List ItemP} {s n : Nat} (hs : s < 2 ^ (2 * xs.length + 1)) (hn : n < 2 * xs.length + 1) : addN xs s n < 2 ^ (2 * xs.length + 1) :=
  Nat.or_lt_two_pow hs (closed_lt (Nat.pow_lt_pow_right (by decide) hn))
/-- What the states below n make. -/
def outN (xs : List ItemP) (c : Int) (s n : Nat) : Nat := closedH xs (orN 0 ((classesN n s).filterMap (goesH xs c)))
theorem closed_none (xs : List ItemP) : closedH xs 0 = 0 := by
  refine bits_ext (fun i => ?_) fun i => ?_
  · rw [Bool.eq_iff_iff, closed_even, over_iff]
    constructor
    · rintro ⟨j, hj, _⟩
      have hj : (0 : Nat).testBit (2 * j) = true := hj
      rw [Nat.zero_testBit] at hj; cases hj
    · intro h; rw [Nat.zero_testBit] at h; cases h
  · rw [closed_odd]
theorem outN_zero (xs : List ItemP) (c : Int) (s : Nat) : outN xs c s 0 = 0 := closed_none xs
theorem outN_not {xs : List ItemP} {c : Int} {s n : Nat} (h : s.testBit n = false ∨ goesH xs c n = none) : outN xs c s (n + 1) = outN xs c s n := by
  unfold outN
  rw [classesN_snoc, List.filterMap_append]
  rcases h with h | h
  · rw [h]; simp
  · cases s.testBit n with
    | false => simp
    | true => simp [h]
theorem outN_add {xs : List ItemP} {c : Int} {s n m : Nat} (hb : s.testBit n = true) (hg : goesH xs c n = some m) : outN xs c s (n + 1) = addN xs (outN xs c s n) m := by
  unfold outN addN
  rw [classesN_snoc, List.filterMap_append, hb, if_pos rfl]
  have e : List.filterMap (goesH xs c) [n] = [m] := by simp [hg]
  rw [e, ← closed_union]
  refine congrArg (closedH xs) (Nat.eq_of_testBit_eq fun i => ?_)
  rw [orN_bit, Nat.testBit_or, orN_bit, Nat.testBit_two_pow, Bool.eq_iff_iff]
  simp only [Bool.or_eq_true, decide_eq_true_eq, List.mem_append, List.mem_singleton]
  constructor
  · rintro (h | h | h)
    · exact .inl (.inl h)
    · exact .inl (.inr h)
    · exact .inr h.symm
  · rintro ((h | h) | h)
    · exact .inl h
    · exact .inr (.inl h)
    · exact .inr (.inr h.symm)
theorem outN_lt {xs : List ItemP} (hw : howP xs) (c : Int) (s n : Nat) (hn : n ≤ 2 * xs.length) : outN xs c s n < 2 ^ (2 * xs.length + 1) := by
  refine closed_lt (bits_lt fun i hi => ?_)
  rw [orN_bit, Nat.zero_testBit, Bool.false_or]
  refine decide_eq_false fun h => ?_
  obtain ⟨k, hk, hg⟩ := List.mem_filterMap.1 h
  have hm : i ∈ nextsH xs true c s := mem_nexts.2 (.inr ⟨k, Nat.lt_of_lt_of_le (classesN_mem.1 hk).1 hn, (classesN_mem.1 hk).2, hg⟩)
  have h1 := raw_bit.2 hm
  have h2 := raw_lt hw (start := true) (c := c) (s := s)
  rw [bit_lt h2 hi] at h1
  cases h1
theorem step_start (xs : List ItemP) (c : Int) (s : Nat) : stepS xs true c s = outN xs c s (2 * xs.length) := rfl
theorem step_free (xs : List ItemP) (c : Int) (s : Nat) : stepS xs false c s = addN xs (outN xs c s (2 * xs.length)) 0 := by
  unfold stepS outN addN rawH
  rw [← closed_union]
  refine congrArg (closedH xs) (Nat.eq_of_testBit_eq fun i => ?_)
  unfold nextsH
  rw [orN_bit, Nat.testBit_or, orN_bit, Nat.testBit_two_pow, Bool.eq_iff_iff]
  simp only [Bool.or_eq_true, decide_eq_true_eq, List.mem_append]
  constructor
  · rintro (h | h | h)
    · exact .inl (.inl h)
    · have h2 : i = 0 := by simpa using h
      exact .inr h2.symm
    · exact .inl (.inr h)
  · rintro ((h | h) | h)
    · exact .inl h
    · exact .inr (.inr h)
    · exact .inr (.inl (by rw [← h]; simp))
theorem first_add (xs : List ItemP) : addN xs 0 0 = firstS xs := by unfold addN firstS; rw [Nat.zero_or]
end Go.Proofs.YtjacebnlikhjnaaDoor

namespace Go.Proofs.YtjacebnlikhjnaaDoor
open Go.RowKit Go.Shelf Go.Maps
attribute [local go_sem] Oper.semAt_some

set_option maxHeartbeats 1000000 in
theorem worth_any (n : Nat) (hn : n ≤ 32) (w : World) : Calls Tryd.prog 65 #[.int .i64 (n : Nat)] w fun e w' => e = .returned (.int .i64 ((2 ^ n : Nat) : Int)) ∧ w = w' := by
  obtain ⟨P, hP⟩ : ∃ P, (fun (e : Ending) w' => e = .returned (.int .i64 ((2 ^ n : Nat) : Int)) ∧ w = w') = P := ⟨_, rfl⟩
  have HP := Lib.hid hP
  rw [hP]
  clear hP
  go_enter Tryd.func65, Tryd.ntmps65
  go_wp2_with fail
  go_loopg [3, 4] n (fun k v i wr => ∃ (j p : Nat), i = .int .i64 (j : Nat) ∧ v = .int .i64 (p : Nat) ∧ j ≤ n ∧ k = n - j ∧ Hid (p = 2 ^ j) ∧ w = wr)
  case atStart => exact ⟨0, 1, rfl, rfl, Nat.zero_le _, rfl, Lib.hid rfl, rfl⟩
  case round =>
    obtain ⟨j, p, rfl, rfl, hj, rfl, hp, rfl⟩ := hrel
    rcases Nat.lt_or_ge j n with hlt | hge
    · have hp2 : Hid (2 * p = 2 ^ (j + 1)) := Lib.hid (by rw [hp.out, Nat.pow_succ, Nat.mul_comm])
      have hpl : p ≤ 4294967296 := by rw [hp.out]; exact two_32 (by omega)
      have hj1 : j < 1000000 := by omega
      go_wp2
      go_roundg (n - (j + 1))
      case measure => omega
      case rel => exact ⟨j + 1, 2 * p, by simp, by simp, by omega, rfl, hp2, rfl⟩
    · obtain rfl : j = n := by omega
      have HQ : Hid (P (.returned (.int .i64 ((p : Nat) : Int))) w) := by
        rw [← HP.out]
        exact Lib.hid ⟨by rw [hp.out], rfl⟩
      go_wp2
      exact HQ.out
set_option maxHeartbeats 1000000 in
theorem refRight_any (s n : Int) (w : World) : Calls Tryd.prog 49 #[.int .i64 s, .int .i64 n] w fun e w' => e = .returned (.bool (rightZ s n)) ∧ w = w' := by
  obtain ⟨P, hP⟩ : ∃ P, (fun (e : Ending) w' => e = .returned (.bool (rightZ s n)) ∧ w = w') = P := ⟨_, rfl⟩
  have HP := Lib.hid hP
  have NO : ¬ (1 ≤ n ∧ n ≤ 32 ∧ 0 ≤ s ∧ s < 2 ^ n.toNat) → Hid (P (.returned (.bool false)) w) := fun h => by
    rw [← HP.out]
    exact Lib.hid ⟨by unfold rightZ; rw [decide_eq_false h], rfl⟩
  have YES : (1 ≤ n ∧ n ≤ 32 ∧ 0 ≤ s ∧ s < 2 ^ n.toNat) → Hid (P (.returned (.bool true)) w) := fun h => by
    rw [← HP.out]
    exact Lib.hid ⟨by unfold rightZ; rw [decide_eq_true h], rfl⟩
  rw [hP]
  clear hP
  by_cases g1 : 1 ≤ n
  · by_cases g2 : n ≤ 32
    · by_cases g3 : 0 ≤ s
      · obtain ⟨m, rfl⟩ := Int.eq_ofNat_of_zero_le (show 0 ≤ n by omega)
        have hm : m ≤ 32 := by omega
        have W1 := Lib.hid (worth_any m hm w)
        have e2 : ((2 : Int) ^ m) = ((2 ^ m : Nat) : Int) := by simp
        rw [Int.toNat_natCast, e2] at NO YES
        obtain ⟨p, hpp⟩ : ∃ p, 2 ^ m = p := ⟨_, rfl⟩
        rw [hpp] at NO YES W1
        by_cases g4 : s < ((p : Nat) : Int)
        · have YY := YES ⟨g1, g2, g3, g4⟩
          have g5 : decide (s < ((p : Nat) : Int)) = true := decide_eq_true g4
          clear NO YES hpp e2
          go_enter Tryd.func49, Tryd.ntmps49
          go_wp2_with fail
          refine W1.out.mono ?_
          rintro e w2 ⟨rfl, rfl⟩
          go_wp2
          exact YY.out
        · have YY := NO fun h => g4 h.2.2.2
          have g5 : decide (s < ((p : Nat) : Int)) = false := decide_eq_false g4
          clear NO YES hpp e2
          go_enter Tryd.func49, Tryd.ntmps49
          go_wp2_with fail
          refine W1.out.mono ?_
          rintro e w2 ⟨rfl, rfl⟩
          go_wp2
          exact YY.out
      · have NN := NO (by omega)
        clear NO YES
        go_enter Tryd.func49, Tryd.ntmps49
        go_wp2
        exact NN.out
    · have NN := NO (by omega)
      clear NO YES
      go_enter Tryd.func49, Tryd.ntmps49
      go_wp2
      exact NN.out
  · have NN := NO (by omega)
    clear NO YES
    go_enter Tryd.func49, Tryd.ntmps49
    go_wp2
    exact NN.out
set_option maxRecDepth 100000 in
set_option maxHeartbeats 1000000 in
theorem refHas_any (s c : Int) (w : World) : Calls Tryd.prog 51 #[.int .i64 s, .int .i64 c] w fun e w' => e = .returned (.bool (hasZ s c)) ∧ w = w' := by
  have H := Lib.hid (refRight_any s 32 w)
  obtain ⟨P, hP⟩ : ∃ P, (fun (e : Ending) w' => e = .returned (.bool (hasZ s c)) ∧ w = w') = P := ⟨_, rfl⟩
  have HP := Lib.hid hP
  have ANS : ∀ b, hasZ s c = b → Hid (P (.returned (.bool b)) w) := fun b h => by
    rw [← HP.out]
    exact Lib.hid ⟨by rw [h], rfl⟩
  rw [hP]
  clear hP
  cases hr : rightZ s 32 with
  | false =>
    rw [hr] at H
    have HQ := ANS false (by unfold hasZ; rw [hr]; rfl)
    clear ANS hr
    go_enter Tryd.func51, Tryd.ntmps51
    go_wp2_with fail
    refine H.out.mono ?_
    rintro e w2 ⟨rfl, rfl⟩
    go_wp2
    exact HQ.out
  | true =>
    obtain ⟨x, m, rfl, hm, _, _, hx⟩ := rightZ_of hr
    have h32 : m = 32 := by omega
    subst h32
    clear hm
    rw [hr] at H
    rw [hasZ_nat hx] at ANS
    by_cases g1 : 0 ≤ c
    · by_cases g2 : c < 32
      · obtain ⟨k, rfl⟩ := Int.eq_ofNat_of_zero_le g1
        have hk : k < 32 := by omega
        have W1 := Lib.hid (worth_any k (by omega) w)
        have hp := two_pos k
        have hdb := div_bit x k
        rw [decide_eq_true ⟨g1, g2⟩, Bool.true_and, Int.toNat_natCast] at ANS
        obtain ⟨p, hpp⟩ : ∃ p, 2 ^ k = p := ⟨_, rfl⟩
        rw [hpp] at W1 hp hdb
        have t1 : ((x : Nat) : Int).tdiv ((p : Nat) : Int) = ((x / p : Nat) : Int) := by rw [Int.tdiv_eq_ediv_of_nonneg (Int.natCast_nonneg _)]; simp
        have t2 : ((x : Nat) : Int) / ((p : Nat) : Int) = ((x / p : Nat) : Int) := by simp
        obtain ⟨q, hq⟩ : ∃ q, x / p = q := ⟨_, rfl⟩
        rw [hq] at t1 t2 hdb
        have t3 : ((q : Nat) : Int).tmod 2 = ((q % 2 : Nat) : Int) := by rw [Int.tmod_eq_emod_of_nonneg (Int.natCast_nonneg _)]; simp
        have HQ := ANS (((q : Nat) : Int) % 2 == 1) (by
          rw [← hdb]
          by_cases h : q % 2 = 1
          · rw [decide_eq_true h]
            have : ((q : Nat) : Int) % 2 = 1 := by omega
            rw [this]; rfl
          · rw [decide_eq_false h]
            have : ((q : Nat) : Int) % 2 = 0 := by omega
            rw [this]; rfl)
        have hpne : ¬ ((p : Nat) : Int) = 0 := by omega
        have hwq : wrap64 ((q : Nat) : Int) = ((q : Nat) : Int) := by
          have : q ≤ x := by rw [← hq]; exact Nat.div_le_self _ _
          exact wrap_idK (by omega) (by omega)
        clear ANS hr hx hdb hpp hq g1 g2
        go_enter Tryd.func51, Tryd.ntmps51
        go_wp2_with fail
        refine H.out.mono ?_
        rintro e w2 ⟨rfl, rfl⟩
        go_wp2_with fail
        refine W1.out.mono ?_
        rintro e w3 ⟨rfl, rfl⟩
        go_wp2
        exact HQ.out
      · have HQ := ANS false (by rw [decide_eq_false (by omega)]; rfl)
        clear ANS hr hx
        go_enter Tryd.func51, Tryd.ntmps51
        go_wp2_with fail
        refine H.out.mono ?_
        rintro e w2 ⟨rfl, rfl⟩
        go_wp2
        exact HQ.out
    · have HQ := ANS false (by rw [decide_eq_false (by omega)]; rfl)
      clear ANS hr hx
      go_enter Tryd.func51, Tryd.ntmps51
      go_wp2_with fail
      refine H.out.mono ?_
      rintro e w2 ⟨rfl, rfl⟩
      go_wp2
      exact HQ.out
theorem goodI_not {m : Int} {x : ItemP} (h : rightZ x.1 m = false ∨ x.2 < 0 ∨ 2 < x.2) : ¬ goodI m x := by
  rintro ⟨h1, h2⟩
  rcases h with h | h
  · rw [h] at h1; cases h1
  · omega
set_option maxRecDepth 100000 in
set_option maxHeartbeats 4000000 in
theorem refRight_anyQ (start : Bool) (o : Option Addr) (xs : List ItemP) (cap : Nat) (m : Int) (hn : xs.length ≤ 100000) (w : World) (hA : AtI w o xs) :
    Calls Tryd.prog 29 #[patV start o xs.length cap, .int .i64 m] w fun e w' => e = .returned (.bool (rightB xs m)) ∧ Below w.heap.size w w' := by
  obtain ⟨n, hnn⟩ : ∃ n, xs.length = n := ⟨_, rfl⟩
  rw [hnn] at hn ⊢
  obtain ⟨P, hP⟩ : ∃ P, (fun (e : Ending) w' => e = .returned (.bool (rightB xs m)) ∧ Below w.heap.size w w') = P := ⟨_, rfl⟩
  have HP := Lib.hid hP
  rw [hP]
  obtain ⟨w1, hw1⟩ : ∃ w1, w.alloc (patO start o n cap) = w1 := ⟨_, rfl⟩
  have b1 : Below w.heap.size w w1 := by rw [← hw1]; exact (Below.refl _ _).alloc (Nat.le_refl _) _
  have r1 : w1.heap[w.heap.size]? = some (patO start o n cap) := by rw [← hw1]; exact heap_alloc_new _ _
  have HN := Lib.hid hnn
  have HA := Lib.hid hA
  have HW1 := Lib.hid hw1
  have HB1 := Lib.hid b1
  have HR1 := Lib.hid r1
  have HK := Lib.hid (fun s W => refRight_any s m W)
  have FIN : Hid (∀ W b, rightB xs m = b → Below w.heap.size w W → P (.returned (.bool b)) W) := Lib.hid fun W b h hb => by
    rw [← HP.out]; exact ⟨by rw [h], hb⟩
  clear hP hnn hA hw1 b1 r1
  go_enter Tryd.func29, Tryd.ntmps29
  go_wp2_with fail
  rw [HW1.out]
  go_loopg [5] (n) (fun k' v5 wr => ∃ (j : Nat), v5 = .int .i64 (j : Nat) ∧ j ≤ n ∧ n - j = k' ∧ Hid (∀ i x, i < j → xs[i]? = some x → goodI m x) ∧ Hid (Below w1.heap.size w1 wr))
  case atStart => exact ⟨0, rfl, Nat.zero_le _, rfl, Lib.hid fun i x h => absurd h (Nat.not_lt_zero _), Lib.hid (Below.refl _ _)⟩
  case round =>
    obtain ⟨j, rfl, hj, rfl, HG, HB⟩ := hrel
    have hj6 : j < 1000000 := by omega
    have HBW := Lib.hid (HB1.out.trans (HB.out.mono HB1.out.size))
    obtain ⟨p0, p1⟩ := pat_cells (row_below HR1.out HB.out)
    rcases Nat.lt_or_ge j n with hlt | hge
    · obtain ⟨x, hx⟩ : ∃ x, xs[j]? = some x := ⟨_, List.getElem?_eq_getElem (by rw [HN.out]; exact hlt)⟩
      obtain ⟨g, off, rfl, hc⟩ := (HA.out.below HBW.out) (by rw [HN.out]; omega)
      obtain ⟨k0, k1⟩ := hc j x hx
      have bb : Below wr.heap.size wr (wr.alloc (itO x)) := (Below.refl _ _).alloc (Nat.le_refl _) _
      have HBB := Lib.hid (HB.out.trans (bb.mono HB.out.size))
      have HBBW := Lib.hid (HBW.out.trans (bb.mono HBW.out.size))
      have HX := Lib.hid hx
      obtain ⟨s, h⟩ := x
      have HKX := Lib.hid (HK.out s (wr.alloc (itO (s, h))))
      simp only at k0 k1
      cases hr : rightZ s m with
      | false =>
        rw [hr] at HKX
        have HF := Lib.hid (FIN.out (wr.alloc (itO (s, h))) false (rightB_bad HX.out (goodI_not (.inl hr))) HBBW.out)
        clear hr hc hx bb
        go_wp2_with fail
        refine HKX.out.mono ?_
        rintro e _ ⟨rfl, rfl⟩
        go_wp2
        first | exact HF.out | (go_ret; exact HF.out)
      | true =>
        rw [hr] at HKX
        by_cases h1 : h < 0
        · have HF := Lib.hid (FIN.out (wr.alloc (itO (s, h))) false (rightB_bad HX.out (goodI_not (.inr (.inl h1)))) HBBW.out)
          clear hr hc hx bb
          go_wp2_with fail
          refine HKX.out.mono ?_
          rintro e _ ⟨rfl, rfl⟩
          go_wp2
          first | exact HF.out | (go_ret; exact HF.out)
        by_cases h2 : 2 < h
        · have HF := Lib.hid (FIN.out (wr.alloc (itO (s, h))) false (rightB_bad HX.out (goodI_not (.inr (.inr h2)))) HBBW.out)
          clear hr hc hx bb
          go_wp2_with fail
          refine HKX.out.mono ?_
          rintro e _ ⟨rfl, rfl⟩
          go_wp2
          first | exact HF.out | (go_ret; exact HF.out)
        have HGN : Hid (∀ i x, i < j + 1 → xs[i]? = some x → goodI m x) := Lib.hid fun i x hi hxi => by
          rcases Nat.lt_or_ge i j with hl | hg
          · exact HG.out i x hl hxi
          · obtain rfl : i = j := by omega
            rw [HX.out] at hxi
            cases hxi
            exact ⟨hr, by simp only; omega⟩
        clear hr hc hx bb
        go_wp2_with fail
        refine HKX.out.mono ?_
        rintro e _ ⟨rfl, rfl⟩
        go_wp2
        go_roundg (n - (j + 1))
        case measure => omega
        case rel => exact ⟨j + 1, by simp, by omega, rfl, HGN, HBB⟩
    · obtain rfl : j = n := by omega
      have hall : ∀ x ∈ xs, goodI m x := fun x hx => by
        obtain ⟨i, hi⟩ := List.getElem?_of_mem hx
        exact HG.out i x (by have := (List.getElem?_eq_some_iff.1 hi).1; have := HN.out; omega) hi
      by_cases m1 : m < 1
      · have HF := Lib.hid (FIN.out wr false (rightB_not (by omega)) HBW.out)
        clear hall
        go_wp2
        first | exact HF.out | (go_ret; exact HF.out)
      by_cases m2 : 32 < m
      · have HF := Lib.hid (FIN.out wr false (rightB_not (by omega)) HBW.out)
        clear hall
        go_wp2
        first | exact HF.out | (go_ret; exact HF.out)
      by_cases m3 : 10 < j
      · have HF := Lib.hid (FIN.out wr false (rightB_not (by have := HN.out; omega)) HBW.out)
        have m7 : decide (((j : Nat) : Int) ≤ 10) = false := decide_eq_false (by omega)
        clear hall
        go_wp2
        first | exact HF.out | (go_ret; exact HF.out)
      · have HF := Lib.hid (FIN.out wr true (rightB_of (by omega) (by have := HN.out; omega) hall) HBW.out)
        have m4 : ((j : Nat) : Int) ≤ 10 := by omega
        have m5 : 1 ≤ m := by omega
        have m6 : m ≤ 32 := by omega
        clear hall
        go_wp2
        first | exact HF.out | (go_ret; exact HF.out)
end Go.Proofs.YtjacebnlikhjnaaDoor

namespace Go.Proofs.YtjacebnlikhjnaaDoor
open Go.RowKit Go.Shelf Go.Maps
attribute [local go_sem] Oper.semAt_some

set_option maxHeartbeats 1000000 in
theorem refBit_any (n : Nat) (hn : n ≤ 32) (w : World) : Calls Tryd.prog 38 #[.int .i64 (n : Nat)] w fun e w' => e = .returned (.int .i64 ((2 ^ n : Nat) : Int)) ∧ w = w' := by
  obtain ⟨P, hP⟩ : ∃ P, (fun (e : Ending) w' => e = .returned (.int .i64 ((2 ^ n : Nat) : Int)) ∧ w = w') = P := ⟨_, rfl⟩
  have HP := Lib.hid hP
  rw [hP]
  clear hP
  go_enter Tryd.func38, Tryd.ntmps38
  go_wp2_with fail
  go_loopg [3, 4] n (fun k v i wr => ∃ (j p : Nat), i = .int .i64 (j : Nat) ∧ v = .int .i64 (p : Nat) ∧ j ≤ n ∧ k = n - j ∧ Hid (p = 2 ^ j) ∧ w = wr)
  case atStart => exact ⟨0, 1, rfl, rfl, Nat.zero_le _, rfl, Lib.hid rfl, rfl⟩
  case round =>
    obtain ⟨j, p, rfl, rfl, hj, rfl, hp, rfl⟩ := hrel
    rcases Nat.lt_or_ge j n with hlt | hge
    · have hp2 : Hid (2 * p = 2 ^ (j + 1)) := Lib.hid (by rw [hp.out, Nat.pow_succ, Nat.mul_comm])
      have hpl : p ≤ 4294967296 := by rw [hp.out]; exact two_32 (by omega)
      have hj1 : j < 1000000 := by omega
      go_wp2
      go_roundg (n - (j + 1))
      case measure => omega
      case rel => exact ⟨j + 1, 2 * p, by simp, by simp, by omega, rfl, hp2, rfl⟩
    · obtain rfl : j = n := by omega
      have HQ : Hid (P (.returned (.int .i64 ((p : Nat) : Int))) w) := by
        rw [← HP.out]
        exact Lib.hid ⟨by rw [hp.out], rfl⟩
      go_wp2
      exact HQ.out
set_option maxRecDepth 100000 in
set_option maxHeartbeats 1000000 in
theorem refHasH_any (x k : Nat) (hx : x < 2 ^ 32) (hk : k ≤ 32) (w : World) : Calls Tryd.prog 36 #[.int .i64 (x : Nat), .int .i64 (k : Nat)] w fun e w' => e = .returned (.bool (x.testBit k)) ∧ w = w' := by
  have W1 := Lib.hid (refBit_any k hk w)
  have hp := two_pos k
  have hdb := div_bit x k
  have h32 : (2 : Nat) ^ 32 = 4294967296 := by decide
  rw [h32] at hx
  rw [← hdb]
  obtain ⟨p, hpp⟩ : ∃ p, 2 ^ k = p := ⟨_, rfl⟩
  rw [hpp] at W1 hp ⊢
  have t1 : ((x : Nat) : Int).tdiv ((p : Nat) : Int) = ((x / p : Nat) : Int) := by rw [Int.tdiv_eq_ediv_of_nonneg (Int.natCast_nonneg _)]; simp
  have t2 : ((x : Nat) : Int) / ((p : Nat) : Int) = ((x / p : Nat) : Int) := by simp
  have hle : x / p ≤ x := Nat.div_le_self _ _
  obtain ⟨q, hq⟩ : ∃ q, x / p = q := ⟨_, rfl⟩
  rw [hq] at t1 t2 hle ⊢
  have t3 : ((q : Nat) : Int).tmod 2 = ((q % 2 : Nat) : Int) := by rw [Int.tmod_eq_emod_of_nonneg (Int.natCast_nonneg _)]; simp
  obtain ⟨P, hP⟩ : ∃ P, (fun (e : Ending) w' => e = .returned (.bool (decide (q % 2 = 1))) ∧ w = w') = P := ⟨_, rfl⟩
  have HQ : Hid (P (.returned (.bool (((q : Nat) : Int) % 2 == 1))) w) := Lib.hid (by
    rw [← hP]
    refine ⟨?_, rfl⟩
    by_cases h : q % 2 = 1
    · rw [decide_eq_true h]
      have : ((q : Nat) : Int) % 2 = 1 := by omega
      rw [this]; rfl
    · rw [decide_eq_false h]
      have : ((q : Nat) : Int) % 2 = 0 := by omega
      rw [this]; rfl)
  have hpne : ¬ ((p : Nat) : Int) = 0 := by omega
  have hwq : wrap64 ((q : Nat) : Int) = ((q : Nat) : Int) := wrap_idK (by omega) (by omega)
  rw [hP]
  clear hP hdb hpp hq hx hle h32
  go_enter Tryd.func36, Tryd.ntmps36
  go_wp2_with fail
  refine W1.out.mono ?_
  rintro e w3 ⟨rfl, rfl⟩
  go_wp2
  exact HQ.out
set_option maxRecDepth 100000 in
set_option maxHeartbeats 4000000 in
theorem refAdd_step (st : Bool) (o : Option Addr) (xs : List ItemP) (cap : Nat) (hxl : xs.length ≤ 10) (s n : Nat) (hs : s < 2 ^ (2 * xs.length + 1)) (hn : n ≤ 2 * xs.length) (w : World) (hA : AtI w o xs)
    (hIH : ∀ s', s' < 2 ^ (2 * xs.length + 1) → n + 2 ≤ 2 * xs.length → ∀ W, Below w.heap.size w W → Calls Tryd.prog 30 #[patV st o xs.length cap, .int .i64 (s' : Nat), .int .i64 ((n + 2 : Nat) : Int)] W fun e w' => e = .returned (.int .i64 ((addN xs s' (n + 2) : Nat) : Int)) ∧ Below W.heap.size W w') :
    Calls Tryd.prog 30 #[patV st o xs.length cap, .int .i64 (s : Nat), .int .i64 (n : Nat)] w fun e w' => e = .returned (.int .i64 ((addN xs s n : Nat) : Int)) ∧ Below w.heap.size w w' := by
  obtain ⟨z, hz⟩ : ∃ z, xs.length = z := ⟨_, rfl⟩
  obtain ⟨w1, hw1⟩ : ∃ w1, w.alloc (patO st o z cap) = w1 := ⟨_, rfl⟩
  have b1 : Below w.heap.size w w1 := by rw [← hw1]; exact (Below.refl _ _).alloc (Nat.le_refl _) _
  have r1 : w1.heap[w.heap.size]? = some (patO st o z cap) := by rw [← hw1]; exact heap_alloc_new _ _
  obtain ⟨p0, p1⟩ := pat_cells r1
  have hn32 : n ≤ 32 := by omega
  have h21 : 2 ^ (2 * xs.length + 1) ≤ 2 ^ 21 := Nat.pow_le_pow_right (by decide) (by omega)
  have e21 : (2 : Nat) ^ 21 = 2097152 := by decide
  have e32 : (2 : Nat) ^ 32 = 4294967296 := by decide
  have hs21 : s < 2097152 := by omega
  have hs32 : s < 2 ^ 32 := by omega
  have HH := Lib.hid (refHasH_any s n hs32 hn32 w1)
  have HW := Lib.hid (refBit_any n hn32 w1)
  have hr : s ||| 2 ^ n < 2 ^ (2 * xs.length + 1) := Nat.or_lt_two_pow hs (Nat.pow_lt_pow_right (by decide) (by omega))
  have hr21 : s ||| 2 ^ n < 2097152 := by omega
  have IH : Hid (onN xs n = true → Calls Tryd.prog 30 #[patV st o z cap, .int .i64 ((s ||| 2 ^ n : Nat) : Int), .int .i64 ((n + 2 : Nat) : Int)] w1 fun e w' => e = .returned (.int .i64 ((addN xs s n : Nat) : Int)) ∧ Below w.heap.size w w') := Lib.hid fun h => by
    obtain ⟨h0, x, hx, _⟩ := onN_of h
    have hlt := (List.getElem?_eq_some_iff.1 hx).1
    have := hIH (s ||| 2 ^ n) hr (by omega) w1 b1
    rw [← addN_go h, hz] at this
    exact this.mono fun e w' h => ⟨h.1, b1.trans (h.2.mono b1.size)⟩
  have STOP : Hid (onN xs n = false → addN xs s n = s ||| 2 ^ n) := Lib.hid fun h => addN_stop h
  have HZ := Lib.hid hz
  have HA1 := Lib.hid (hA.below b1)
  have HW1 := Lib.hid hw1
  have HB1 := Lib.hid b1
  have hwx : s.testBit n = false → wrap64 (((s : Nat) : Int) + ((2 ^ n : Nat) : Int)) = ((s ||| 2 ^ n : Nat) : Int) := fun h => by
    rw [or_two h] at hr21 ⊢
    generalize 2 ^ n = p at hr21 ⊢
    rw [← Int.natCast_add]
    exact wrap_idK (by omega) (by omega)
  have hrs : s.testBit n = true → s ||| 2 ^ n = s := or_two_has
  obtain ⟨v, hv⟩ : ∃ v, addN xs s n = v := ⟨_, rfl⟩
  obtain ⟨r, hrr⟩ : ∃ r, s ||| 2 ^ n = r := ⟨_, rfl⟩
  obtain ⟨p, hpp⟩ : ∃ p, 2 ^ n = p := ⟨_, rfl⟩
  rw [hrr] at IH STOP hwx hrs hr21
  rw [hpp] at HW hwx
  rw [hv] at IH STOP
  rw [hz, hv]
  clear hw1 b1 r1 hpp hrr hr hs32 h21 e21 e32 hA hs hv hIH
  rw [hz] at hxl hn
  clear hz
  go_enter Tryd.func30, Tryd.ntmps30
  go_wp2_with fail
  rw [HW1.out]
  refine HH.out.mono ?_
  rintro e _ ⟨rfl, rfl⟩
  have hrpos : ((r : Nat) : Int) < 2097152 := by omega
  have h2 : n % 2 = 1 ∨ (n % 2 = 0 ∧ ((xs[n / 2]? = none ∧ z ≤ n / 2) ∨ ∃ x, xs[n / 2]? = some x ∧ n / 2 < z)) := by
    rcases Nat.mod_two_eq_zero_or_one n with g | g
    · right
      refine ⟨g, ?_⟩
      cases hx : xs[n / 2]? with
      | none => left; exact ⟨rfl, by have := List.getElem?_eq_none_iff.1 hx; rw [HZ.out] at this; exact this⟩
      | some x => right; exact ⟨x, rfl, by have := (List.getElem?_eq_some_iff.1 hx).1; rw [HZ.out] at this; exact this⟩
    · exact .inl g
  cases hb : s.testBit n with
  | true =>
    obtain rfl := hrs hb
    clear hwx hrs hb HW
    rcases h2 with g | ⟨g, ⟨hx, hz⟩ | ⟨x, hx, hz⟩⟩
    · have hv := STOP.out (onN_not fun x h0 _ => by omega)
      subst hv
      have g2 : ((n : Nat) : Int) % 2 = 1 := by omega
      clear IH STOP
      go_wp2_with fail
      go_ret
      exact ⟨rfl, HB1.out⟩
    · have hv := STOP.out (onN_not fun x h0 h => by rw [hx] at h; cases h)
      subst hv
      have g2 : ((n : Nat) : Int) % 2 = 0 := by omega
      obtain ⟨i, hi⟩ : ∃ i, n / 2 = i := ⟨_, rfl⟩
      have g3 : ((n : Nat) : Int) / 2 = ((i : Nat) : Int) := by omega
      rw [hi] at hz
      have g4 : ¬ i < z := by omega
      clear IH STOP hx hi
      go_wp2_with fail
      go_ret
      exact ⟨rfl, HB1.out⟩
    · obtain ⟨g0, off, rfl, hc⟩ := HA1.out (by rw [HZ.out]; omega)
      obtain ⟨k0, k1⟩ := hc (n / 2) x hx
      have g2 : ((n : Nat) : Int) % 2 = 0 := by omega
      obtain ⟨i, hi⟩ : ∃ i, n / 2 = i := ⟨_, rfl⟩
      have g3 : ((n : Nat) : Int) / 2 = ((i : Nat) : Int) := by omega
      rw [hi] at hz k0 k1
      have hi6 : i < 1000000 := by omega
      by_cases h0 : x.2 = 0
      · have hv := STOP.out (onN_not fun y _ h => by rw [hx] at h; cases h; exact h0)
        subst hv
        rw [h0] at k1
        clear IH STOP hx hi hc h0
        go_wp2_with fail
        go_ret
        exact ⟨rfl, HB1.out⟩
      · have HC := Lib.hid (IH.out (onN_is g hx h0))
        have e2 : ((n + 2 : Nat) : Int) = ((n : Nat) : Int) + 2 := by omega
        have hne : (x.2 != 0) = true := by simpa using h0
        rw [e2] at HC
        clear IH STOP hx hi hc e2 h0
        go_wp2_with fail
        refine HC.out.mono ?_
        rintro e w' ⟨rfl, hb'⟩
        have HB' := Lib.hid hb'
        clear hb'
        go_wp2_with fail
        go_ret
        exact ⟨rfl, HB'.out⟩
  | false =>
    have hw := hwx hb
    clear hwx hrs hb
    rcases h2 with g | ⟨g, ⟨hx, hz⟩ | ⟨x, hx, hz⟩⟩
    · have hv := STOP.out (onN_not fun x h0 _ => by omega)
      subst hv
      have g2 : ((n : Nat) : Int) % 2 = 1 := by omega
      clear IH STOP
      go_wp2_with fail
      refine HW.out.mono ?_
      rintro e _ ⟨rfl, rfl⟩
      go_wp2_with fail
      go_ret
      exact ⟨congrArg (fun z : Int => Ending.returned (Value.int .i64 z)) hw, HB1.out⟩
    · have hv := STOP.out (onN_not fun x h0 h => by rw [hx] at h; cases h)
      subst hv
      have g2 : ((n : Nat) : Int) % 2 = 0 := by omega
      obtain ⟨i, hi⟩ : ∃ i, n / 2 = i := ⟨_, rfl⟩
      have g3 : ((n : Nat) : Int) / 2 = ((i : Nat) : Int) := by omega
      rw [hi] at hz
      have g4 : ¬ i < z := by omega
      clear IH STOP hx hi
      go_wp2_with fail
      refine HW.out.mono ?_
      rintro e _ ⟨rfl, rfl⟩
      go_wp2_with fail
      go_ret
      exact ⟨congrArg (fun z : Int => Ending.returned (Value.int .i64 z)) hw, HB1.out⟩
    · obtain ⟨g0, off, rfl, hc⟩ := HA1.out (by rw [HZ.out]; omega)
      obtain ⟨k0, k1⟩ := hc (n / 2) x hx
      have g2 : ((n : Nat) : Int) % 2 = 0 := by omega
      obtain ⟨i, hi⟩ : ∃ i, n / 2 = i := ⟨_, rfl⟩
      have g3 : ((n : Nat) : Int) / 2 = ((i : Nat) : Int) := by omega
      rw [hi] at hz k0 k1
      have hi6 : i < 1000000 := by omega
      by_cases h0 : x.2 = 0
      · have hv := STOP.out (onN_not fun y _ h => by rw [hx] at h; cases h; exact h0)
        subst hv
        rw [h0] at k1
        clear IH STOP hx hi hc h0
        go_wp2_with fail
        refine HW.out.mono ?_
        rintro e _ ⟨rfl, rfl⟩
        go_wp2_with fail
        go_ret
        exact ⟨congrArg (fun z : Int => Ending.returned (Value.int .i64 z)) hw, HB1.out⟩
      · have HC := Lib.hid (IH.out (onN_is g hx h0))
        have e2 : ((n + 2 : Nat) : Int) = ((n : Nat) : Int) + 2 := by omega
        have hne : (x.2 != 0) = true := by simpa using h0
        rw [e2] at HC
        clear IH STOP hx hi hc e2 h0
        go_wp2_with fail
        refine HW.out.mono ?_
        rintro e _ ⟨rfl, rfl⟩
        go_wp2_with fail
        refine HC.out.mono ?_
        rintro e w' ⟨rfl, hb'⟩
        have HB' := Lib.hid hb'
        clear hb'
        go_wp2_with fail
        go_ret
        exact ⟨rfl, HB'.out⟩
theorem refAdd_any (st : Bool) (o : Option Addr) (xs : List ItemP) (cap : Nat) (hxl : xs.length ≤ 10) : ∀ (f s n : Nat), 2 * xs.length + 2 - n ≤ f → s < 2 ^ (2 * xs.length + 1) → n ≤ 2 * xs.length → ∀ (w : World), AtI w o xs →
    Calls Tryd.prog 30 #[patV st o xs.length cap, .int .i64 (s : Nat), .int .i64 (n : Nat)] w fun e w' => e = .returned (.int .i64 ((addN xs s n : Nat) : Int)) ∧ Below w.heap.size w w'
  | 0, s, n, hf, _, hn, _, _ => by omega
  | f + 1, s, n, hf, hs, hn, w, hA =>
    refAdd_step st o xs cap hxl s n hs hn w hA fun s' hs' hn' W hb => refAdd_any st o xs cap hxl f s' (n + 2) (by omega) hs' hn' W (hA.below hb)
end Go.Proofs.YtjacebnlikhjnaaDoor

namespace Go.Proofs.YtjacebnlikhjnaaDoor
open Go.RowKit Go.Shelf Go.Maps
attribute [local go_sem] Oper.semAt_some

theorem goes_x {xs : List ItemP} {c : Int} {j i : Nat} {x : ItemP} (hi : j / 2 = i) (hx : xs[i]? = some x) : goesH xs c j = if hasZ x.1 c then some (if j % 2 = 1 then j - 1 else j + farH x.2) else none := by
  subst hi
  unfold goesH
  rw [hx]
  rfl
set_option maxRecDepth 100000 in
set_option maxHeartbeats 4000000 in
theorem refStepL_any (st : Bool) (o : Option Addr) (xs : List ItemP) (cap : Nat) (hr : rightB xs 32 = true) (s : Nat) (hs : s < 2 ^ (2 * xs.length + 1)) (c : Int) (w : World) (hA : AtI w o xs) :
    Calls Tryd.prog 32 #[patV st o xs.length cap, .int .i64 (s : Nat), .int .i64 c] w fun e w' => e = .returned (.int .i64 ((stepS xs st c s : Nat) : Int)) ∧ Below w.heap.size w w' := by
  have hlen := (rightB_parts hr).2.1
  have hw := rightB_how hr
  obtain ⟨w1, hw1⟩ : ∃ w1, w.alloc (patO st o xs.length cap) = w1 := ⟨_, rfl⟩
  have b1 : Below w.heap.size w w1 := by rw [← hw1]; exact (Below.refl _ _).alloc (Nat.le_refl _) _
  have r1 : w1.heap[w.heap.size]? = some (patO st o xs.length cap) := by rw [← hw1]; exact heap_alloc_new _ _
  have h21 : 2 ^ (2 * xs.length + 1) ≤ 2 ^ 32 := Nat.pow_le_pow_right (by decide) (by omega)
  have HHAS := Lib.hid (fun (j : Nat) (hj : j ≤ 2 * xs.length) W => refHasH_any s j (Nat.lt_of_lt_of_le hs h21) (by omega) W)
  have HADD := Lib.hid (fun (v m : Nat) (hv : v < 2 ^ (2 * xs.length + 1)) (hm : m ≤ 2 * xs.length) W (hb : Below w.heap.size w W) => refAdd_any st o xs cap hlen (2 * xs.length + 2) v m (by omega) hv hm W (hA.below hb))
  have HOUT := Lib.hid (fun j (hj : j ≤ 2 * xs.length) => outN_lt hw c s j hj)
  have HNOT := Lib.hid (fun j => @outN_not xs c s j)
  have HYES := Lib.hid (fun j m => @outN_add xs c s j m)
  have HGO := Lib.hid (fun j i x => @goes_x xs c j i x)
  have HT : Hid (stepS xs true c s = outN xs c s (2 * xs.length)) := Lib.hid (step_start xs c s)
  have HF : Hid (stepS xs false c s = addN xs (outN xs c s (2 * xs.length)) 0) := Lib.hid (step_free xs c s)
  have HHOW := Lib.hid hw
  obtain ⟨z, hz⟩ : ∃ z, xs.length = z := ⟨_, rfl⟩
  rw [hz] at hlen r1 hw1 HHAS HADD HOUT HT HF ⊢
  have HN := Lib.hid hz
  have HA := Lib.hid hA
  have HW1 := Lib.hid hw1
  have HB1 := Lib.hid b1
  have HR1 := Lib.hid r1
  clear hw1 b1 r1 hz hA hr hs h21 hw
  go_enter Tryd.func32, Tryd.ntmps32
  go_wp2_with fail
  rw [HW1.out]
  go_loopg [7, 8] (2 * z) (fun k v i wr => ∃ (j v' : Nat), i = .int .i64 (j : Nat) ∧ v = .int .i64 (v' : Nat) ∧ j ≤ 2 * z ∧ k = 2 * z - j ∧ Hid (v' = outN xs c s j) ∧ Hid (Below w1.heap.size w1 wr))
  case atStart => exact ⟨0, 0, rfl, rfl, Nat.zero_le _, rfl, Lib.hid (outN_zero xs c s).symm, Lib.hid (Below.refl _ _)⟩
  case round =>
    obtain ⟨j, v, rfl, rfl, hj, rfl, HV, HB⟩ := hrel
    have hj6 : j < 1000000 := by omega
    have HBW := Lib.hid (HB1.out.trans (HB.out.mono HB1.out.size))
    obtain ⟨p0, p1⟩ := pat_cells (row_below HR1.out HB.out)
    rcases Nat.lt_or_ge j (2 * z) with hlt | hge
    · obtain ⟨i, hi⟩ : ∃ i, j / 2 = i := ⟨_, rfl⟩
      have hiz : i < z := by omega
      have hi6 : i < 1000000 := by omega
      have e2 : ((j : Nat) : Int) / 2 = ((i : Nat) : Int) := by omega
      obtain ⟨x, hx⟩ : ∃ x, xs[i]? = some x := ⟨_, List.getElem?_eq_getElem (by rw [HN.out]; exact hiz)⟩
      obtain ⟨g, off, rfl, hc⟩ := (HA.out.below HBW.out) (by rw [HN.out]; omega)
      obtain ⟨k0, k1⟩ := hc i x hx
      have HG := Lib.hid (HGO.out j i x hi hx)
      have hwx := HHOW.out x (List.mem_of_getElem? hx)
      obtain ⟨a, h⟩ := x
      simp only at k0 k1 HG hwx
      have bb : Below wr.heap.size wr (wr.alloc (itO (a, h))) := (Below.refl _ _).alloc (Nat.le_refl _) _
      have hltw : w.heap.size < wr.heap.size := (Array.getElem?_eq_some_iff.1 (row_below HR1.out HB.out)).1
      have HBB := Lib.hid (HB.out.trans (bb.mono HB.out.size))
      have HBBW := Lib.hid (HBW.out.trans (bb.mono HBW.out.size))
      have HH := Lib.hid (HHAS.out j hj (wr.alloc (itO (a, h))))
      have HS := Lib.hid (refHas_any a c (wr.alloc (itO (a, h))))
      have hv21 : v < 2 ^ (2 * z + 1) := by rw [HV.out]; exact HOUT.out j hj
      have HV21 := Lib.hid hv21
      cases hb : s.testBit j with
      | false =>
        have HV2 : Hid (v = outN xs c s (j + 1)) := Lib.hid (by rw [HNOT.out j (.inl hb)]; exact HV.out)
        rw [hb] at HH
        clear hb hc hx bb hv21 hi hwx
        go_wp2_with fail
        refine HH.out.mono ?_
        rintro e _ ⟨rfl, rfl⟩
        go_wp2
        go_roundg (2 * z - (j + 1))
        case measure => omega
        case rel => exact ⟨j + 1, v, by simp, rfl, by omega, rfl, HV2, HBB⟩
      | true =>
        rw [hb] at HH
        cases hh : hasZ a c with
        | false =>
          have HV2 : Hid (v = outN xs c s (j + 1)) := Lib.hid (by rw [HNOT.out j (.inr (by rw [HG.out, hh]; rfl))]; exact HV.out)
          rw [hh] at HS
          clear hb hc hx bb hv21 hi hwx hh
          go_wp2_with fail
          refine HH.out.mono ?_
          rintro e _ ⟨rfl, rfl⟩
          go_wp2_with fail
          refine HS.out.mono ?_
          rintro e _ ⟨rfl, rfl⟩
          go_wp2
          go_roundg (2 * z - (j + 1))
          case measure => omega
          case rel => exact ⟨j + 1, v, by simp, rfl, by omega, rfl, HV2, HBB⟩
        | true =>
          rw [hh] at HS
          have HGM : Hid (goesH xs c j = some (if j % 2 = 1 then j - 1 else j + farH h)) := Lib.hid (by rw [HG.out, hh]; rfl)
          rcases Nat.mod_two_eq_zero_or_one j with g2 | g2
          · have f2 : ((j : Nat) : Int) % 2 = 0 := by omega
            rcases hwx with rfl | rfl | rfl
            · have hm : j + 2 ≤ 2 * z := by omega
              have HV2 : Hid (addN xs v (j + 2) = outN xs c s (j + 1)) := Lib.hid (by
                rw [HYES.out j (j + 2) hb (by rw [HGM.out, if_neg (by omega)]; rfl), HV.out])
              have HC := Lib.hid (HADD.out v (j + 2) HV21.out hm (wr.alloc (itO (a, 0))) HBBW.out)
              have e3 : ((j + 2 : Nat) : Int) = ((j : Nat) : Int) + 2 := by omega
              rw [e3] at HC
              obtain ⟨u, hu⟩ : ∃ u, addN xs v (j + 2) = u := ⟨_, rfl⟩
              rw [hu] at HC HV2
              clear hb hc hx bb hv21 hi hh HG HGM hm e3 hu
              go_wp2_with fail
              refine HH.out.mono ?_
              rintro e _ ⟨rfl, rfl⟩
              go_wp2_with fail
              refine HS.out.mono ?_
              rintro e _ ⟨rfl, rfl⟩
              go_wp2_with fail
              refine HC.out.mono ?_
              rintro e w9 ⟨rfl, b9⟩
              have HB9 := Lib.hid (HBB.out.trans (b9.mono HBB.out.size))
              clear b9
              go_wp2
              go_roundg (2 * z - (j + 1))
              case measure => omega
              case rel => exact ⟨j + 1, u, by simp, rfl, by omega, rfl, HV2, HB9⟩
            · have hm : j ≤ 2 * z := by omega
              have HV2 : Hid (addN xs v j = outN xs c s (j + 1)) := Lib.hid (by
                rw [HYES.out j j hb (by rw [HGM.out, if_neg (by omega)]; rfl), HV.out])
              have HC := Lib.hid (HADD.out v j HV21.out hm (wr.alloc (itO (a, 1))) HBBW.out)
              obtain ⟨u, hu⟩ : ∃ u, addN xs v j = u := ⟨_, rfl⟩
              rw [hu] at HC HV2
              clear hb hc hx bb hv21 hi hh HG HGM hm hu
              go_wp2_with fail
              refine HH.out.mono ?_
              rintro e _ ⟨rfl, rfl⟩
              go_wp2_with fail
              refine HS.out.mono ?_
              rintro e _ ⟨rfl, rfl⟩
              go_wp2_with fail
              refine HC.out.mono ?_
              rintro e w9 ⟨rfl, b9⟩
              have HB9 := Lib.hid (HBB.out.trans (b9.mono HBB.out.size))
              clear b9
              go_wp2
              go_roundg (2 * z - (j + 1))
              case measure => omega
              case rel => exact ⟨j + 1, u, by simp, rfl, by omega, rfl, HV2, HB9⟩
            · have hm : j + 1 ≤ 2 * z := by omega
              have HV2 : Hid (addN xs v (j + 1) = outN xs c s (j + 1)) := Lib.hid (by
                rw [HYES.out j (j + 1) hb (by rw [HGM.out, if_neg (by omega)]; rfl), HV.out])
              have HC := Lib.hid (HADD.out v (j + 1) HV21.out hm (wr.alloc (itO (a, 2))) HBBW.out)
              have e3 : ((j + 1 : Nat) : Int) = ((j : Nat) : Int) + 1 := by omega
              rw [e3] at HC
              obtain ⟨u, hu⟩ : ∃ u, addN xs v (j + 1) = u := ⟨_, rfl⟩
              rw [hu] at HC HV2
              clear hb hc hx bb hv21 hi hh HG HGM hm e3 hu
              go_wp2_with fail
              refine HH.out.mono ?_
              rintro e _ ⟨rfl, rfl⟩
              go_wp2_with fail
              refine HS.out.mono ?_
              rintro e _ ⟨rfl, rfl⟩
              go_wp2_with fail
              refine HC.out.mono ?_
              rintro e w9 ⟨rfl, b9⟩
              have HB9 := Lib.hid (HBB.out.trans (b9.mono HBB.out.size))
              clear b9
              go_wp2
              go_roundg (2 * z - (j + 1))
              case measure => omega
              case rel => exact ⟨j + 1, u, by simp, rfl, by omega, rfl, HV2, HB9⟩
          · have f2 : ((j : Nat) : Int) % 2 = 1 := by omega
            have hm : j - 1 ≤ 2 * z := by omega
            have HV2 : Hid (addN xs v (j - 1) = outN xs c s (j + 1)) := Lib.hid (by
              rw [HYES.out j (j - 1) hb (by rw [HGM.out, if_pos g2]), HV.out])
            have HC := Lib.hid (HADD.out v (j - 1) HV21.out hm (wr.alloc (itO (a, h))) HBBW.out)
            have e3 : ((j - 1 : Nat) : Int) = ((j : Nat) : Int) - 1 := by omega
            rw [e3] at HC
            obtain ⟨u, hu⟩ : ∃ u, addN xs v (j - 1) = u := ⟨_, rfl⟩
            rw [hu] at HC HV2
            clear hb hc hx bb hv21 hi hh HG HGM hm e3 hu hwx
            go_wp2_with fail
            refine HH.out.mono ?_
            rintro e _ ⟨rfl, rfl⟩
            go_wp2_with fail
            refine HS.out.mono ?_
            rintro e _ ⟨rfl, rfl⟩
            go_wp2_with fail
            refine HC.out.mono ?_
            rintro e w9 ⟨rfl, b9⟩
            have HB9 := Lib.hid (HBB.out.trans (b9.mono HBB.out.size))
            clear b9
            go_wp2
            go_roundg (2 * z - (j + 1))
            case measure => omega
            case rel => exact ⟨j + 1, u, by simp, rfl, by omega, rfl, HV2, HB9⟩
    · obtain rfl : j = 2 * z := by omega
      cases st with
      | true =>
        have hv : v = stepS xs true c s := by rw [HT.out]; exact HV.out
        have HX := Lib.hid hv.symm
        clear hv
        go_wp2_with fail
        go_ret
        exact ⟨by rw [HX.out]; rfl, HBW.out⟩
      | false =>
        have hv21 : v < 2 ^ (2 * z + 1) := by rw [HV.out]; exact HOUT.out _ hj
        have HC := Lib.hid (HADD.out v 0 hv21 (Nat.zero_le _) wr HBW.out)
        have HX : Hid (addN xs v 0 = stepS xs false c s) := Lib.hid (by rw [HF.out, HV.out])
        rw [HX.out] at HC
        clear hv21
        go_wp2_with fail
        refine HC.out.mono ?_
        rintro e w9 ⟨rfl, b9⟩
        have HB9 := Lib.hid (HBW.out.trans (b9.mono HBW.out.size))
        clear b9
        go_wp2_with fail
        go_ret
        exact ⟨rfl, HB9.out⟩
end Go.Proofs.YtjacebnlikhjnaaDoor
