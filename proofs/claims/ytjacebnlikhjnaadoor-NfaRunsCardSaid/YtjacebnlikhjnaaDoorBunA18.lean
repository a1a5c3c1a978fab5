/- The document's own Most, First, Step, Done. The document's own Run, Fits. The document's own Fits. NfaStart: a pattern that stands at the start has fitted at most where the same one that may begin anywhere has. -/
import Derived.Test.YtjacebnlikhjnaaDoorBunA17
import Derived.Test.YtjacebnlikhjnaaDoorBunA16
namespace Go.Proofs.YtjacebnlikhjnaaDoor
open Go.RowKit Go.Shelf Go.Maps
attribute [local go_sem] Oper.semAt_some

def mostA (xs : List ItemP) : Int := if rightB xs 32 = true then ((mostS xs : Nat) : Int) else 0
def firstA (xs : List ItemP) : Int := if rightB xs 32 = true then ((firstS xs : Nat) : Int) else 0
set_option maxRecDepth 100000 in
set_option maxHeartbeats 4000000 in
theorem refMost_any (st : Bool) (o : Option Addr) (xs : List ItemP) (cap : Nat) (hxl : xs.length ≤ 100000) (w : World) (hA : AtI w o xs) :
    Calls Tryd.prog 17 #[patV st o xs.length cap] w fun e w' => e = .returned (.int .i64 (mostA xs)) ∧ Below w.heap.size w w' := by
  obtain ⟨w1, hw1⟩ : ∃ w1, w.alloc (patO st o xs.length cap) = w1 := ⟨_, rfl⟩
  have b1 : Below w.heap.size w w1 := by rw [← hw1]; exact (Below.refl _ _).alloc (Nat.le_refl _) _
  have r1 : w1.heap[w.heap.size]? = some (patO st o xs.length cap) := by rw [← hw1]; exact heap_alloc_new _ _
  have HR := Lib.hid (refRight_anyQ st o xs cap 32 hxl w1 (hA.below b1))
  unfold mostA
  obtain ⟨z, hz⟩ : ∃ z, xs.length = z := ⟨_, rfl⟩
  have HW1 := Lib.hid hw1
  have HB1 := Lib.hid b1
  have HR1 := Lib.hid r1
  cases hr : rightB xs 32 with
  | false =>
    rw [hr] at HR
    rw [hz] at HR HW1 ⊢
    clear hw1 b1 r1 hA hr hz hxl HR1
    go_enter Tryd.func17, Tryd.ntmps17
    go_wp2_with fail
    rw [HW1.out]
    refine HR.out.mono ?_
    rintro e w2 ⟨rfl, b2⟩
    have HB2 := Lib.hid (HB1.out.trans (b2.mono HB1.out.size))
    clear b2
    go_wp2_with fail
    go_ret
    exact ⟨rfl, HB2.out⟩
  | true =>
    have hlen := (rightB_parts hr).2.1
    rw [hr] at HR
    have HP : Hid (∀ W, Calls Tryd.prog 38 #[.int .i64 ((2 * xs.length : Nat) : Int)] W fun e w' => e = .returned (.int .i64 ((2 ^ (2 * xs.length) : Nat) : Int)) ∧ W = w') := Lib.hid fun W => refBit_any (2 * xs.length) (by omega) W
    have hm : mostS xs = 2 * 2 ^ (2 * xs.length) - 1 := by unfold mostS; rw [Nat.pow_succ, Nat.mul_comm]
    have hp := two_pos (2 * xs.length)
    have h21 : 2 ^ (2 * xs.length) ≤ 2 ^ 20 := Nat.pow_le_pow_right (by decide) (by omega)
    have e20 : (2 : Nat) ^ 20 = 1048576 := by decide
    rw [hm, if_pos rfl]
    rw [hz] at HR HW1 HR1 HP hp h21 hlen ⊢
    obtain ⟨p, hpp⟩ : ∃ p, 2 ^ (2 * z) = p := ⟨_, rfl⟩
    rw [hpp] at HP hp h21 ⊢
    have hp1 : p ≤ 1048576 := by omega
    have em : ((2 * p - 1 : Nat) : Int) = 2 * ((p : Nat) : Int) - 1 := by omega
    have ec : ((2 * z : Nat) : Int) = 2 * ((z : Nat) : Int) := by omega
    rw [em]
    clear hw1 b1 r1 hA hr hz hxl hm hpp h21 e20 em
    go_enter Tryd.func17, Tryd.ntmps17
    go_wp2_with fail
    rw [HW1.out]
    refine HR.out.mono ?_
    rintro e w2 ⟨rfl, b2⟩
    have HB2 := Lib.hid (HB1.out.trans (b2.mono HB1.out.size))
    obtain ⟨q0, q1⟩ := pat_cells (row_below HR1.out b2)
    have HC := Lib.hid (HP.out w2)
    clear b2 ec
    go_wp2_with fail
    first | refine HC.out.mono ?_ | (trace_state; fail)
    rintro e _ ⟨rfl, rfl⟩
    go_wp2_with fail
    go_ret
    exact ⟨by simp, HB2.out⟩
set_option maxRecDepth 100000 in
set_option maxHeartbeats 4000000 in
theorem refFirst_any (st : Bool) (o : Option Addr) (xs : List ItemP) (cap : Nat) (hxl : xs.length ≤ 100000) (w : World) (hA : AtI w o xs) :
    Calls Tryd.prog 11 #[patV st o xs.length cap] w fun e w' => e = .returned (.tuple #[.int .i64 (firstA xs), .int .i64 (numA (rightB xs 32))]) ∧ Below w.heap.size w w' := by
  obtain ⟨w1, hw1⟩ : ∃ w1, w.alloc (patO st o xs.length cap) = w1 := ⟨_, rfl⟩
  have b1 : Below w.heap.size w w1 := by rw [← hw1]; exact (Below.refl _ _).alloc (Nat.le_refl _) _
  have r1 : w1.heap[w.heap.size]? = some (patO st o xs.length cap) := by rw [← hw1]; exact heap_alloc_new _ _
  have HR := Lib.hid (refRight_anyQ st o xs cap 32 hxl w1 (hA.below b1))
  unfold firstA numA
  obtain ⟨z, hz⟩ : ∃ z, xs.length = z := ⟨_, rfl⟩
  have HW1 := Lib.hid hw1
  have HB1 := Lib.hid b1
  have HR1 := Lib.hid r1
  cases hr : rightB xs 32 with
  | false =>
    rw [hr] at HR
    rw [hz] at HR HW1 ⊢
    clear hw1 b1 r1 hA hr hz hxl HR1
    go_enter Tryd.func11, Tryd.ntmps11
    go_wp2_with fail
    rw [HW1.out]
    refine HR.out.mono ?_
    rintro e w2 ⟨rfl, b2⟩
    have HB2 := Lib.hid (HB1.out.trans (b2.mono HB1.out.size))
    clear b2
    go_wp2_with fail
    exact bodyPost_ret (results_tmp2 (t := 2) (u := 3) rfl _ _ _) rfl ⟨rfl, HB2.out⟩
  | true =>
    have hlen := (rightB_parts hr).2.1
    rw [hr] at HR
    have HADD := Lib.hid (fun W (hb : Below w.heap.size w W) => refAdd_any st o xs cap hlen (2 * xs.length + 2) 0 0 (by omega) (Nat.pow_pos (by decide)) (Nat.zero_le _) W (hA.below hb))
    rw [first_add] at HADD
    rw [hz] at HR HW1 HR1 HADD ⊢
    clear hw1 b1 r1 hA hr hz hxl
    go_enter Tryd.func11, Tryd.ntmps11
    go_wp2_with fail
    rw [HW1.out]
    refine HR.out.mono ?_
    rintro e w2 ⟨rfl, b2⟩
    have HB2 := Lib.hid (HB1.out.trans (b2.mono HB1.out.size))
    obtain ⟨q0, q1⟩ := pat_cells (row_below HR1.out b2)
    have HC := Lib.hid (HADD.out w2 HB2.out)
    clear b2
    go_wp2_with fail
    refine HC.out.mono ?_
    rintro e w3 ⟨rfl, b3⟩
    have HB3 := Lib.hid (HB2.out.trans (b3.mono HB2.out.size))
    clear b3
    go_wp2_with fail
    exact bodyPost_ret (results_tmp2 (t := 2) (u := 3) rfl _ _ _) rfl ⟨rfl, HB3.out⟩
theorem knowA_parts {xs : List ItemP} {s : Int} : knowA xs s = false → rightB xs 32 = false ∨ (rightB xs 32 = true ∧ (s < 0 ∨ (0 ≤ s ∧ ((mostS xs : Nat) : Int) < s))) := fun h => by
  cases hr : rightB xs 32 with
  | false => exact .inl rfl
  | true =>
    unfold knowA knowsB at h
    rw [hr, Bool.true_and] at h
    have := of_decide_eq_false h
    unfold mostS
    exact .inr ⟨rfl, by omega⟩
theorem knowA_most {xs : List ItemP} {s : Int} (h : knowA xs s = true) : s ≤ ((mostS xs : Nat) : Int) := by
  unfold knowA knowsB at h
  obtain ⟨_, h⟩ := Bool.and_eq_true_iff.1 h
  exact (of_decide_eq_true h).2
theorem most_is {xs : List ItemP} (h : rightB xs 32 = true) : mostA xs = ((mostS xs : Nat) : Int) := by unfold mostA; rw [if_pos h]
set_option maxRecDepth 100000 in
set_option maxHeartbeats 4000000 in
theorem refStep_any (st : Bool) (o : Option Addr) (xs : List ItemP) (cap : Nat) (s c : Int) (hxl : xs.length ≤ 100000) (w : World) (hA : AtI w o xs) :
    Calls Tryd.prog 13 #[patV st o xs.length cap, .int .i64 s, .int .i64 c] w fun e w' => e = .returned (.tuple #[.int .i64 (stepA st xs s c), .int .i64 (numA (knowA xs s))]) ∧ Below w.heap.size w w' := by
  obtain ⟨w1, hw1⟩ : ∃ w1, w.alloc (patO st o xs.length cap) = w1 := ⟨_, rfl⟩
  have b1 : Below w.heap.size w w1 := by rw [← hw1]; exact (Below.refl _ _).alloc (Nat.le_refl _) _
  have r1 : w1.heap[w.heap.size]? = some (patO st o xs.length cap) := by rw [← hw1]; exact heap_alloc_new _ _
  have HR := Lib.hid (refRight_anyQ st o xs cap 32 hxl w1 (hA.below b1))
  have HM := Lib.hid (fun W (hb : Below w.heap.size w W) => refMost_any st o xs cap hxl W (hA.below hb))
  have HSTP := Lib.hid (fun (hr : rightB xs 32 = true) (hs : s.toNat < 2 ^ (2 * xs.length + 1)) W (hb : Below w.heap.size w W) => refStepL_any st o xs cap hr s.toNat hs c W (hA.below hb))
  unfold stepA numA
  obtain ⟨z, hz⟩ : ∃ z, xs.length = z := ⟨_, rfl⟩
  have HW1 := Lib.hid hw1
  have HB1 := Lib.hid b1
  have HR1 := Lib.hid r1
  clear hw1 b1 r1 hA hxl
  cases hk : knowA xs s with
  | false =>
    rw [if_neg (by decide), if_neg (by decide)]
    rcases knowA_parts hk with hr | ⟨hr, h0 | ⟨h0, h1⟩⟩
    · rw [hr] at HR
      rw [hz] at HR HW1 ⊢
      clear hr hz hk HR1 HM HSTP
      go_enter Tryd.func13, Tryd.ntmps13
      go_wp2_with fail
      rw [HW1.out]
      refine HR.out.mono ?_
      rintro e w2 ⟨rfl, b2⟩
      have HB2 := Lib.hid (HB1.out.trans (b2.mono HB1.out.size))
      clear b2
      go_wp2_with fail
      exact bodyPost_ret (results_tmp2 (t := 6) (u := 7) rfl _ _ _) rfl ⟨rfl, HB2.out⟩
    · rw [hr] at HR
      rw [hz] at HR HW1 ⊢
      clear hr hz hk HR1 HM HSTP
      go_enter Tryd.func13, Tryd.ntmps13
      go_wp2_with fail
      rw [HW1.out]
      refine HR.out.mono ?_
      rintro e w2 ⟨rfl, b2⟩
      have HB2 := Lib.hid (HB1.out.trans (b2.mono HB1.out.size))
      clear b2
      go_wp2_with fail
      exact bodyPost_ret (results_tmp2 (t := 6) (u := 7) rfl _ _ _) rfl ⟨rfl, HB2.out⟩
    · rw [hr] at HR
      rw [most_is hr] at HM
      rw [hz] at HR HW1 HR1 HM ⊢
      obtain ⟨m, hm⟩ : ∃ m, mostS xs = m := ⟨_, rfl⟩
      rw [hm] at HM h1
      have h2 : ¬ s < 0 := by omega
      clear hr hz hk HSTP hm
      go_enter Tryd.func13, Tryd.ntmps13
      go_wp2_with fail
      rw [HW1.out]
      refine HR.out.mono ?_
      rintro e w2 ⟨rfl, b2⟩
      have HB2 := Lib.hid (HB1.out.trans (b2.mono HB1.out.size))
      obtain ⟨q0, q1⟩ := pat_cells (row_below HR1.out b2)
      have HC := Lib.hid (HM.out w2 HB2.out)
      clear b2
      go_wp2_with fail
      refine HC.out.mono ?_
      rintro e w3 ⟨rfl, b3⟩
      have HB3 := Lib.hid (HB2.out.trans (b3.mono HB2.out.size))
      clear b3
      go_wp2_with fail
      exact bodyPost_ret (results_tmp2 (t := 6) (u := 7) rfl _ _ _) rfl ⟨rfl, HB3.out⟩
  | true =>
    obtain ⟨hr, h0, hs, _⟩ := knowA_nat hk
    have h1 := knowA_most hk
    rw [if_pos rfl, if_pos rfl]
    have HST := Lib.hid (HSTP.out hr hs)
    rw [hr] at HR
    rw [most_is hr] at HM
    have es : ((s.toNat : Nat) : Int) = s := Int.toNat_of_nonneg h0
    rw [es] at HST
    rw [hz] at HR HW1 HR1 HM HST ⊢
    obtain ⟨m, hm⟩ : ∃ m, mostS xs = m := ⟨_, rfl⟩
    obtain ⟨u, hu⟩ : ∃ u, stepS xs st c s.toNat = u := ⟨_, rfl⟩
    rw [hm] at HM h1
    rw [hu] at HST ⊢
    have h2 : ¬ s < 0 := by omega
    have h3 : ¬ ((m : Nat) : Int) < s := by omega
    clear hr hz hk HSTP hm hs es hu
    go_enter Tryd.func13, Tryd.ntmps13
    go_wp2_with fail
    rw [HW1.out]
    refine HR.out.mono ?_
    rintro e w2 ⟨rfl, b2⟩
    have HB2 := Lib.hid (HB1.out.trans (b2.mono HB1.out.size))
    obtain ⟨q0, q1⟩ := pat_cells (row_below HR1.out b2)
    have HC := Lib.hid (HM.out w2 HB2.out)
    have HR2 := Lib.hid (row_below HR1.out b2)
    clear b2
    go_wp2_with fail
    refine HC.out.mono ?_
    rintro e w3 ⟨rfl, b3⟩
    have HB3 := Lib.hid (HB2.out.trans (b3.mono HB2.out.size))
    obtain ⟨t0, t1⟩ := pat_cells (row_below HR2.out b3)
    have HD := Lib.hid (HST.out w3 HB3.out)
    clear b3 q0 q1
    go_wp2_with fail
    refine HD.out.mono ?_
    rintro e w4 ⟨rfl, b4⟩
    have HB4 := Lib.hid (HB3.out.trans (b4.mono HB3.out.size))
    clear b4
    go_wp2_with fail
    exact bodyPost_ret (results_tmp2 (t := 6) (u := 7) rfl _ _ _) rfl ⟨rfl, HB4.out⟩
set_option maxRecDepth 100000 in
set_option maxHeartbeats 4000000 in
theorem refDone_any (st : Bool) (o : Option Addr) (xs : List ItemP) (cap : Nat) (s : Int) (hxl : xs.length ≤ 100000) (w : World) (hA : AtI w o xs) :
    Calls Tryd.prog 15 #[patV st o xs.length cap, .int .i64 s] w fun e w' => e = .returned (.bool (knowA xs s && doneS xs s.toNat)) ∧ Below w.heap.size w w' := by
  obtain ⟨w1, hw1⟩ : ∃ w1, w.alloc (patO st o xs.length cap) = w1 := ⟨_, rfl⟩
  have b1 : Below w.heap.size w w1 := by rw [← hw1]; exact (Below.refl _ _).alloc (Nat.le_refl _) _
  have r1 : w1.heap[w.heap.size]? = some (patO st o xs.length cap) := by rw [← hw1]; exact heap_alloc_new _ _
  have HR := Lib.hid (refRight_anyQ st o xs cap 32 hxl w1 (hA.below b1))
  have HM := Lib.hid (fun W (hb : Below w.heap.size w W) => refMost_any st o xs cap hxl W (hA.below hb))
  obtain ⟨z, hz⟩ : ∃ z, xs.length = z := ⟨_, rfl⟩
  have HW1 := Lib.hid hw1
  have HB1 := Lib.hid b1
  have HR1 := Lib.hid r1
  clear hw1 b1 r1 hA hxl
  cases hk : knowA xs s with
  | false =>
    rw [Bool.false_and]
    rcases knowA_parts hk with hr | ⟨hr, h0 | ⟨h0, h1⟩⟩
    · rw [hr] at HR
      rw [hz] at HR HW1 ⊢
      clear hr hz hk HR1 HM
      go_enter Tryd.func15, Tryd.ntmps15
      go_wp2_with fail
      rw [HW1.out]
      refine HR.out.mono ?_
      rintro e w2 ⟨rfl, b2⟩
      have HB2 := Lib.hid (HB1.out.trans (b2.mono HB1.out.size))
      clear b2
      go_wp2_with fail
      go_ret
      exact ⟨rfl, HB2.out⟩
    · rw [hr] at HR
      rw [hz] at HR HW1 ⊢
      have h2 : ¬ 0 ≤ s := by omega
      clear hr hz hk HR1 HM
      go_enter Tryd.func15, Tryd.ntmps15
      go_wp2_with fail
      rw [HW1.out]
      refine HR.out.mono ?_
      rintro e w2 ⟨rfl, b2⟩
      have HB2 := Lib.hid (HB1.out.trans (b2.mono HB1.out.size))
      clear b2
      go_wp2_with fail
      go_ret
      exact ⟨rfl, HB2.out⟩
    · rw [hr] at HR
      rw [most_is hr] at HM
      rw [hz] at HR HW1 HR1 HM ⊢
      obtain ⟨m, hm⟩ : ∃ m, mostS xs = m := ⟨_, rfl⟩
      rw [hm] at HM h1
      have h2 : ¬ s ≤ ((m : Nat) : Int) := by omega
      clear hr hz hk hm
      go_enter Tryd.func15, Tryd.ntmps15
      go_wp2_with fail
      rw [HW1.out]
      refine HR.out.mono ?_
      rintro e w2 ⟨rfl, b2⟩
      have HB2 := Lib.hid (HB1.out.trans (b2.mono HB1.out.size))
      obtain ⟨q0, q1⟩ := pat_cells (row_below HR1.out b2)
      have HC := Lib.hid (HM.out w2 HB2.out)
      clear b2
      go_wp2_with fail
      refine HC.out.mono ?_
      rintro e w3 ⟨rfl, b3⟩
      have HB3 := Lib.hid (HB2.out.trans (b3.mono HB2.out.size))
      clear b3
      go_wp2_with fail
      go_ret
      exact ⟨rfl, HB3.out⟩
  | true =>
    obtain ⟨hr, h0, hs, hs32⟩ := knowA_nat hk
    have h1 := knowA_most hk
    have hlen := (rightB_parts hr).2.1
    have HHAS : Hid (∀ W, Calls Tryd.prog 36 #[.int .i64 s, .int .i64 (2 * ((xs.length : Nat) : Int))] W fun e w' => e = .returned (.bool (doneS xs s.toNat)) ∧ W = w') := Lib.hid fun W => by
      have := refHasH_any s.toNat (2 * xs.length) hs32 (by omega) W
      rwa [Int.toNat_of_nonneg h0, show ((2 * xs.length : Nat) : Int) = 2 * ((xs.length : Nat) : Int) by omega] at this
    rw [Bool.true_and]
    rw [hr] at HR
    rw [most_is hr] at HM
    rw [hz] at HR HW1 HR1 HM HHAS hlen ⊢
    obtain ⟨m, hm⟩ : ∃ m, mostS xs = m := ⟨_, rfl⟩
    obtain ⟨d, hd⟩ : ∃ d, doneS xs s.toNat = d := ⟨_, rfl⟩
    rw [hm] at HM h1
    rw [hd] at HHAS ⊢
    clear hr hz hk hm hs hs32 hd
    go_enter Tryd.func15, Tryd.ntmps15
    go_wp2_with fail
    rw [HW1.out]
    refine HR.out.mono ?_
    rintro e w2 ⟨rfl, b2⟩
    have HB2 := Lib.hid (HB1.out.trans (b2.mono HB1.out.size))
    obtain ⟨q0, q1⟩ := pat_cells (row_below HR1.out b2)
    have HC := Lib.hid (HM.out w2 HB2.out)
    have HR2 := Lib.hid (row_below HR1.out b2)
    clear b2
    go_wp2_with fail
    refine HC.out.mono ?_
    rintro e w3 ⟨rfl, b3⟩
    have HB3 := Lib.hid (HB2.out.trans (b3.mono HB2.out.size))
    obtain ⟨t0, t1⟩ := pat_cells (row_below HR2.out b3)
    have HD := Lib.hid (HHAS.out w3)
    clear b3 q0 q1
    go_wp2_with fail
    first | refine HD.out.mono ?_ | (trace_state; fail)
    rintro e _ ⟨rfl, rfl⟩
    go_wp2_with fail
    go_ret
    exact ⟨rfl, HB3.out⟩
end Go.Proofs.YtjacebnlikhjnaaDoor

namespace Go.Proofs.YtjacebnlikhjnaaDoor
open Go.RowKit Go.Shelf Go.Maps
attribute [local go_sem] Oper.semAt_some
attribute [local go_sem ↓] app_hide

theorem own_rowH {w : World} {base n cap : Nat} {o : Option Addr} {e : TypeId} {size : Nat} {xs : List Value} {k : Nat} (h : w.ownsRow base e size (.slice o n cap) n xs) (hk : (Value.slice o n cap).ownBlock = some k) : base ≤ k := by
  rcases h.2 with ⟨hv, _⟩ | ⟨g, cap', cur, hv, hg, _⟩
  · cases hv; cases hk
  · cases hv
    simp [Value.ownBlock] at hk
    omega
theorem own_one {w : World} {e : TypeId} (u : Value) {base : Nat} (hb : base ≤ w.heap.size) : (w.alloc (.cells #[u] e)).ownsRow base e 1 (.slice (some ⟨w.heap.size, 0, none⟩) 1 1) 1 [u] :=
  ⟨rfl, .inr ⟨_, 1, #[u], rfl, hb, heap_alloc_new _ _, Nat.le_refl _, by decide, rfl, rfl⟩⟩
abbrev natV (l : List Nat) : List Value := l.map fun s : Nat => .int .i64 ((s : Nat) : Int)
set_option maxRecDepth 100000 in
set_option maxHeartbeats 4000000 in
theorem refRun_right (st : Bool) (o lo : Option Addr) (xs : List ItemP) (l : List Int) (cap lcap : Nat) (hr : rightB xs 32 = true) (hll : l.length ≤ 1000) (w : World) (hA : AtI w o xs) (hL : NumsAt w lo l) :
    Calls Tryd.prog 20 #[patV st o xs.length cap, .slice lo l.length lcap] w fun e w' => ∃ o' cap', e = .returned (.tuple #[.slice o' (l.length + 1) cap', .int .i64 0]) ∧ w'.ownsRow w.heap.size 2 1 (.slice o' (l.length + 1) cap') (l.length + 1) (natV (runsS xs st l)) ∧ Below w.heap.size w w' := by
  have hlen := (rightB_parts hr).2.1
  have hw := rightB_how hr
  obtain ⟨P, hP⟩ : ∃ P, (fun (e : Ending) w' => ∃ o' cap', e = .returned (.tuple #[.slice o' (l.length + 1) cap', .int .i64 0]) ∧ w'.ownsRow w.heap.size 2 1 (.slice o' (l.length + 1) cap') (l.length + 1) (natV (runsS xs st l)) ∧ Below w.heap.size w w') = P := ⟨_, rfl⟩
  have HP := Lib.hid hP
  rw [hP]
  obtain ⟨w1, hw1⟩ : ∃ w1, w.alloc (patO st o xs.length cap) = w1 := ⟨_, rfl⟩
  have b1 : Below w.heap.size w w1 := by rw [← hw1]; exact (Below.refl _ _).alloc (Nat.le_refl _) _
  have r1 : w1.heap[w.heap.size]? = some (patO st o xs.length cap) := by rw [← hw1]; exact heap_alloc_new _ _
  have HFI := Lib.hid (refFirst_any st o xs cap (by omega) w1 (hA.below b1))
  unfold firstA at HFI
  rw [hr, if_pos rfl] at HFI
  have HSTP := Lib.hid (fun (s : Nat) (hs : s < 2 ^ (2 * xs.length + 1)) (c : Int) W (hb : Below w.heap.size w W) => refStepL_any st o xs cap hr s hs c W (hA.below hb))
  have HRL := Lib.hid (fun r => run_lt hw (start := st) r)
  have H0 : Hid (firstS xs = runS xs st (l.take 0)) := Lib.hid rfl
  have HSN : Hid (∀ j, runsP xs st l (j + 1) = runsP xs st l j ++ [runS xs st (l.take j)]) := Lib.hid (runsP_snoc xs st l)
  have HST : Hid (∀ (j : Nat) (c : Int), l[j]? = some c → stepS xs st c (runS xs st (l.take j)) = runS xs st (l.take (j + 1))) := Lib.hid fun j c hc => by
    rw [List.take_add_one, hc]
    exact (runS_snoc xs st (l.take j) c).symm
  obtain ⟨z, hz⟩ : ∃ z, xs.length = z := ⟨_, rfl⟩
  obtain ⟨n, hn⟩ : ∃ n, l.length = n := ⟨_, rfl⟩
  rw [hz] at hlen r1 hw1 HFI HSTP HRL ⊢
  rw [hn] at hll ⊢
  have HN := Lib.hid hn
  have HA := Lib.hid hA
  have HL := Lib.hid hL
  have HW1 := Lib.hid hw1
  have HB1 := Lib.hid b1
  have HR1 := Lib.hid r1
  obtain ⟨f, hf⟩ : ∃ f, firstS xs = f := ⟨_, rfl⟩
  rw [hf] at HFI H0
  clear hw1 b1 r1 hz hn hA hL hr hw hP hf
  go_enter Tryd.func20, Tryd.ntmps20
  go_wp2_with fail
  rw [HW1.out]
  refine HFI.out.mono ?_
  rintro e w2 ⟨rfl, b2⟩
  have HB2 := Lib.hid (HB1.out.trans (b2.mono HB1.out.size))
  have HR2 := Lib.hid (row_below HR1.out b2)
  clear b2
  have hf0 : numA true = 0 := rfl
  rw [hf0]
  go_wp2_with fail
  have hbase : w.heap.size + 1 ≤ w2.heap.size := (Array.getElem?_eq_some_iff.1 HR2.out).1
  have HOW0 : Hid ((w2.alloc (.cells #[.int .i64 ((f : Nat) : Int)] 2)).ownsRow (w.heap.size + 1) 2 1 (.slice (some ⟨w2.heap.size, 0, none⟩) 1 1) 1 (natV (runsP xs st l 1))) := Lib.hid (by
    have e : natV (runsP xs st l 1) = [.int .i64 ((f : Nat) : Int)] := by rw [H0.out]; rfl
    rw [e]
    exact own_one _ hbase)
  have b3 : Below w2.heap.size w2 (w2.alloc (.cells #[.int .i64 ((f : Nat) : Int)] 2)) := (Below.refl _ _).alloc (Nat.le_refl _) _
  have HB3 := Lib.hid (HB2.out.trans (b3.mono HB2.out.size))
  have HR3 := Lib.hid (row_below HR2.out b3)
  have hz3 : w.heap.size + 1 ≤ (w2.alloc (.cells #[.int .i64 ((f : Nat) : Int)] 2)).heap.size := Nat.le_trans hbase b3.size
  obtain ⟨w3, hw3⟩ : ∃ w3, w2.alloc (.cells #[.int .i64 ((f : Nat) : Int)] 2) = w3 := ⟨_, rfl⟩
  rw [hw3] at HOW0 HB3 HR3 hz3
  have HW3 := Lib.hid hw3
  have HZ3 := Lib.hid hz3
  have HST3 : Hid (∀ W, Below (w.heap.size + 1) w3 W → W.heap[w.heap.size]? = some (patO st o z cap) ∧ Below w.heap.size w W ∧ w.heap.size + 1 ≤ W.heap.size) := Lib.hid fun W h => ⟨(h.block _ (Nat.lt_succ_self _)).trans HR3.out, HB3.out.trans (h.mono (Nat.le_succ _)), Nat.le_trans hz3 h.size⟩
  clear b3 hw3 hf0 hz3 hbase
  try rw [HW3.out]
  go_loopg [6, 8, 9] n (fun k v r i wr => ∃ (j s : Nat) (ro : Option Addr) (rc : Nat), i = .int .i64 (j : Nat) ∧ v = .int .i64 (s : Nat) ∧ r = .slice ro (j + 1) rc ∧ j ≤ n ∧ k = n - j ∧ Hid (s = runS xs st (l.take j)) ∧ Hid (wr.ownsRow (w.heap.size + 1) 2 1 (.slice ro (j + 1) rc) (j + 1) (natV (runsP xs st l (j + 1)))) ∧ Hid (Below (w.heap.size + 1) w3 wr))
  case atStart => exact ⟨0, f, _, _, rfl, rfl, rfl, Nat.zero_le _, rfl, H0, HOW0, Lib.hid (Below.refl _ _)⟩
  case round =>
    obtain ⟨j, s, ro, rc, rfl, rfl, rfl, hj, rfl, HS, HO, HBX⟩ := hrel
    have hj6 : j < 1000000 := by omega
    obtain ⟨hrow, hbw, hsz⟩ := HST3.out wr HBX.out
    have HBW := Lib.hid hbw
    have HSZ := Lib.hid hsz
    rcases Nat.lt_or_ge j n with hlt | hge
    · obtain ⟨p0, p1⟩ := pat_cells hrow
      have HROW := Lib.hid hrow
      obtain ⟨c, hc⟩ : ∃ c, l[j]? = some c := ⟨_, List.getElem?_eq_getElem (by rw [HN.out]; exact hlt)⟩
      obtain ⟨g, off, rfl, hcc⟩ := (HL.out.below hbw) (by rw [HN.out]; omega)
      have k0 := hcc j c hc
      have HK0 := Lib.hid k0
      have hs : s < 2 ^ (2 * z + 1) := by rw [HS.out]; exact HRL.out _
      have HC := Lib.hid (fun W hb => HSTP.out s hs c W hb)
      have HS2 : Hid (stepS xs st c s = runS xs st (l.take (j + 1))) := Lib.hid (by rw [HS.out]; exact HST.out j c hc)
      obtain ⟨u, hu⟩ : ∃ u, stepS xs st c s = u := ⟨_, rfl⟩
      rw [hu] at HC HS2
      have K1 : Hid (∀ W, (W.cell? ⟨g, off + j, none⟩ = some (.int .i64 c) ∧ W.cell? ⟨w.heap.size, 0, none⟩ = some (.bool st) ∧ W.cell? ⟨w.heap.size, 1, none⟩ = some (.slice o z cap) ∧ Below wr.heap.size wr W) → Calls Tryd.prog 32 #[patV st o z cap, .int .i64 (s : Nat), .int .i64 c] W fun e w' => e = .returned (.int .i64 (u : Nat)) ∧ (w'.cell? ⟨g, off + j, none⟩ = some (.int .i64 c) ∧ w'.cell? ⟨w.heap.size, 0, none⟩ = some (.bool st) ∧ w'.cell? ⟨w.heap.size, 1, none⟩ = some (.slice o z cap) ∧ Below wr.heap.size wr w')) := Lib.hid fun W hs => (HC.out W (HBW.out.trans (hs.2.2.2.mono HBW.out.size))).mono (by
        rintro e w' ⟨rfl, b⟩
        have bb := hs.2.2.2.trans (b.mono hs.2.2.2.size)
        exact ⟨rfl, cell_keepQ bb HK0.out, (pat_cells (row_below HROW.out bb)).1, (pat_cells (row_below HROW.out bb)).2, bb⟩)
      have HD : Below wr.heap.size wr wr.drew := (Below.refl _ _).drew
      clear hcc hc hs hu hrow hbw hsz
      go_wp2_with fail
      go_region_held3 (fun W => W.cell? ⟨g, off + j, none⟩ = some (.int .i64 c) ∧ W.cell? ⟨w.heap.size, 0, none⟩ = some (.bool st) ∧ W.cell? ⟨w.heap.size, 1, none⟩ = some (.slice o z cap) ∧ Below wr.heap.size wr W) (first | assumption | exact HD | go_keep) (first | (go_at_call 32; refine (K1.out _ (by first | assumption | exact ⟨k0, p0, p1, HD⟩ | exact hg)).mono ?_; rintro e w' ⟨rfl, hg⟩))
      have hb9 := hg.2.2.2
      clear hg
      have hx9 := HBX.out.trans (hb9.mono HSZ.out)
      have hs9 : w.heap.size + 1 ≤ w'.heap.size := Nat.le_trans HSZ.out hb9.size
      obtain ⟨g', cap', w6, hrun, hown', hgrow, _⟩ := app_i64 w' (w.heap.size + 1) (j + 1) (.slice ro (j + 1) rc) _ (.int .i64 ((u : Nat) : Int)) ⟨_, rfl⟩ (own_below HO.out hb9) (by omega) hs9
      have HO2 : Hid (w6.ownsRow (w.heap.size + 1) 2 1 (.slice (some ⟨g', 0, none⟩) (j + 1 + 1) cap') (j + 1 + 1) (natV (runsP xs st l (j + 1 + 1)))) := Lib.hid (by
        rw [HSN.out (j + 1), ← HS2.out]
        have e : natV (runsP xs st l (j + 1) ++ [u]) = natV (runsP xs st l (j + 1)) ++ [.int .i64 ((u : Nat) : Int)] := by simp [natV]
        rw [e]
        exact hown')
      have HB2 : Hid (Below (w.heap.size + 1) w3 w6) := Lib.hid ((hx9.alloc hs9 _).grown hgrow (by rw [World.size_alloc]; omega) (fun k hk => own_rowH HO.out hk))
      have HU2 := Lib.hid HS2.out
      clear hown' hgrow hb9 hx9
      go_wp2_with fail
      go_roundg (n - (j + 1))
      case measure => omega
      case rel => exact ⟨j + 1, u, _, _, by simp, rfl, rfl, by omega, rfl, HU2, HO2, HB2⟩
    · obtain rfl : j = n := by omega
      have HPP : Hid (P (.returned (.tuple #[.slice ro (j + 1) rc, .int .i64 0])) wr) := Lib.hid (by
        rw [← HP.out]
        refine ⟨ro, rc, by rw [HN.out], ?_, hbw⟩
        rw [HN.out]
        refine own_base ?_ (Nat.le_succ _)
        have e : runsS xs st l = runsP xs st l (j + 1) := by rw [← HN.out]; rfl
        rw [e]
        exact HO.out)
      clear hrow hbw hsz
      go_wp2_with fail
      exact HPP.out
set_option maxRecDepth 100000 in
set_option maxHeartbeats 4000000 in
theorem refRun_wrong (st : Bool) (o lo : Option Addr) (xs : List ItemP) (ll cap lcap : Nat) (hxl : xs.length ≤ 100000) (hr : rightB xs 32 = false) (w : World) (hA : AtI w o xs) :
    Calls Tryd.prog 20 #[patV st o xs.length cap, .slice lo ll lcap] w fun e w' => e = .returned (.tuple #[.slice none 0 0, .int .i64 80]) ∧ Below w.heap.size w w' := by
  obtain ⟨w1, hw1⟩ : ∃ w1, w.alloc (patO st o xs.length cap) = w1 := ⟨_, rfl⟩
  have b1 : Below w.heap.size w w1 := by rw [← hw1]; exact (Below.refl _ _).alloc (Nat.le_refl _) _
  have HFI := Lib.hid (refFirst_any st o xs cap hxl w1 (hA.below b1))
  unfold firstA at HFI
  rw [hr, if_neg (by decide)] at HFI
  have hf0 : numA false = 80 := rfl
  rw [hf0] at HFI
  obtain ⟨z, hz⟩ : ∃ z, xs.length = z := ⟨_, rfl⟩
  rw [hz] at hw1 HFI ⊢
  have HW1 := Lib.hid hw1
  have HB1 := Lib.hid b1
  clear hw1 b1 hz hA hr hf0 hxl
  go_enter Tryd.func20, Tryd.ntmps20
  go_wp2_with fail
  rw [HW1.out]
  refine HFI.out.mono ?_
  rintro e w2 ⟨rfl, b2⟩
  have HB2 := Lib.hid (HB1.out.trans (b2.mono HB1.out.size))
  clear b2
  go_wp2_with fail
  exact bodyPost_ret (results_tmp2 (t := 4) (u := 5) rfl _ _ _) rfl ⟨rfl, HB2.out⟩
end Go.Proofs.YtjacebnlikhjnaaDoor

namespace Go.Proofs.YtjacebnlikhjnaaDoor
open Go.RowKit Go.Shelf Go.Maps
attribute [local go_sem] Oper.semAt_some
attribute [local go_sem ↓] app_hide

set_option maxRecDepth 100000 in
set_option maxHeartbeats 4000000 in
theorem refFitsH_right (st : Bool) (o lo : Option Addr) (xs : List ItemP) (l : List Int) (cap lcap : Nat) (hr : rightB xs 32 = true) (hll : l.length ≤ 1000) (w : World) (hA : AtI w o xs) (hL : NumsAt w lo l) :
    Calls Tryd.prog 22 #[patV st o xs.length cap, .slice lo l.length lcap] w fun e w' => ∃ o' cap', e = .returned (.tuple #[.slice o' (l.length + 1) cap', .int .i64 0]) ∧ w'.ownsRow w.heap.size 4 1 (.slice o' (l.length + 1) cap') (l.length + 1) ((runsS xs st l).map fun s => .bool (doneS xs s)) ∧ Below w.heap.size w w' := by
  obtain ⟨P, hP⟩ : ∃ P, (fun (e : Ending) w' => ∃ o' cap', e = .returned (.tuple #[.slice o' (l.length + 1) cap', .int .i64 0]) ∧ w'.ownsRow w.heap.size 4 1 (.slice o' (l.length + 1) cap') (l.length + 1) ((runsS xs st l).map fun s => .bool (doneS xs s)) ∧ Below w.heap.size w w') = P := ⟨_, rfl⟩
  have HP := Lib.hid hP
  rw [hP]
  have hlen := (rightB_parts hr).2.1
  have hw := rightB_how hr
  obtain ⟨w1, hw1⟩ : ∃ w1, w.alloc (patO st o xs.length cap) = w1 := ⟨_, rfl⟩
  have b1 : Below w.heap.size w w1 := by rw [← hw1]; exact (Below.refl _ _).alloc (Nat.le_refl _) _
  have r1 : w1.heap[w.heap.size]? = some (patO st o xs.length cap) := by rw [← hw1]; exact heap_alloc_new _ _
  have HRUN := Lib.hid (refRun_right st o lo xs l cap lcap hr hll w1 (hA.below b1) (hL.below b1))
  have HDONE : Hid (∀ (j s : Nat), j ≤ l.length → (runsS xs st l)[j]? = some s → ∀ W, Below w.heap.size w W → Calls Tryd.prog 15 #[patV st o xs.length cap, .int .i64 (s : Nat)] W fun e w' => e = .returned (.bool (doneS xs s)) ∧ Below W.heap.size W w') := Lib.hid fun j s hj hs W hb => by
    have hsl : s < 2 ^ (2 * xs.length + 1) := by
      unfold runsS at hs
      rw [List.getElem?_map, List.getElem?_range (by omega)] at hs
      rw [← Option.some.inj hs]
      exact run_lt hw _
    have := refDone_any st o xs cap ((s : Nat) : Int) (by omega) W (hA.below hb)
    rwa [knowA_of hr hsl, Bool.true_and, Int.toNat_natCast] at this
  have HLEN : Hid ((runsS xs st l).length = l.length + 1) := Lib.hid (by unfold runsS; simp)
  obtain ⟨rs, hrs⟩ : ∃ rs, runsS xs st l = rs := ⟨_, rfl⟩
  obtain ⟨z, hz⟩ : ∃ z, xs.length = z := ⟨_, rfl⟩
  obtain ⟨n, hn⟩ : ∃ n, l.length = n := ⟨_, rfl⟩
  rw [hrs] at HRUN HDONE HLEN HP
  rw [hz] at hw1 r1 HRUN HDONE ⊢
  rw [hn] at HRUN HDONE HLEN HP hll ⊢
  have hbase : w.heap.size + 1 ≤ w1.heap.size := (Array.getElem?_eq_some_iff.1 r1).1
  have HBS := Lib.hid hbase
  have HW1 := Lib.hid hw1
  have HB1 := Lib.hid b1
  have HR1 := Lib.hid r1
  clear hw1 b1 r1 hz hn hA hL hr hw hP hrs hbase hlen
  go_enter Tryd.func22, Tryd.ntmps22
  go_wp2_with fail
  rw [HW1.out]
  refine HRUN.out.mono ?_
  rintro e w2 ⟨o2, c2, rfl, hown, b2⟩
  have HB2 := Lib.hid (HB1.out.trans (b2.mono HB1.out.size))
  have HR2 := Lib.hid (row_below HR1.out b2)
  have HROW : Hid (NumsAt w2 o2 (natsZ rs)) := Lib.hid (nums_ownH (by rw [HLEN.out]; exact hown))
  have hz2 : w.heap.size + 1 ≤ w2.heap.size := Nat.le_trans HBS.out b2.size
  have HZ2 := Lib.hid hz2
  have HKEEP : Hid (∀ W, Below w2.heap.size w2 W → W.heap[w.heap.size]? = some (patO st o z cap) ∧ Below w.heap.size w W ∧ NumsAt W o2 (natsZ rs) ∧ w2.heap.size ≤ W.heap.size) := Lib.hid fun W h => ⟨row_below HR2.out h, HB2.out.trans (h.mono HB2.out.size), HROW.out.below h, h.size⟩
  clear b2 hown hz2
  go_wp2_with fail
  go_loopg [8, 9] (n + 1) (fun k r i wr => ∃ (j : Nat) (ro : Option Addr) (rc : Nat), i = .int .i64 (j : Nat) ∧ r = .slice ro j rc ∧ j ≤ n + 1 ∧ k = n + 1 - j ∧ Hid (wr.ownsRow w2.heap.size 4 1 (.slice ro j rc) j ((rs.take j).map fun s => .bool (doneS xs s))) ∧ Hid (Below w2.heap.size w2 wr))
  case atStart => exact ⟨0, none, 0, rfl, rfl, Nat.zero_le _, rfl, Lib.hid (World.ownsRow_nil _ _ _ _), Lib.hid (Below.refl _ _)⟩
  case round =>
    obtain ⟨j, ro, rc, rfl, rfl, hj, rfl, HO, HBX⟩ := hrel
    have hj6 : j < 1000000 := by omega
    obtain ⟨hrow, hbw, hnum, hsz⟩ := HKEEP.out wr HBX.out
    have HBW := Lib.hid hbw
    have HSZ := Lib.hid hsz
    rcases Nat.lt_or_ge j (n + 1) with hlt | hge
    · obtain ⟨p0, p1⟩ := pat_cells hrow
      obtain ⟨s, hs⟩ : ∃ s, rs[j]? = some s := ⟨_, List.getElem?_eq_getElem (by rw [HLEN.out]; exact hlt)⟩
      obtain ⟨g, off, rfl, hcc⟩ := hnum (by rw [List.length_map, HLEN.out]; omega)
      have k0 := hcc j ((s : Nat) : Int) (by rw [List.getElem?_map, hs]; rfl)
      have hd0 := HDONE.out j s (by omega) hs wr.drew hbw.drew
      have htk : (rs.take (j + 1)).map (fun s => Value.bool (doneS xs s)) = (rs.take j).map (fun s => Value.bool (doneS xs s)) ++ [.bool (doneS xs s)] := by
        rw [List.take_add_one, hs]; simp
      obtain ⟨d, hd⟩ : ∃ d, doneS xs s = d := ⟨_, rfl⟩
      rw [hd] at hd0 htk
      have HC : Hid (Calls Tryd.prog 15 #[patV st o z cap, .int .i64 (s : Nat)] wr.drew fun e w' => ∃ g' cap' w6, e = .returned (.bool d) ∧ (appSem #[39, 39] 39 #[.slice ro j rc, .slice (some ⟨w'.heap.size, 0, none⟩) 1 1]).run Tryd.prog (w'.alloc (.cells #[.bool d] 4)) = .ok (.slice (some ⟨g', 0, none⟩) (j + 1) cap') w6 ∧ Hid (w6.ownsRow w2.heap.size 4 1 (.slice (some ⟨g', 0, none⟩) (j + 1) cap') (j + 1) ((rs.take (j + 1)).map fun s => .bool (doneS xs s))) ∧ Hid (Below w2.heap.size w2 w6)) := Lib.hid (hd0.mono (by
        rintro e w' ⟨rfl, b9⟩
        have b9' : Below wr.heap.size wr w' := (Below.refl wr.heap.size wr).drew.trans b9
        have hx9 := HBX.out.trans (b9'.mono HSZ.out)
        have hs9 : w2.heap.size ≤ w'.heap.size := Nat.le_trans HSZ.out b9'.size
        obtain ⟨g', cap', w6, hrun, hown', hgrow, _⟩ := app_bol w' w2.heap.size j (.slice ro j rc) _ (.bool d) ⟨_, rfl⟩ (own_below HO.out b9') (by omega) hs9
        exact ⟨g', cap', w6, rfl, hrun, Lib.hid (by rw [htk]; exact hown'), Lib.hid ((hx9.alloc hs9 _).grown hgrow (by rw [World.size_alloc]; omega) (fun k hk => own_rowH HO.out hk))⟩))
      clear hcc hs hrow hbw hnum hsz hd0 htk hd
      go_wp2_with fail
      go_region_with (go_at_call 15; refine HC.out.mono ?_; rintro e w9 ⟨g', cap', w6, rfl, hrun, HO2, HB2x⟩)
      all_goals
        try go_simp
        go_wp2_with fail
        go_roundg (n + 1 - (j + 1))
        case measure => omega
        case rel => exact ⟨j + 1, _, _, by simp, rfl, by omega, rfl, HO2, HB2x⟩
    · obtain rfl : j = n + 1 := by omega
      have HPP : Hid (P (.returned (.tuple #[.slice ro (n + 1) rc, .int .i64 0])) wr) := Lib.hid (by
        rw [← HP.out]
        refine ⟨ro, rc, rfl, own_base ?_ (show w.heap.size ≤ w2.heap.size by have := HZ2.out; omega), hbw⟩
        have h := HO.out
        rwa [List.take_of_length_le (by rw [HLEN.out]; exact Nat.le_refl _)] at h)
      clear hrow hbw hnum hsz
      go_wp2_with fail
      exact HPP.out
set_option maxRecDepth 100000 in
set_option maxHeartbeats 4000000 in
theorem refFitsH_wrong (st : Bool) (o lo : Option Addr) (xs : List ItemP) (ll cap lcap : Nat) (hxl : xs.length ≤ 100000) (hr : rightB xs 32 = false) (w : World) (hA : AtI w o xs) :
    Calls Tryd.prog 22 #[patV st o xs.length cap, .slice lo ll lcap] w fun e w' => e = .returned (.tuple #[.slice none 0 0, .int .i64 80]) ∧ Below w.heap.size w w' := by
  obtain ⟨w1, hw1⟩ : ∃ w1, w.alloc (patO st o xs.length cap) = w1 := ⟨_, rfl⟩
  have b1 : Below w.heap.size w w1 := by rw [← hw1]; exact (Below.refl _ _).alloc (Nat.le_refl _) _
  have HRUN := Lib.hid (refRun_wrong st o lo xs ll cap lcap hxl hr w1 (hA.below b1))
  obtain ⟨z, hz⟩ : ∃ z, xs.length = z := ⟨_, rfl⟩
  rw [hz] at hw1 HRUN ⊢
  have HW1 := Lib.hid hw1
  have HB1 := Lib.hid b1
  clear hw1 b1 hz hA hr hxl
  go_enter Tryd.func22, Tryd.ntmps22
  go_wp2_with fail
  rw [HW1.out]
  refine HRUN.out.mono ?_
  rintro e w2 ⟨rfl, b2⟩
  have HB2 := Lib.hid (HB1.out.trans (b2.mono HB1.out.size))
  clear b2
  go_wp2_with fail
  go_loopg [8, 9] 0 (fun k r i wr => i = .int .i64 0 ∧ r = .slice none 0 0 ∧ k = 0 ∧ wr = w2)
  case atStart => exact ⟨rfl, rfl, rfl, rfl⟩
  case round =>
    obtain ⟨rfl, rfl, rfl, rfl⟩ := hrel
    go_wp2_with fail
    exact bodyPost_ret (results_tmp2 (t := 4) (u := 5) rfl _ _ _) rfl ⟨rfl, HB2.out⟩
end Go.Proofs.YtjacebnlikhjnaaDoor

namespace Go.Proofs.YtjacebnlikhjnaaDoor
open Go.RowKit Go.Shelf Go.Maps
attribute [local go_sem] Oper.semAt_some

def fitsS (xs : List ItemP) (st : Bool) (l : List Int) : List Bool := (runsS xs st l).map (doneS xs)
theorem fitsS_len (xs : List ItemP) (st : Bool) (l : List Int) : (fitsS xs st l).length = l.length + 1 := by unfold fitsS runsS; simp
theorem fitsS_own {w : World} {base cap : Nat} {o : Option Addr} {e : TypeId} {xs : List ItemP} {st : Bool} {l : List Int} (h : w.ownsRow base e 1 (.slice o (l.length + 1) cap) (l.length + 1) ((runsS xs st l).map fun s => .bool (doneS xs s))) : BolsAt w o (fitsS xs st l) := by
  have e1 : (runsS xs st l).map (fun s => Value.bool (doneS xs s)) = (fitsS xs st l).map fun b => Value.bool b := by unfold fitsS; rw [List.map_map]; rfl
  rw [e1, ← fitsS_len xs st l] at h
  exact bols_ownH h
theorem fitsS_within {xs : List ItemP} (hw : howP xs) (l : List Int) {j : Nat} {b c : Bool} (hb : (fitsS xs true l)[j]? = some b) (hc : (fitsS xs false l)[j]? = some c) (h : b = true) : c = true := by
  unfold fitsS runsS at hb hc
  rw [List.map_map, List.getElem?_map] at hb hc
  obtain ⟨i, hi, rfl⟩ := Option.map_eq_some_iff.1 hb
  obtain ⟨k, hk, rfl⟩ := Option.map_eq_some_iff.1 hc
  obtain rfl : i = k := Option.some.inj (hi.symm.trans hk)
  exact run_within hw true (l.take i) _ h
end Go.Proofs.YtjacebnlikhjnaaDoor
