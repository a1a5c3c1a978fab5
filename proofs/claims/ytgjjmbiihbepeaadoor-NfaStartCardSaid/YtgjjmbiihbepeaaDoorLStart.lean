/- NfaStart: a pattern that stands at the start has fitted at most where the same one that may begin anywhere has. -/
import Derived.Test.YtgjjmbiihbepeaaDoorBunA16
namespace Go.Proofs.YtgjjmbiihbepeaaDoor
open Go.RowKit Go.Shelf Go.Maps
attribute [local go_sem] Oper.semAt_some

def fitsS (xs : List ItemP) (st : Bool) (l : List Int) : List Bool := (runsS xs st l).map (doneS xs)
theorem fitsS_len (xs : List ItemP) (st : Bool) (l : List Int) : (fitsS xs st l).length = l.length + 1 := by unfold fitsS runsS; simp
theorem fitsS_own {w : World} {base cap : Nat} {o : Option Addr} {e : TypeId} {xs : List ItemP} {st : Bool} {l : List Int} (h : w.ownsRow base e 1 (.slice o (l.length + 1) cap) (l.length + 1) ((runsS xs st l).map fun s => .bool (doneS xs s))) : BolsAt w o (fitsS xs st l) := by
  have e1 : (runsS xs st l).map (fun s => Value.bool (doneS xs s)) = (fitsS xs st l).map fun b => Value.bool b := by unfold fitsS; rw [List.map_map]; rfl
  rw [e1, ← fitsS_len xs st l] at h
  exact bols_ownH h
theorem fitsS_within {xs : List ItemP} (hw : howP xs) (l : List Int) {j : Nat} {b c : Bool} (hb : (fitsS xs true l)[j]? = some b) (hc : (fitsS xs false l)[j]? = some c) (h : b = true) : c = true := by
  unfold fitsS runsS at hb hc
  rw [List.map_map, List.getElem?_map] at hb hc
  obtain ⟨i, hi, rfl⟩ := Option.map_eq_some_iff.1 hb
  obtain ⟨k, hk, rfl⟩ := Option.map_eq_some_iff.1 hc
  obtain rfl : i = k := Option.some.inj (hi.symm.trans hk)
  exact run_within hw true (l.take i) _ h
set_option maxRecDepth 100000 in
set_option maxHeartbeats 4000000 in
theorem start_right (st : Bool) (o lo : Option Addr) (xs0 : List ItemP) (l0 : List Int) (cap lcap : Nat) (hcap : xs0.length ≤ cap) (hlc : l0.length ≤ lcap) (hr : rightB (xs0.take 12) 32 = true) (w : World) (aP aS : Addr) (hQ : GlobH w aP aS) (hA : AtI w o (xs0.take 12)) (hL : NumsAt w lo (l0.take 40)) :
    Calls Tryd.prog 9 #[patV st o xs0.length cap, .slice lo l0.length lcap] w fun e w' => e = .returned (.bool true) ∧ Below w.heap.size w w' := by
  have hll : (l0.take 40).length ≤ 1000 := by rw [List.length_take]; omega
  have HF := Lib.hid (fun s W (hb : Below w.heap.size w W) => Fits_right s o lo (xs0.take 12) (l0.take 40) cap lcap hr hll W aP aS (hQ.below hb) (hA.below hb) (hL.below hb))
  obtain ⟨n0, hn0⟩ : ∃ n, xs0.length = n := ⟨_, rfl⟩
  have HCUT := Lib.hid (fun W => cutH_any st o xs0 cap hcap W)
  have HFEW := Lib.hid (fun W => fewH_any lo l0 lcap hlc W)
  have HWI : Hid (∀ (j : Nat) (b c : Bool), (fitsS (xs0.take 12) true (l0.take 40))[j]? = some b → (fitsS (xs0.take 12) false (l0.take 40))[j]? = some c → b = true → c = true) := Lib.hid fun j b c => fitsS_within (rightB_how hr) (l0.take 40)
  have HLEN := Lib.hid (fun s => fitsS_len (xs0.take 12) s (l0.take 40))
  obtain ⟨n, hn⟩ : ∃ n, (xs0.take 12).length = n := ⟨_, rfl⟩
  obtain ⟨k0, hk0⟩ : ∃ n, l0.length = n := ⟨_, rfl⟩
  obtain ⟨k, hk⟩ : ∃ n, (l0.take 40).length = n := ⟨_, rfl⟩
  have HK := Lib.hid hk
  rw [hn] at HF HCUT
  rw [hk] at HFEW HLEN hll
  rw [hn0] at HCUT ⊢
  rw [hk0] at HFEW ⊢
  obtain ⟨w1, hw1⟩ : ∃ w1, w.alloc (patO st o n0 cap) = w1 := ⟨_, rfl⟩
  have b1 : Below w.heap.size w w1 := by rw [← hw1]; exact (Below.refl _ _).alloc (Nat.le_refl _) _
  have r1 : w1.heap[w.heap.size]? = some (patO st o n0 cap) := by rw [← hw1]; exact heap_alloc_new _ _
  have HSH := Lib.hid (shown_any w1 aP aS (hQ.below b1))
  have HW1 := Lib.hid hw1
  have HB1 := Lib.hid b1
  have HR1 := Lib.hid r1
  clear hw1 b1 r1 hcap hQ hA hL hn hn0 hk hk0 hlc hr
  go_enter Tryd.func9, Tryd.ntmps9
  go_wp2_with fail
  rw [HW1.out]
  refine HSH.out.mono ?_
  rintro e W2 ⟨rfl, b2⟩
  obtain ⟨p0, p1⟩ := pat_cellsH (row_below HR1.out b2)
  have HR2 := Lib.hid (row_below HR1.out b2)
  have HB2 := Lib.hid (HB1.out.trans (b2.mono HB1.out.size))
  clear b2
  go_wp2_with fail
  refine (HCUT.out _).mono ?_
  rintro e W3 ⟨rfl, b3⟩
  have hr3 := row_below HR2.out b3
  obtain ⟨q0, q1⟩ := pat_cellsH hr3
  have f0 := frozen_of_row W3 w.heap.size 0 _ _ hr3
  have f1 := frozen_of_row W3 w.heap.size 1 _ _ hr3
  obtain ⟨r4, m4⟩ := two_setH (.bool st) (.slice o n cap) hr3
  obtain ⟨w4, hw4⟩ : ∃ w4, (W3.setCell ⟨w.heap.size, 0, none⟩ (.bool st)).setCell ⟨w.heap.size, 1, none⟩ (.slice o n cap) = w4 := ⟨_, rfl⟩
  rw [hw4] at r4 m4
  have HB4 := Lib.hid (Moves.below (HB2.out.trans (b3.mono HB2.out.size)) (by have := HB2.out.size; have := b3.size; omega) m4 (fun k hk => by omega))
  have HR4 := Lib.hid r4
  have HW4 := Lib.hid hw4
  clear p0 p1 b3 m4 hw4 hr3
  go_wp2_with fail
  rw [HW4.out]
  refine (HFEW.out _).mono ?_
  rintro e _ ⟨rfl, rfl⟩
  obtain ⟨s0, s1⟩ := pat_cellsH r4
  have HC4 := Lib.hid (HF.out true w4 HB4.out)
  rw [HK.out] at HC4
  clear r4 q0 q1 f0 f1
  go_wp2_with fail
  refine HC4.out.mono ?_
  rintro e W5 ⟨o5, c5, rfl, own5, b5⟩
  obtain ⟨t0, t1⟩ := pat_cellsH (row_below HR4.out b5)
  have HB5 := Lib.hid (HB4.out.trans (b5.mono HB4.out.size))
  have HC5 := Lib.hid (HF.out false W5 HB5.out)
  have HG5 : Hid (BolsAt W5 o5 (fitsS (xs0.take 12) true (l0.take 40))) := Lib.hid (fitsS_own (by rw [HK.out]; exact own5))
  rw [HK.out] at HC5
  clear b5 own5 s0 s1
  go_wp2_with fail
  refine HC5.out.mono ?_
  rintro e W6 ⟨o6, c6, rfl, own6, b6⟩
  have HB6 := Lib.hid (HB5.out.trans (b6.mono HB5.out.size))
  have HG6 := Lib.hid (HG5.out.below b6)
  have HG7 : Hid (BolsAt W6 o6 (fitsS (xs0.take 12) false (l0.take 40))) := Lib.hid (fitsS_own (by rw [HK.out]; exact own6))
  clear b6 own6 t0 t1
  go_wp2_with fail
  go_loopg [10] (k + 1) (fun kk v wr => ∃ j : Nat, v = .int .i64 (j : Nat) ∧ j ≤ k + 1 ∧ kk = k + 1 - j ∧ wr = W6)
  case atStart => exact ⟨0, rfl, Nat.zero_le _, rfl, rfl⟩
  case round =>
    obtain ⟨j, rfl, hj, rfl, rfl⟩ := hrel
    rcases Nat.lt_or_ge j (k + 1) with hlt | hge
    · have hj1 : j < 1000000 := by omega
      obtain ⟨x, hx⟩ : ∃ x, (fitsS (xs0.take 12) true (l0.take 40))[j]? = some x := ⟨_, List.getElem?_eq_getElem (by rw [HLEN.out]; exact hlt)⟩
      obtain ⟨y, hy⟩ : ∃ y, (fitsS (xs0.take 12) false (l0.take 40))[j]? = some y := ⟨_, List.getElem?_eq_getElem (by rw [HLEN.out]; exact hlt)⟩
      have hxy := HWI.out j x y hx hy
      obtain ⟨g, off, rfl, hc⟩ := HG6.out (by rw [HLEN.out]; omega)
      have k0 := hc j x hx
      obtain ⟨g2, off2, rfl, hc2⟩ := HG7.out (by rw [HLEN.out]; omega)
      have m0 := hc2 j y hy
      clear hc hc2 hx hy
      cases x with
      | true =>
        obtain rfl := hxy rfl
        clear hxy
        go_wp2_with fail
        go_roundg (k + 1 - (j + 1))
        case measure => omega
        case rel => exact ⟨j + 1, by simp, by omega, rfl, rfl⟩
      | false =>
        clear hxy
        go_wp2_with fail
        go_roundg (k + 1 - (j + 1))
        case measure => omega
        case rel => exact ⟨j + 1, by simp, by omega, rfl, rfl⟩
    · obtain rfl : j = k + 1 := by omega
      go_wp2
      go_ret
      exact ⟨rfl, HB6.out⟩
set_option maxRecDepth 100000 in
set_option maxHeartbeats 4000000 in
theorem start_wrong (st : Bool) (o lo : Option Addr) (xs0 : List ItemP) (l0 : List Int) (cap lcap : Nat) (hcap : xs0.length ≤ cap) (hlc : l0.length ≤ lcap) (hr : rightB (xs0.take 12) 32 = false) (w : World) (aP aS : Addr) (hQ : GlobH w aP aS) (hA : AtI w o (xs0.take 12)) :
    Calls Tryd.prog 9 #[patV st o xs0.length cap, .slice lo l0.length lcap] w fun e w' => e = .returned (.bool true) ∧ Below w.heap.size w w' := by
  have h12 : (xs0.take 12).length ≤ 1000000 := by rw [List.length_take]; omega
  have HF := Lib.hid (fun s W (hb : Below w.heap.size w W) => Fits_wrong s o lo (xs0.take 12) (l0.take 40) cap lcap h12 hr W aP aS (hQ.below hb) (hA.below hb))
  obtain ⟨n0, hn0⟩ : ∃ n, xs0.length = n := ⟨_, rfl⟩
  have HCUT := Lib.hid (fun W => cutH_any st o xs0 cap hcap W)
  have HFEW := Lib.hid (fun W => fewH_any lo l0 lcap hlc W)
  obtain ⟨n, hn⟩ : ∃ n, (xs0.take 12).length = n := ⟨_, rfl⟩
  obtain ⟨k0, hk0⟩ : ∃ n, l0.length = n := ⟨_, rfl⟩
  obtain ⟨k, hk⟩ : ∃ n, (l0.take 40).length = n := ⟨_, rfl⟩
  have HK := Lib.hid hk
  rw [hn] at HF HCUT
  rw [hk] at HFEW
  rw [hn0] at HCUT ⊢
  rw [hk0] at HFEW ⊢
  obtain ⟨w1, hw1⟩ : ∃ w1, w.alloc (patO st o n0 cap) = w1 := ⟨_, rfl⟩
  have b1 : Below w.heap.size w w1 := by rw [← hw1]; exact (Below.refl _ _).alloc (Nat.le_refl _) _
  have r1 : w1.heap[w.heap.size]? = some (patO st o n0 cap) := by rw [← hw1]; exact heap_alloc_new _ _
  have HSH := Lib.hid (shown_any w1 aP aS (hQ.below b1))
  have HW1 := Lib.hid hw1
  have HB1 := Lib.hid b1
  have HR1 := Lib.hid r1
  clear h12 hw1 b1 r1 hcap hQ hA hn hn0 hk hk0 hlc hr
  go_enter Tryd.func9, Tryd.ntmps9
  go_wp2_with fail
  rw [HW1.out]
  refine HSH.out.mono ?_
  rintro e W2 ⟨rfl, b2⟩
  obtain ⟨p0, p1⟩ := pat_cellsH (row_below HR1.out b2)
  have HR2 := Lib.hid (row_below HR1.out b2)
  have HB2 := Lib.hid (HB1.out.trans (b2.mono HB1.out.size))
  clear b2
  go_wp2_with fail
  refine (HCUT.out _).mono ?_
  rintro e W3 ⟨rfl, b3⟩
  have hr3 := row_below HR2.out b3
  obtain ⟨q0, q1⟩ := pat_cellsH hr3
  have f0 := frozen_of_row W3 w.heap.size 0 _ _ hr3
  have f1 := frozen_of_row W3 w.heap.size 1 _ _ hr3
  obtain ⟨r4, m4⟩ := two_setH (.bool st) (.slice o n cap) hr3
  obtain ⟨w4, hw4⟩ : ∃ w4, (W3.setCell ⟨w.heap.size, 0, none⟩ (.bool st)).setCell ⟨w.heap.size, 1, none⟩ (.slice o n cap) = w4 := ⟨_, rfl⟩
  rw [hw4] at r4 m4
  have HB4 := Lib.hid (Moves.below (HB2.out.trans (b3.mono HB2.out.size)) (by have := HB2.out.size; have := b3.size; omega) m4 (fun k hk => by omega))
  have HR4 := Lib.hid r4
  have HW4 := Lib.hid hw4
  clear p0 p1 b3 m4 hw4 hr3
  go_wp2_with fail
  rw [HW4.out]
  refine (HFEW.out _).mono ?_
  rintro e _ ⟨rfl, rfl⟩
  obtain ⟨s0, s1⟩ := pat_cellsH r4
  have HC4 := Lib.hid (HF.out true w4 HB4.out)
  rw [HK.out] at HC4
  clear r4 q0 q1 f0 f1
  go_wp2_with fail
  refine HC4.out.mono ?_
  rintro e W5 ⟨rfl, b5⟩
  obtain ⟨t0, t1⟩ := pat_cellsH (row_below HR4.out b5)
  have HB5 := Lib.hid (HB4.out.trans (b5.mono HB4.out.size))
  have HC5 := Lib.hid (HF.out false W5 HB5.out)
  rw [HK.out] at HC5
  clear b5 s0 s1
  go_wp2_with fail
  refine HC5.out.mono ?_
  rintro e W6 ⟨rfl, b6⟩
  have HB6 := Lib.hid (HB5.out.trans (b6.mono HB5.out.size))
  clear b6 t0 t1
  go_wp2_with fail
  go_loopg [10] 0 (fun kk v wr => v = .int .i64 0 ∧ kk = 0 ∧ wr = W6)
  case atStart => exact ⟨rfl, rfl, rfl⟩
  case round =>
    obtain ⟨rfl, rfl, rfl⟩ := hrel
    go_wp2
    go_ret
    exact ⟨rfl, HB6.out⟩
theorem nfaStart_anyL (st : Bool) (xs : List ItemP) (o : Option Addr) (cap : Nat) (l : List Int) (lo : Option Addr) (lcap : Nat) (L : xs.length ≤ cap) (hlc : l.length ≤ lcap) (w : World) (aP aS : Addr) (hQ : GlobH w aP aS) (A : ItsInQ w o xs) (hL : NumsInQ w lo l ∧ (lo = none → lcap = 0) ∧ ∀ p, lo = some p → 0 < lcap → p.spot = none) :
    Calls Tryd.prog 9 #[patV st o xs.length cap, .slice lo l.length lcap] w fun e w' => e = .returned (.bool true) ∧ Below w.heap.size w w' := by
  have hN : NumsAt w lo (l.take 40) := fun hn => by
    obtain ⟨g, off, ho, hc⟩ := hL.1.1 (by rw [List.length_take] at hn; omega)
    refine ⟨g, off, ho, fun j x hx => hc j x ?_⟩
    rw [List.getElem?_take] at hx
    split at hx
    · exact hx
    · cases hx
  cases hr : rightB (xs.take 12) 32 with
  | true => exact start_right st o lo xs l cap lcap L hlc hr w aP aS hQ (A.1.take 12) hN
  | false => exact start_wrong st o lo xs l cap lcap L hlc hr w aP aS hQ (A.1.take 12)
end Go.Proofs.YtgjjmbiihbepeaaDoor
