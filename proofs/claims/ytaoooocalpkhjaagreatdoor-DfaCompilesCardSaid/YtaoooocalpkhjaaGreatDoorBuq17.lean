/- Shaken by bunq.py. -/
import Derived.Test.YtaoooocalpkhjaaGreatDoorBuq16
import Derived.Test.YtaoooocalpkhjaaGreatDoorBuq13
import Derived.Test.YtaoooocalpkhjaaGreatDoorBuq11
import Derived.Test.YtaoooocalpkhjaaGreatDoorBuq10
import Derived.Test.YtaoooocalpkhjaaGreatDoorBuq15
import Derived.Test.YtaoooocalpkhjaaGreatDoorBuq5
import Derived.Test.YtaoooocalpkhjaaGreatDoorCards
import Derived.Test.YtaoooocalpkhjaaGreatDoorTie
import Derived.Test.YtaoooocalpkhjaaGreatDoorChecked
import Derived.ProofKit
import Derived.OpenShut
import Derived.Below
import Derived.ChangeSame
import Derived.ChangeMaps5
import Derived.Carry
import Derived.Deep.DeepHandedRow
import Derived.Deep.DeepWitnessRowRef
import Derived.LaidSub
import Derived.LaidHandle
import Derived.Lay
import Derived.MakeChecks
import Derived.Shelf.Vars
import Derived.LaidMore
import Derived.Stop.LaidTwo
namespace Go.Proofs.YtaoooocalpkhjaaGreatDoor
open Go.RowKit Go.Shelf Go.Maps
attribute [local go_sem] Oper.semAt_some
attribute [local go_sem ↓] app_hide

def RefCQ (R : List PatP) (N : Nat) (w : World) (e : Ending) (w' : World) : Prop :=
  ((300 < (finD R N).1.length ∧ e = .returned (.tuple #[.agg #[.slice none 0 0, .slice none 0 0], .int .i64 100])) ∨
   ((finD R N).1.length ≤ 300 ∧ ∃ m : MachX, e = .returned (.tuple #[m.v, .int .i64 0]) ∧ m.rows.map (·.2.1) = finR R N ∧ m.fits = finF R N ∧ MachD w' m)) ∧ Below w.heap.size w w'
theorem first_knowF {l : List RulX} {w : World} {o : Option Addr} (hR : RulesD w o l) {x : RulX} (hx : x ∈ l) : firstA x.1.2.2.1 = ((firstS x.1.2.2.1 : Nat) : Int) := by
  unfold firstA
  rw [if_pos (hR.right x hx)]
theorem first_snoc {l : List RulX} {j : Nat} {x : RulX} (hx : l[j]? = some x) : intsV ((firstD (l.map leftX)).take (j + 1)) = intsV ((firstD (l.map leftX)).take j) ++ [.int .i64 ((firstS x.1.2.2.1 : Nat) : Int)] := by
  have h : (firstD (l.map leftX))[j]? = some (firstS x.1.2.2.1) := by
    unfold firstD
    rw [List.getElem?_map, List.getElem?_map, hx]
    rfl
  rw [List.take_add_one, h, Option.toList_some, intsV_snoc]
theorem cmp_start {w1 W : World} {R : List PatP} {n : Nat} {xo : Option Addr} {xc : Nat} (hb : Below w1.heap.size w1 W) (ho : W.ownsRow w1.heap.size 2 1 (.slice xo (firstD R).length xc) (firstD R).length (intsV (firstD R))) {W2 : World}
    (hW2 : (W.alloc (.cells #[.slice xo (firstD R).length xc] 26)).alloc (.cells #[.slice none 0 0, .slice none 0 0] 28) = W2) :
    CmpI w1 (W.heap.size + 1) ⟨[(xo, natsZ (firstD R), xc)], some ⟨W.heap.size, 0, none⟩, 1, [], none, 0, [], none, 0, [], none, 0⟩ W2 ∧ CmpF R n 0 ⟨[(xo, natsZ (firstD R), xc)], some ⟨W.heap.size, 0, none⟩, 1, [], none, 0, [], none, 0, [], none, 0⟩ := by
  have hz := hb.size
  obtain ⟨W1, hW1⟩ : ∃ W1, W.alloc (.cells #[.slice xo (firstD R).length xc] 26) = W1 := ⟨_, rfl⟩
  rw [hW1] at hW2
  have b1 : Below W.heap.size W W1 := by rw [← hW1]; exact (Below.refl _ _).alloc (Nat.le_refl _) _
  have b2 : Below W1.heap.size W1 W2 := by rw [← hW2]; exact (Below.refl _ _).alloc (Nat.le_refl _) _
  have z1 : W1.heap.size = W.heap.size + 1 := by rw [← hW1]; simp
  have z2 : W2.heap.size = W.heap.size + 2 := by rw [← hW2]; simp; omega
  have b12 : Below W.heap.size W W2 := b1.trans (b2.mono b1.size)
  have o1 : W1.ownsRow w1.heap.size 26 1 (.slice (some ⟨W.heap.size, 0, none⟩) 1 1) 1 [.slice xo (firstD R).length xc] := by
    rw [← hW1]
    exact ⟨rfl, .inr ⟨W.heap.size, 1, _, rfl, hz, heap_alloc_new _ _, Nat.le_refl _, by unfold maxLen; omega, rfl, rfl⟩⟩
  have r2 : W2.heap[W.heap.size + 1]? = some (mchO none 0 0 none 0 0) := by rw [← hW2, ← z1]; exact heap_alloc_new _ _
  have hl : (natsZ (firstD R)).length = (firstD R).length := List.length_map _
  refine ⟨⟨r2, ?_, World.ownsRow_nil _ _ _ _, World.ownsRow_nil _ _ _ _, World.ownsRow_nil _ _ _ _, fun x hx => ?_, fun x hx => (by cases hx), hb.trans (b12.mono hz), by omega⟩, ⟨by rw [Nat.zero_mul]; rfl, by show 1 ≤ 300; omega, by show 0 ≤ 1; omega, rfl, rfl, rfl, rfl, rfl⟩⟩
  · show W2.ownsRow _ _ _ (.slice (some ⟨W.heap.size, 0, none⟩) 1 1) 1 [slX (xo, natsZ (firstD R), xc)]
    have : slX (xo, natsZ (firstD R), xc) = .slice xo (firstD R).length xc := by unfold slX; rw [hl]
    rw [this]
    exact own_below o1 b2
  · rw [List.mem_singleton.1 hx]
    refine ⟨(nums_ownN (own_below ho b12)), fun h0 k hk => ?_⟩
    have hk2 := (inQ_own (n := (firstD R).length) (c := xc)).1 hk
    have h1 := (ho.lt k hk2).2
    refine ⟨by omega, fun e => ?_, fun e => by simp [Value.ownBlock] at e, fun e => by simp [Value.ownBlock] at e, fun e => by simp [Value.ownBlock] at e, by omega⟩
    have : W.heap.size = k := by simpa [Value.ownBlock] using e
    omega
theorem cmp_end {w1 W W3 : World} {B g : Nat} {b : CmpS} (h : CmpI w1 B b W) (hrow : W.heap[g]? = some (.cells #[.slice none 0 0, .slice none 0 0] 28 (0, 0))) (hg : g < w1.heap.size) (hm : Moves (fun k => k = g) W W3) : MachD W3 b.m := by
  refine ⟨rows_ownD (own_movesH h.rows hm fun k hk e => by have := own_rowD' h.rows hk; omega), fun x hx => ?_, nums_ownN (own_movesH h.fits hm fun k hk e => by have := own_rowD' h.fits hk; omega)⟩
  refine (h.row x hx).1.moves hm fun h0 k hk e => ?_
  obtain ⟨g', off, ho, hc⟩ := (h.row x hx).1 h0
  obtain ⟨a, ha, rfl⟩ := hk
  rw [ho] at ha
  obtain rfl := Option.some.inj ha
  have e : g' = g := e
  subst e
  have h1 := hc 0 _ (List.getElem?_eq_getElem h0)
  rw [cell_of_row _ _ _ _ _ _ hrow] at h1
  match off, h1 with
  | 0, h1 => simp at h1
  | 1, h1 => simp at h1
  | n + 2, h1 => simp at h1
set_option maxRecDepth 100000 in
set_option maxHeartbeats 16000000 in
theorem refCompile_ok (o : Option Addr) (l : List RulX) (cap N : Nat) (hfw : FewC l) (w : World) (hA : AtC w o l) (hI : ItsC w l) (hr : rightsU (l.map plX) ((N : Nat) : Int) = true) :
    Calls Tryz.prog 12 #[.slice o l.length cap, .int .i64 (N : Nat)] w (RefCQ (l.map leftX) N w) := by
  obtain ⟨P, hP⟩ : ∃ P, RefCQ (l.map leftX) N w = P := ⟨_, rfl⟩
  rw [hP]
  obtain ⟨N', hN', h1, h32, h40, hlf⟩ := lefts_of hr
  obtain rfl : N = N' := by omega
  have hRD : RulesD w o l := ⟨hA, hI, h40, hlf.up⟩
  obtain ⟨w1, hw1⟩ : ∃ w1, w.alloc (.cells #[.slice none 0 0, .slice none 0 0] 28) = w1 := ⟨_, rfl⟩
  have b1 : Below w.heap.size w w1 := by rw [← hw1]; exact (Below.refl _ _).alloc (Nat.le_refl _) _
  have r1 : w1.heap[w.heap.size]? = some (.cells #[.slice none 0 0, .slice none 0 0] 28 (0, 0)) := by rw [← hw1]; exact heap_alloc_new _ _
  have z1 : w1.heap.size = w.heap.size + 1 := by rw [← hw1]; simp
  have HR := Lib.hid (refRightJ_any o l cap ((N : Nat) : Int) (by omega) hfw w1 (hA.below b1) (hI.below b1))
  rw [hr] at HR
  have HRES : Hid (∀ W, Below w1.heap.size w1 W → W.heap[w.heap.size]? = some (.cells #[.slice none 0 0, .slice none 0 0] 28 (0, 0)) ∧ Below w.heap.size w W) := Lib.hid fun W hb => ⟨(hb.block _ (by omega)).trans r1, b1.trans (hb.mono b1.size)⟩
  have HBAD : Hid (300 < (finD (l.map leftX) N).1.length → ∀ W, Below w.heap.size w W → P (.returned (.tuple #[.agg #[.slice none 0 0, .slice none 0 0], .int .i64 100])) W) := Lib.hid fun h W hb => by
    rw [← hP]
    exact ⟨.inl ⟨h, rfl⟩, hb⟩
  have HEND : Hid (∀ (i B : Nat) (b : CmpS) (W W3 : World), CmpF (l.map leftX) N i b → i = b.A.length → CmpI w1 B b W → Moves (fun k => k = w.heap.size) W W3 → Below w.heap.size w W3 → P (.returned (.tuple #[.agg #[.slice b.no b.R.length b.nc, .slice b.fo b.F.length b.fc], .int .i64 0])) W3) := Lib.hid fun i B b W W3 hF hi hI hm hb => by
    rw [← hP]
    obtain ⟨e1, e2, e3⟩ := hF.end_ hi
    refine ⟨.inr ⟨e1, b.m, ?_, e2, e3, cmp_end hI (HRES.out W hI.bel).1 (by omega) hm⟩, hb⟩
    show _ = Ending.returned (.tuple #[.agg #[.slice b.no b.R.length b.nc, .slice b.fo (natsZ b.F).length b.fc], .int .i64 0])
    rw [List.length_map]
  have HFI := Lib.hid (fun (x : RulX) (hx : x ∈ l) W (hb : Below w.heap.size w W) => refFirst_any x.1.1 x.1.2.1 x.1.2.2.1 x.1.2.2.2 (by have := hfw x hx; have := this.1; omega) W ((hI.below hb) x hx).1.1)
  have HST := Lib.hid (fun so S sc c W (hb : Below w.heap.size w W) (hK : KnowD l S) (hS : NumsAt W so (natsZ S)) => refStep12_any o so l cap sc S c W hfw (hRD.below hb) hK hS)
  have HDN := Lib.hid (fun so S sc W (hb : Below w.heap.size w W) (hK : KnowD l S) (hS : NumsAt W so (natsZ S)) => refDone12_any o so l cap sc S W hfw (hRD.below hb) hK hS)
  have HKN := Lib.hid (fun q S hS => know_run hlf.up N q S hS)
  have HSW := Lib.hid (fun S c => step_way hlf S c)
  have HRD := Lib.hid hRD
  have HAT := Lib.hid hA
  obtain ⟨k, hk⟩ : ∃ k, l.length = k := ⟨_, rfl⟩
  have HK := Lib.hid hk
  have HKS : Hid (∀ S, KnowD l S → S.length = k) := Lib.hid fun S h => by rw [h.1, hk]
  have hfl : Hid ((firstD (l.map leftX)).length = k) := Lib.hid (by unfold firstD; rw [List.length_map, List.length_map, hk])
  have HW1 := Lib.hid hw1
  have HB1 := Lib.hid b1
  have HZ1 := Lib.hid z1
  have HN32 := Lib.hid h32
  rw [hk] at HR HST HDN h40 ⊢
  clear hw1 b1 r1 z1 hA hI hr hfw hk hRD hlf hP hN' h1
  go_enter Tryz.func12, Tryz.ntmps12
  go_wp2_with fail
  rw [HW1.out]
  refine HR.out.mono ?_
  rintro e w2 ⟨rfl, b2⟩
  have HB2 := Lib.hid b2
  clear b2 HR
  go_wp2_with fail
  go_loopg [6, 7] k (fun d v6 v7 wr => ∃ (j : Nat) (ro : Option Addr) (rc : Nat), v7 = .int .i64 (j : Nat) ∧ v6 = .slice ro j rc ∧ j ≤ k ∧ d = k - j ∧ Hid (wr.ownsRow w1.heap.size 2 1 (.slice ro j rc) j (intsV ((firstD (l.map leftX)).take j))) ∧ Hid (Below w1.heap.size w1 wr))
  case atStart => exact ⟨0, none, 0, rfl, rfl, Nat.zero_le _, rfl, Lib.hid (World.ownsRow_nil _ _ _ _), HB2⟩
  case round =>
    obtain ⟨j, ro, rc, rfl, rfl, hj, rfl, HO, HB⟩ := hrel
    have hbw := (HRES.out _ HB.out).2
    have hsw := HB.out.size
    rcases Nat.lt_or_ge j k with hlt | hge
    · have d1 : decide (((j : Nat) : Int) < ((k : Nat) : Int)) = true := decide_eq_true (by omega)
      obtain ⟨x, hx⟩ : ∃ x, l[j]? = some x := ⟨_, List.getElem?_eq_getElem (by rw [HK.out]; exact hlt)⟩
      have hxm := List.mem_of_getElem? hx
      obtain ⟨g, off, rfl, hc⟩ := HAT.out (by rw [HK.out]; omega)
      obtain ⟨u0, u1, _, _, _⟩ := hc j x hx
      have t0 := cell_keepQ hbw u0
      have t1 := cell_keepQ hbw u1
      have hlt2 := World.block_lt_of_cell? wr _ t0
      have hSt := HFI.out x hxm wr hbw
      rw [first_knowF HRD.out hxm] at hSt
      have HSN := Lib.hid (first_snoc hx)
      obtain ⟨y, hy⟩ : ∃ y, firstS x.1.2.2.1 = y := ⟨_, rfl⟩
      obtain ⟨z, hz⟩ : ∃ z, numA (rightB x.1.2.2.1 32) = z := ⟨_, rfl⟩
      rw [hy] at HSN
      rw [hy, hz] at hSt
      obtain ⟨⟨s1, p1, xs1, k1⟩, ⟨s2, p2, xs2, k2⟩, br⟩ := x
      replace hSt : Calls Tryz.prog 48 #[.agg #[.bool s1, .slice p1 xs1.length k1]] wr fun e w' => e = .returned (.tuple #[.int .i64 ((y : Nat) : Int), .int .i64 z]) ∧ Below wr.heap.size wr w' := hSt
      simp only at t0 t1
      obtain ⟨m1, hm1⟩ : ∃ k, xs1.length = k := ⟨_, rfl⟩
      simp only [hm1] at t1 hSt
      have HS2 := Lib.hid hSt
      have hjm : j < 1000000 := by omega
      clear hc hx hxm u0 u1 hSt hy hz hm1 hbw
      go_wp2_with fail
      refine HS2.out.mono ?_
      rintro e w4 ⟨rfl, b4⟩
      have hz4 := b4.size
      obtain ⟨g', cap', w6, hrun, hown', hgrow, _⟩ := i64_ownD y (own_below HO.out b4) (by omega) (by omega)
      rw [← HSN.out] at hown'
      have HO6 := Lib.hid hown'
      have HB6 : Hid (Below w1.heap.size w1 w6) := Lib.hid (((HB.out.trans (b4.mono hsw)).alloc (by omega) _).grown hgrow (by rw [World.size_alloc]; omega) (fun k hk => own_rowD' HO.out hk))
      clear hown' hgrow b4 hz4
      go_wp2_with fail
      go_roundg (k - (j + 1))
      case measure => omega
      case rel => exact ⟨j + 1, _, _, by simp, rfl, by omega, rfl, HO6, HB6⟩
    · obtain rfl : k = j := by omega
      have d1 : decide (((k : Nat) : Int) < ((k : Nat) : Int)) = false := decide_eq_false (by omega)
      have ho := HO.out
      rw [List.take_of_length_le (by rw [hfl.out]; exact Nat.le_refl _)] at ho
      obtain ⟨W5, hW5⟩ : ∃ W5, (wr.alloc (.cells #[.slice ro k rc] 26)).alloc (.cells #[.slice none 0 0, .slice none 0 0] 28) = W5 := ⟨_, rfl⟩
      have hcs := cmp_start (R := l.map leftX) (n := N) (xo := ro) (xc := rc) HB.out (by rw [hfl.out]; exact ho) (W2 := W5) (by rw [hfl.out]; exact hW5)
      have HI0 := Lib.hid hcs.1
      have HF0 := Lib.hid hcs.2
      have HW5 := Lib.hid hW5
      clear ho hW5 hcs hbw HO d1 hfl HFI HAT
      go_wp2_with fail
      rw [HW5.out]
      obtain ⟨B, hB⟩ : ∃ B, wr.heap.size + 1 = B := ⟨_, rfl⟩
      rw [hB] at HI0 ⊢
      clear HW5 hB
      clear HB
      go_loopg [10, 12] 300 (fun d v10 v12 wq => ∃ (i : Nat) (b : CmpS), v12 = .int .i64 (i : Nat) ∧ v10 = .slice b.ao b.A.length b.ac ∧ i ≤ 300 ∧ d = 300 - i ∧ Hid (CmpF (l.map leftX) N i b) ∧ Hid (CmpI w1 B b wq))
      case atStart => exact ⟨0, _, rfl, rfl, by omega, rfl, HF0, HI0⟩
      case round =>
        obtain ⟨i, b, rfl, rfl, hi3, rfl, HF, HI⟩ := hrel
        obtain ⟨WQ, rfl⟩ : ∃ W, W = wr := ⟨_, rfl⟩
        rcases Nat.lt_or_ge i b.A.length with hlt | hge
        · obtain ⟨S, x0, hS, hx0, hxs⟩ := HF.out.state hlt
          have HS := Lib.hid hS
          have HLT := Lib.hid hlt
          have HKS2 := Lib.hid (HKN.out _ S (List.mem_of_getElem? hS))
          have HG0 := Lib.hid (HF.out.start hlt)
          have hv : CmpS.xv b = .slice none 0 0 := by show Value.slice b.xo b.N.length b.xc = _; rw [HF.out.xnone, HF.out.next, HF.out.cap]; rfl
          have HV := Lib.hid hv
          have d1 : decide (((i : Nat) : Int) < ((b.A.length : Nat) : Int)) = true := decide_eq_true (by omega)
          have him : i < 1000000 := by omega
          have hi300 : i < 300 := by have := HF.out.le; omega
          obtain ⟨al, hal⟩ : ∃ q, b.A.length = q := ⟨_, rfl⟩
          have HAL := Lib.hid hal
          have hltp : i < al := by omega
          rw [hal] at d1 ⊢
          clear hS hx0 hxs hlt hv hal
          go_wp2_with fail
          rw [← HAL.out]
          go_loopg [10, 13, 14] (N + 1) (fun d v10 v13 v14 wq => ∃ (c : Nat) (b' : CmpS), v14 = .int .i64 (c : Nat) ∧ v13 = .slice b'.xo b'.N.length b'.xc ∧ v10 = .slice b'.ao b'.A.length b'.ac ∧ c ≤ N + 1 ∧ d = N + 1 - c ∧ Hid (CmpG (l.map leftX) N i c b b') ∧ Hid (CmpI w1 B b' wq))
          case atStart => exact ⟨0, b, rfl, HV.out.symm, rfl, Nat.zero_le _, rfl, HG0, HI⟩
          case round =>
            obtain ⟨c, b', rfl, rfl, rfl, hc, rfl, HG, HI2⟩ := hrel
            have hb2 := (HRES.out _ HI2.out.bel).2
            have hbz := HI2.out.bel.size
            have hA3 := HG.out.le
            have hai := HG.out.at_
            obtain ⟨_, x, hx, hxs⟩ := HG.out.state HS.out
            obtain ⟨A', ao, ac, R', no, nc, F', fo, fc, N', xo, xc⟩ := b'
            simp only at hA3 hai hx ⊢
            obtain ⟨ga, offa, hao, hcl⟩ := HI2.out.rowsA (by show 0 < A'.length; omega)
            replace hao : ao = some ⟨ga, offa, none⟩ := hao
            subst hao
            have k0 := hcl i x hx
            obtain ⟨hxn, hxf⟩ := HI2.out.sets x (List.mem_of_getElem? hx)
            obtain ⟨so, sl, sc⟩ := x
            replace hxs : sl = natsZ S := hxs
            subst hxs
            have hsl : (natsZ S).length = k := by rw [List.length_map, HKS.out S HKS2.out]
            simp only [hsl] at k0
            have lga := World.block_lt_of_cell? _ _ k0
            have hnl : N'.length = c := HG.out.len
            obtain ⟨al, hal⟩ : ∃ q, A'.length = q := ⟨_, rfl⟩
            have hial : i < al := by omega
            rw [hnl, hal]
            rcases Nat.lt_or_ge N c with hgc | hlc
            · obtain rfl : c = N + 1 := by omega
              have dc : decide (((N : Nat) : Int) + 1 ≤ ((N : Nat) : Int)) = false := decide_eq_false (by omega)
              have hnn : ¬ N + 1 ≤ N := by omega
              have dc2 : decide ((((N + 1 : Nat)) : Int) ≤ ((N : Nat) : Int)) = false := decide_eq_false (by omega)
              have hRl : R'.length = i := by
                have h1 := congrArg List.length HF.out.rows
                rw [List.length_map, rowsP_len] at h1
                have h2 : R' = b.R := HG.out.rows
                rw [h2, h1]
              have hFl : F'.length ≤ 300 := by
                have h2 : F' = b.F := HG.out.fits
                rw [h2, HF.out.fits, List.length_map, List.length_take]
                omega
              obtain ⟨g1, cap1, w6, hr1, e0, e1, e2, hI6⟩ := HI2.out.addRow (by show R'.length ≤ _; omega)
              obtain ⟨c0, _, f0, _, ltB⟩ := mac5 HI2.out.box
              simp only [CmpS.nv, CmpS.xv, hRl, hnl] at hr1 e0 hI6 c0
              obtain ⟨W7, hW7⟩ : ∃ W7, w6.setCell ⟨B, 0, none⟩ (.slice (some ⟨g1, 0, none⟩) (i + 1) cap1) = W7 := ⟨_, rfl⟩
              rw [hW7] at hI6
              obtain ⟨_, q1, _, _, ltB7⟩ := mac5 hI6.box
              obtain ⟨ga2, offa2, he2, hcl7⟩ := hI6.rowsA (by show 0 < A'.length; omega)
              cases he2
              have k7 := hcl7 i _ hx
              simp only [hsl] at k7
              have lga7 := World.block_lt_of_cell? _ _ k7
              have hsn7 := (hI6.sets _ (List.mem_of_getElem? hx)).1
              have hb7 := (HRES.out W7 hI6.bel).2
              have bd : Below W7.heap.size W7 W7.drew := (Below.refl _ _).drew
              have hD := HDN.out so S sc W7.drew (hb7.trans (bd.mono hb7.size)) HKS2.out (hsn7.below bd)
              rw [HKS.out S HKS2.out] at hD
              have HF9 := Lib.hid (fun no fo nc fc => HF.out.step HG.out HS.out HLT.out xo no fo nc fc xc)
              obtain ⟨dn, hdn⟩ : ∃ q, doneD (l.map leftX) S = q := ⟨_, rfl⟩
              rw [hdn] at hD HF9
              obtain ⟨fl, hfl⟩ : ∃ q, F'.length = q := ⟨_, rfl⟩
              have HD : Hid (Calls Tryz.prog 51 #[.slice o k cap, .slice so k sc] W7.drew fun e w' => e = .returned (.int .i64 ((dn : Nat) : Int)) ∧ w'.cell? ⟨B, 1, none⟩ = some (.slice fo fl fc) ∧ B < w'.heap.size ∧ ∃ g cap w6, (appSem #[26, 26] 26 #[.slice fo fl fc, .slice (some ⟨w'.heap.size, 0, none⟩) 1 1]).run Tryz.prog (w'.alloc (.cells #[.int .i64 ((dn : Nat) : Int)] 2)) = .ok (.slice (some ⟨g, 0, none⟩) (fl + 1) cap) w6 ∧
                  w6.cell? ⟨B, 1, none⟩ = some (.slice fo fl fc) ∧ w6.frozen? ⟨B, 1, none⟩ = false ∧ B < w6.heap.size ∧ Hid (CmpI w1 B ⟨A', some ⟨ga, offa, none⟩, ac, R' ++ [(xo, natsZ N', xc)], some ⟨g1, 0, none⟩, cap1, F' ++ [dn], some ⟨g, 0, none⟩, cap, [], none, 0⟩ (w6.setCell ⟨B, 1, none⟩ (.slice (some ⟨g, 0, none⟩) (fl + 1) cap)))) := Lib.hid (hD.mono fun e w' h => ⟨h.1, by
                have h8 := hI6.below (bd.trans (show Below W7.heap.size W7.drew w' from h.2))
                obtain ⟨_, v1, _, _, v4⟩ := mac5 h8.box
                obtain ⟨g, cp, w9, r9, s0, s1, s2, hI9⟩ := h8.addFit dn (by show F'.length ≤ _; omega)
                simp only [CmpS.fv, hfl] at r9 s0 hI9 v1
                exact ⟨v1, v4, g, cp, w9, r9, s0, s1, s2, Lib.hid hI9⟩⟩)
              simp only [hfl] at q1
              have HW7 := Lib.hid hW7
              have him2 : i < 1000000 := him
              clear hW7 hI6 hcl hcl7 hsn7 hb7 bd hD hx hxn hxf hsl hRl hFl hfl hdn hnl hbz hb2 hA3
              go_wp2_with fail
              rw [HW7.out]
              go_region_with (go_at_call 51; refine HD.out.mono ?_; rintro e w8 ⟨rfl, v1, v4, g9, cp9, w9, r9, s0, s1, s2, hI9⟩)
              all_goals
                have HF10 := Lib.hid (HF9.out (some ⟨g1, 0, none⟩) (some ⟨g9, 0, none⟩) cap1 cp9)
                go_wp2_with fail
                go_roundg (300 - (i + 1))
                case measure => omega
                case rel => exact ⟨i + 1, _, by simp, by show _ = Value.slice _ A'.length _; rw [hal], by omega, rfl, HF10, hI9⟩
            · have dc : decide (((c : Nat) : Int) ≤ ((N : Nat) : Int)) = true := decide_eq_true (by omega)
              have hc1 : c < 1000000 := by have := HN32.out; omega
              have hcn : c ≤ N := hlc
              have hSt := HST.out so S sc (wayZ N c) wr hb2 HKS2.out hxn
              rw [HSW.out S c, HKS.out S HKS2.out] at hSt
              have HTK : Hid (KnowD l (stepD (l.map leftX) S ((c : Nat) : Int))) := Lib.hid (know_step HRD.out.right HKS2.out _)
              have HMC := Lib.hid (fun j hj => HG.out.met hi300 hlc HS.out (j := j) hj)
              obtain ⟨T, hT⟩ : ∃ T, stepD (l.map leftX) S ((c : Nat) : Int) = T := ⟨_, rfl⟩
              rw [hT] at HTK hSt HMC
              have hTl : T.length = k := HKS.out T HTK.out
              have hTn : (natsZ T).length = k := by rw [List.length_map, hTl]
              have HSZ : Hid (∀ x ∈ A', x.2.1.length ≤ 1000000) := Lib.hid fun y hy => by
                have h := List.mem_map_of_mem (f := fun z : RowD => z.2.1) hy
                have e : A'.map (·.2.1) = _ := HG.out.all
                rw [e] at h
                obtain ⟨S', hS', e2⟩ := List.mem_map.1 h
                rw [← e2, List.length_map, HKS.out S' (HKN.out _ S' hS')]
                omega
              have HST2 := Lib.hid hSt
              have HTL := Lib.hid hTl
              have HTN := Lib.hid hTn
              have HAL2 := Lib.hid hal
              have HNL := Lib.hid hnl
              clear hSt hT hTl hTn hx hxn hxf hcl hsl hnl hal
              have hway : (((((c : Nat) : Int) == ((N : Nat) : Int)) = true) ∧ wayZ N c = -1) ∨ (((((c : Nat) : Int) == ((N : Nat) : Int)) = false) ∧ wayZ N c = ((c : Nat) : Int)) := by
                unfold wayZ
                by_cases h : c = N
                · exact .inl ⟨by rw [h, beq_self_eq_true], if_pos h⟩
                · exact .inr ⟨by rw [beq_eq_false_iff_ne]; omega, if_neg h⟩
              rcases hway with ⟨d2, hw⟩ | ⟨d2, hw⟩
              all_goals
                rw [hw] at HST2
                clear hw
                go_wp2_with fail
                refine HST2.out.mono ?_
                rintro e w4 ⟨lo, lc, rfl, hol, b4⟩
                have hn4 : NumsAt w4 lo (natsZ T) := nums_ownN (cap := lc) (by rw [HTL.out]; exact hol)
                have hI4 := HI2.out.below b4
                have hMt := refMet12_any (some ⟨ga, offa, none⟩) lo A' (natsZ T) ac lc (by omega) HSZ.out w4 hI4.rowsA (fun y hy => (hI4.sets y hy).1) hn4
                rw [HAL2.out, HTN.out] at hMt
                obtain ⟨j, hj⟩ : ∃ j, (A'.map (·.2.1)).idxOf (natsZ T) = j := ⟨_, rfl⟩
                rw [hj] at hMt
                have HMC2 := Lib.hid (HMC.out j hj)
                have HMT := Lib.hid hMt
                have HF4 : Hid (∀ q, inQ lo q → FreeC B ⟨A', some ⟨ga, offa, none⟩, ac, R', no, nc, F', fo, fc, N', xo, xc⟩ w4 q) := Lib.hid fun q hq => HI2.out.fresh hol hq
                have HI4 := Lib.hid hI4
                have HN4 := Lib.hid hn4
                clear hol b4 hn4 hI4 hMt hj
                go_wp2_with fail
                refine HMT.out.mono ?_
                rintro e w5 ⟨rfl, b5⟩
                have hI5 := HI4.out.below b5
                have hn5 := HN4.out.below b5
                have hf5 : ∀ q, inQ lo q → FreeC B _ w5 q := fun q hq => (HF4.out q hq).below b5
                clear b5 HMT
                rcases HMC2.out with ⟨hj3, h300⟩ | ⟨hja, hj3, hG2⟩ | ⟨hja, hj3, hG2⟩
                · have d3 : (((j : Nat) : Int) == 300) = true := by rw [hj3]; rfl
                  obtain ⟨hz0, hbw5⟩ := HRES.out w5 hI5.bel
                  obtain ⟨c0, c1, f0, f1, lt5, W3, hW3, q3, b3, _⟩ := mac_end (a := .slice none 0 0) (b := .slice none 0 0) hz0 hbw5
                  have HX := Lib.hid (HBAD.out h300 W3 b3)
                  have HW3 := Lib.hid hW3
                  have HR3 := Lib.hid q3
                  clear hI5 hn5 hf5 hz0 hbw5 hW3 q3 b3 HMC2 hj3
                  go_wp2_with fail
                  rw [HW3.out]
                  exact bodyPost_ret (v := .tuple #[.agg #[.slice none 0 0, .slice none 0 0], .int .i64 100]) (results_cell_tmpD rfl _ _ w.heap.size _ _ _ _ _ rfl rfl HR3.out Tryz.underlying28 rfl (by kernel_rfl)) rfl HX.out
                · have d3 : (((j : Nat) : Int) == 300) = false := by rw [beq_eq_false_iff_ne]; omega
                  have d4 : (((j : Nat) : Int) == ((al : Nat) : Int)) = true := by have h := HAL2.out; have h2 : j = A'.length := hja; rw [beq_iff_eq]; omega
                  obtain ⟨g1, cap1, w6, hr1, hI6⟩ := hI5.addAll (lo, natsZ T, lc) hn5 (fun _ q hq => hf5 q hq) (by show A'.length ≤ _; omega)
                  obtain ⟨g2, cap2, w7, hr2, hI7⟩ := hI6.addNext j (by show N'.length ≤ _; rw [HNL.out]; omega)
                  simp only [CmpS.av, CmpS.xv, slX, HAL2.out, HNL.out, HTN.out] at hr1 hr2
                  have HG7 := Lib.hid (hG2 lo lc (some ⟨g1, 0, none⟩) cap1 (some ⟨g2, 0, none⟩) cap2)
                  have HI7 := Lib.hid hI7
                  clear hI5 hn5 hf5 hI6 hI7 hG2 HMC2 hja hj3
                  go_wp2_with fail
                  go_roundg (N + 1 - (c + 1))
                  case measure => omega
                  case rel => exact ⟨c + 1, _, by simp, by show _ = Value.slice _ (N' ++ [j]).length _; rw [List.length_append, HNL.out]; rfl, by show _ = Value.slice _ (A' ++ [_]).length _; rw [List.length_append, HAL2.out]; rfl, by omega, rfl, HG7, HI7⟩
                · have d3 : (((j : Nat) : Int) == 300) = false := by rw [beq_eq_false_iff_ne]; omega
                  have d4 : (((j : Nat) : Int) == ((al : Nat) : Int)) = false := by have h := HAL2.out; have h2 : j < A'.length := hja; rw [beq_eq_false_iff_ne]; omega
                  obtain ⟨g2, cap2, w7, hr2, hI7⟩ := hI5.addNext j (by show N'.length ≤ _; rw [HNL.out]; omega)
                  simp only [CmpS.xv, HNL.out] at hr2
                  have HG7 := Lib.hid (hG2 (some ⟨g2, 0, none⟩) cap2)
                  have HI7 := Lib.hid hI7
                  clear hI5 hn5 hf5 hI7 hG2 HMC2 hja hj3
                  go_wp2_with fail
                  go_roundg (N + 1 - (c + 1))
                  case measure => omega
                  case rel => exact ⟨c + 1, _, by simp, by show _ = Value.slice _ (N' ++ [j]).length _; rw [List.length_append, HNL.out]; rfl, by show _ = Value.slice _ A'.length _; rw [HAL2.out], by omega, rfl, HG7, HI7⟩
        · have hia : i = b.A.length := by have := HF.out.at_; omega
          obtain ⟨c0, c1, f0, f1, ltB⟩ := mac5 HI.out.box
          obtain ⟨hz0, hbw5⟩ := HRES.out _ HI.out.bel
          obtain ⟨r0, r1, f2, f3, lt5, W3, hW3, q3, b3, m3⟩ := mac_end (a := .slice b.no b.R.length b.nc) (b := .slice b.fo b.F.length b.fc) hz0 hbw5
          have HX := Lib.hid (HEND.out i B b _ W3 HF.out hia HI.out m3 b3)
          have d1 : decide (((i : Nat) : Int) < ((b.A.length : Nat) : Int)) = false := decide_eq_false (by omega)
          have HW3 := Lib.hid hW3
          have HR3 := Lib.hid q3
          obtain ⟨rl, hrl⟩ : ∃ q, b.R.length = q := ⟨_, rfl⟩
          obtain ⟨fl, hfl⟩ : ∃ q, b.F.length = q := ⟨_, rfl⟩
          obtain ⟨al, hal⟩ : ∃ q, b.A.length = q := ⟨_, rfl⟩
          rw [hrl] at HX c0 HW3 HR3
          rw [hfl] at HX c1 HW3 HR3
          have hnl : ¬ i < al := by omega
          rw [hal] at d1 hia ⊢
          clear hz0 hbw5 hW3 q3 b3 m3 hrl hfl hal hia hge
          go_wp2_with fail
          rw [HW3.out]
          exact bodyPost_ret (v := .tuple #[.agg #[.slice b.no rl b.nc, .slice b.fo fl b.fc], .int .i64 0]) (results_cell_tmpD rfl _ _ w.heap.size _ _ _ _ _ rfl rfl HR3.out Tryz.underlying28 rfl (by kernel_rfl)) rfl HX.out
end Go.Proofs.YtaoooocalpkhjaaGreatDoor
namespace Go.Proofs.YtaoooocalpkhjaaGreatDoor
open Go.RowKit Go.Shelf Go.Maps

abbrev zeroX : MachX := ⟨none, [], 0, none, [], 0⟩
def CmpQ (l : List RulX) (n code : Int) (m : MachX) (w' : World) : Prop :=
  (code = 90 ∧ m = zeroX ∧ rightsU (l.map plX) n = false) ∨
  (code = 100 ∧ m = zeroX ∧ rightsU (l.map plX) n = true ∧ ∃ N : Nat, n = ((N : Nat) : Int) ∧ 300 < (finD (l.map leftX) N).1.length) ∨
  (code = 0 ∧ rightsU (l.map plX) n = true ∧ ∃ N : Nat, n = ((N : Nat) : Int) ∧ 1 ≤ N ∧ N ≤ 32 ∧ l.length ≤ 40 ∧ leftsL N l ∧ (finD (l.map leftX) N).1.length ≤ 300 ∧ m.rows.map (·.2.1) = finR (l.map leftX) N ∧ m.fits = finF (l.map leftX) N ∧ MachD w' m ∧ m.B n = true)
theorem Comp12_any (o : Option Addr) (l : List RulX) (cap : Nat) (n : Int) (hl : l.length ≤ 1000000) (hfw : FewC l) (w : World) (aR aM aP aS : Addr) (hG : GlobD w aR aM) (hQ : GlobH w aP aS) (hA : AtC w o l) (hI : ItsC w l) :
    Calls Tryz.prog 11 #[.slice o l.length cap, .int .i64 n] w fun e w' => ∃ (m : MachX) (code : Int), e = .returned (.tuple #[m.v, .int .i64 code]) ∧ CmpQ l n code m w' ∧ Below w.heap.size w w' := by
  cases hr : rightsU (l.map plX) n with
  | false =>
    refine (Compile_bad o l cap n hl hfw w aR aM hG hA hI hr).mono ?_
    rintro e w' ⟨rfl, b⟩
    exact ⟨zeroX, 90, rfl, .inl ⟨rfl, rfl, hr⟩, b⟩
  | true =>
    obtain ⟨N, rfl, h1, h32, h40, hlf⟩ := lefts_of hr
    rcases Nat.lt_or_ge 300 (finD (l.map leftX) N).1.length with h | h
    · refine (Compile_over o l cap N hfw w aR aM aP aS hG hQ hA hI hr h).mono ?_
      rintro e w' ⟨rfl, b⟩
      exact ⟨zeroX, 100, rfl, .inr (.inl ⟨rfl, rfl, hr, N, rfl, h⟩), b⟩
    · refine (Compile_ok o l cap N hfw w aR aM aP aS hG hQ hA hI hr h).mono ?_
      rintro e w' ⟨⟨m, rfl, hm1, hm2, hm3, _⟩, b⟩
      refine ⟨m, 0, rfl, .inr (.inr ⟨rfl, hr, N, rfl, h1, h32, h40, hlf, h, hm1, hm2, hm3, ?_⟩), b⟩
      show machB (m.rows.map (·.2.1)) m.fits _ = true
      rw [hm1, hm2]
      exact fin_right hlf.up h40 h1 h32 h
end Go.Proofs.YtaoooocalpkhjaaGreatDoor
namespace Go.Proofs.YtaoooocalpkhjaaGreatDoor
open Go.RowKit Go.Shelf Go.Maps

theorem refComp12_any (o : Option Addr) (l : List RulX) (cap : Nat) (n : Int) (hl : l.length ≤ 100000) (hfw : FewC l) (w : World) (hA : AtC w o l) (hI : ItsC w l) :
    Calls Tryz.prog 12 #[.slice o l.length cap, .int .i64 n] w fun e w' => ∃ (m : MachX) (code : Int), e = .returned (.tuple #[m.v, .int .i64 code]) ∧ CmpQ l n code m w' ∧ Below w.heap.size w w' := by
  cases hr : rightsU (l.map plX) n with
  | false =>
    refine (refCompile_bad o l cap n hl hfw w hA hI hr).mono ?_
    rintro e w' ⟨rfl, b⟩
    exact ⟨zeroX, 90, rfl, .inl ⟨rfl, rfl, hr⟩, b⟩
  | true =>
    obtain ⟨N, rfl, h1, h32, h40, hlf⟩ := lefts_of hr
    refine (refCompile_ok o l cap N hfw w hA hI hr).mono ?_
    rintro e w' ⟨⟨h, rfl⟩ | ⟨h, m, rfl, hm1, hm2, hm3⟩, b⟩
    · exact ⟨zeroX, 100, rfl, .inr (.inl ⟨rfl, rfl, hr, N, rfl, h⟩), b⟩
    · refine ⟨m, 0, rfl, .inr (.inr ⟨rfl, hr, N, rfl, h1, h32, h40, hlf, h, hm1, hm2, hm3, ?_⟩), b⟩
      show machB (m.rows.map (·.2.1)) m.fits _ = true
      rw [hm1, hm2]
      exact fin_right hlf.up h40 h1 h32 h
theorem zero_machD (w : World) : MachD w zeroX := ⟨fun h => absurd h (Nat.lt_irrefl _), fun x h => (by cases h), fun h => absurd h (Nat.lt_irrefl _)⟩
theorem cmp_mach {l : List RulX} {n c : Int} {m : MachX} {w : World} (h : CmpQ l n c m w) : MachD w m := by
  rcases h with ⟨_, rfl, _⟩ | ⟨_, rfl, _⟩ | ⟨_, _, _, _, _, _, _, _, _, _, _, h, _⟩
  · exact zero_machD w
  · exact zero_machD w
  · exact h
theorem cmp_same {l : List RulX} {n c d : Int} {m k : MachX} {w v : World} (h : CmpQ l n c m w) (g : CmpQ l n d k v) : c = d ∧ m.rows.map (·.2.1) = k.rows.map (·.2.1) ∧ m.fits = k.fits := by
  rcases h with ⟨rfl, rfl, h1⟩ | ⟨rfl, rfl, h1, N, rfl, h2⟩ | ⟨rfl, h1, N, rfl, _, _, _, _, h2, h3, h4, _, _⟩ <;> rcases g with ⟨rfl, rfl, g1⟩ | ⟨rfl, rfl, g1, K, e, g2⟩ | ⟨rfl, g1, K, e, _, _, _, _, g2, g3, g4, _, _⟩
  · exact ⟨rfl, rfl, rfl⟩
  · rw [h1] at g1; cases g1
  · rw [h1] at g1; cases g1
  · rw [h1] at g1; cases g1
  · exact ⟨rfl, rfl, rfl⟩
  · obtain rfl : N = K := by omega
    omega
  · rw [h1] at g1; cases g1
  · obtain rfl : N = K := by omega
    omega
  · obtain rfl : N = K := by omega
    exact ⟨rfl, by rw [h3, g3], by rw [h4, g4]⟩
theorem cmp_small {l : List RulX} {n c : Int} {m : MachX} {w : World} (h : CmpQ l n c m w) : m.rows.length ≤ 300 ∧ m.fits.length ≤ 300 ∧ ∀ y ∈ m.rows, y.2.1.length ≤ 33 := by
  rcases h with ⟨_, rfl, _⟩ | ⟨_, rfl, _⟩ | ⟨_, _, N, rfl, h1, h32, _, _, h3, hm1, hm2, _, hB⟩
  · exact ⟨Nat.zero_le _, Nat.zero_le _, fun y hy => by cases hy⟩
  · exact ⟨Nat.zero_le _, Nat.zero_le _, fun y hy => by cases hy⟩
  · obtain ⟨_, _, _, k3, k4, k5, _⟩ := machB_parts hB
    rw [List.length_map] at k3 k4
    refine ⟨k3, by omega, fun y hy => ?_⟩
    have := (k5 y.2.1 (List.mem_map.2 ⟨y, hy, rfl⟩)).1
    omega
end Go.Proofs.YtaoooocalpkhjaaGreatDoor
namespace Go.Proofs.YtaoooocalpkhjaaGreatDoor
open Go.RowKit Go.Shelf Go.Maps
attribute [local go_sem] Oper.semAt_some

set_option maxRecDepth 100000 in
set_option maxHeartbeats 8000000 in
theorem dfaCompiles_anyL (o : Option Addr) (l : List RulX) (cap : Nat) (n : Int) (w : World) (aR aM aP aS : Addr) (hG : GlobD w aR aM) (hQ : GlobH w aP aS) (hA : AtC w o l) (hI : ItsC w l) :
    Calls Tryz.prog 3 #[.slice o l.length cap, .int .i64 n] w fun e w' => e = .returned (.bool true) ∧ Below w.heap.size w w' := by
  obtain ⟨P, hP⟩ : ∃ P, (fun (e : Ending) (w' : World) => e = .returned (.bool true) ∧ Below w.heap.size w w') = P := ⟨_, rfl⟩
  have HPP : Hid (∀ W, Below w.heap.size w W → P (.returned (.bool true)) W) := by rw [← hP]; exact Lib.hid fun W h => ⟨rfl, h⟩
  rw [hP]
  have HSH := Lib.hid (shown12_any w aR aM aP aS hG hQ)
  have HFW := Lib.hid (fun W (hb : Below w.heap.size w W) => few12_any o l cap W (hA.below hb) (hI.below hb))
  have HFF := fewC_S l
  have hfl := fewS_len l
  obtain ⟨F, hF⟩ : ∃ q, fewS l = q := ⟨_, rfl⟩
  rw [hF] at HFW HFF hfl
  have HCW := Lib.hid (fun (o' : Option Addr) (c' : Nat) W (hb : Below w.heap.size w W) (hA' : AtC W o' F) (hI' : ItsC W F) => Comp12_any o' F c' n (by omega) HFF W aR aM aP aS (hG.below hb) (hQ.below hb) hA' hI')
  have HRW := Lib.hid (fun (o' : Option Addr) (c' : Nat) W (hA' : AtC W o' F) (hI' : ItsC W F) => refComp12_any o' F c' n (by omega) HFF W hA' hI')
  obtain ⟨nl, hnl⟩ : ∃ q, l.length = q := ⟨_, rfl⟩
  rw [hnl] at HFW ⊢
  obtain ⟨nf, hnf⟩ : ∃ q, F.length = q := ⟨_, rfl⟩
  rw [hnf] at HFW HCW HRW hfl
  clear hP hG hQ hA hI hF hnl hnf HFF
  go_enter Tryz.func3, Tryz.ntmps3
  go_wp2_with fail
  refine HSH.out.mono ?_
  rintro e w1 ⟨rfl, b1⟩
  have HB1 := Lib.hid b1
  clear b1 HSH
  go_wp2_with fail
  refine (HFW.out w1 HB1.out).mono ?_
  rintro e w2 ⟨o2, c2, rfl, ho, hi, _, b2⟩
  have HB2 := Lib.hid (HB1.out.trans (b2.mono HB1.out.size))
  have HC2 := Lib.hid (HCW.out o2 c2 w2 HB2.out ho hi)
  have HO := Lib.hid ho
  have HI := Lib.hid hi
  clear ho hi b2 HFW HCW HB1
  go_wp2_with fail
  refine HC2.out.mono ?_
  rintro e w3 ⟨m, code, rfl, hC, b3⟩
  obtain ⟨w4, hw4⟩ : ∃ w4, w3.alloc (.cells #[.slice m.no m.rows.length m.nc, .slice m.fo m.fits.length m.fc] 28) = w4 := ⟨_, rfl⟩
  have b4 : Below w3.heap.size w3 w4 := by rw [← hw4]; exact (Below.refl _ _).alloc (Nat.le_refl _) _
  have r4 : w4.heap[w3.heap.size]? = some (.cells #[.slice m.no m.rows.length m.nc, .slice m.fo m.fits.length m.fc] 28 (0, 0)) := by rw [← hw4]; exact heap_alloc_new _ _
  have b24 : Below w2.heap.size w2 w4 := b3.trans (b4.mono b3.size)
  have HB4 := Lib.hid (HB2.out.trans (b24.mono HB2.out.size))
  have HR4 := Lib.hid (HRW.out o2 c2 w4 (HO.out.below b24) (HI.out.below b24))
  have HW4 := Lib.hid hw4
  have HRO := Lib.hid r4
  have HC := Lib.hid hC
  have HM := Lib.hid ((cmp_mach hC).below b4)
  clear hw4 hC b3 b4 r4 b24 HC2 HB2 HRW HO HI
  go_wp2_with fail
  rw [HW4.out]
  refine HR4.out.mono ?_
  rintro e w5 ⟨k, code2, rfl, hC5, b5⟩
  obtain ⟨e1, e2, e3⟩ := cmp_same HC.out hC5
  subst e1
  obtain ⟨w6, hw6⟩ : ∃ w6, w5.alloc (.cells #[.slice k.no k.rows.length k.nc, .slice k.fo k.fits.length k.fc] 28) = w6 := ⟨_, rfl⟩
  have b6 : Below w5.heap.size w5 w6 := by rw [← hw6]; exact (Below.refl _ _).alloc (Nat.le_refl _) _
  have r6 : w6.heap[w5.heap.size]? = some (.cells #[.slice k.no k.rows.length k.nc, .slice k.fo k.fits.length k.fc] 28 (0, 0)) := by rw [← hw6]; exact heap_alloc_new _ _
  have b46 : Below w4.heap.size w4 w6 := b5.trans (b6.mono b5.size)
  obtain ⟨q1, q2, q3⟩ := cmp_small HC.out
  have HS := Lib.hid (refSameD_any m k ⟨by omega, by omega, fun x hx => by have := q3 x hx; omega⟩ w6 (HM.out.below b46) ((cmp_mach hC5).below b6))
  rw [decide_eq_true (⟨e2, e3⟩ : m.R = k.R ∧ m.fits = k.fits)] at HS
  obtain ⟨c0, c1⟩ := mac_cells (row_below HRO.out b5)
  have l5 := World.block_lt_of_cell? w5 _ c0
  have HW6 := Lib.hid hw6
  have HEND : Hid (∀ W, Below w6.heap.size w6 W → P (.returned (.bool true)) W) := Lib.hid fun W hb => HPP.out W (HB4.out.trans ((b46.trans (hb.mono b46.size)).mono HB4.out.size))
  have hcc : (code == code) = true := beq_self_eq_true _
  clear hw6 hC5 b5 b6 r6 b46 HR4 HC HM HRO HW4 HB4 HPP e2 e3 q1 q2 q3
  obtain ⟨no, rows, nc, fo, fits, fc⟩ := m
  obtain ⟨no2, rows2, nc2, fo2, fits2, fc2⟩ := k
  simp only [MachX.v] at HS HW6 c0 c1 ⊢
  obtain ⟨q, hq⟩ : ∃ q, rows.length = q := ⟨_, rfl⟩
  obtain ⟨f, hf⟩ : ∃ q, fits.length = q := ⟨_, rfl⟩
  obtain ⟨q2, hq2⟩ : ∃ q, rows2.length = q := ⟨_, rfl⟩
  obtain ⟨f2, hf2⟩ : ∃ q, fits2.length = q := ⟨_, rfl⟩
  rw [hq] at HS c0 ⊢
  rw [hf] at HS c1 ⊢
  rw [hq2] at HS HW6 ⊢
  rw [hf2] at HS HW6 ⊢
  clear hq hf hq2 hf2
  go_wp2_with fail
  rw [HW6.out]
  refine HS.out.mono ?_
  rintro e w7 ⟨rfl, b7⟩
  have HX := Lib.hid (HEND.out w7 b7)
  clear b7
  go_wp2_with fail
  exact HX.out
end Go.Proofs.YtaoooocalpkhjaaGreatDoor
namespace Go.Proofs.YtaoooocalpkhjaaGreatDoor
open Go.ChangeShapes Go.WideShapes Go.ChangeAt Go.RowKit Go.ChangeMaps Go.Shelf

theorem ownQ : ownKnob Tryz.prog.godebug = none := by kernel_rfl
theorem gPatQ : Tryz.prog.globalNamed "virama/nfa.errPattern" = some 6 := by kernel_rfl
theorem gStaQ : Tryz.prog.globalNamed "virama/nfa.errStates" = some 7 := by kernel_rfl
theorem gFarQ : Tryz.prog.globalNamed "virama/nfa.far" = some 8 := by kernel_rfl
theorem gPatTypeQ : (Tryz.prog.globals[6]?).map (·.type) = some 62 := by kernel_rfl
theorem gStaTypeQ : (Tryz.prog.globals[7]?).map (·.type) = some 62 := by kernel_rfl
theorem gFarTypeQ : (Tryz.prog.globals[8]?).map (·.type) = some 267 := by kernel_rfl
theorem cellsEQ : Tryz.prog.cellsOf 288 = 1 := by kernel_rfl
theorem cellsSQ : Tryz.prog.cellsOf 9 = 1 := by kernel_rfl
theorem starEQ : "*" ++ "errors.errorString" = "*errors.errorString" := by decide
theorem rowEQ (u : TypeId) (h : Tryz.prog.typeName? 3 u = some "*errors.errorString") : u = 268 :=
  typeName_ptr_named (nm := "errors.errorString") (by rw [starEQ]; kernel_rfl) (by kernel_rfl) (by decide) u (by rw [starEQ]; exact h)
abbrev laid2Q : List (String × DataW Unit) := [("virama/nfa.errPattern", Rows.laid_virama_nfa_errPattern), ("virama/nfa.errStates", Rows.laid_virama_nfa_errStates)]
abbrev laidTQ : List (String × DataW Unit) := [("virama/nfa.far", Rows.laid_virama_nfa_far)]
theorem gRulD : Tryz.prog.globalNamed "virama/dfa.errRule" = some 0 := by kernel_rfl
theorem gRulTypeD : (Tryz.prog.globals[0]?).map (·.type) = some 62 := by kernel_rfl
theorem gMacD : Tryz.prog.globalNamed "virama/dfa.errMachine" = some 1 := by kernel_rfl
theorem gMacTypeD : (Tryz.prog.globals[1]?).map (·.type) = some 62 := by kernel_rfl
abbrev laid2D : List (String × DataW Unit) := [("virama/dfa.errRule", Rows.laid_virama_dfa_errRule), ("virama/dfa.errMachine", Rows.laid_virama_dfa_errMachine)]
abbrev laidAQ : List (String × DataW Unit) := [("virama/nfa.errPattern", Rows.laid_virama_nfa_errPattern), ("virama/nfa.errStates", Rows.laid_virama_nfa_errStates), ("virama/nfa.far", Rows.laid_virama_nfa_far), ("virama/dfa.errRule", Rows.laid_virama_dfa_errRule), ("virama/dfa.errMachine", Rows.laid_virama_dfa_errMachine)]
theorem far_of_laidQ {W : World} (h : laidMetH Tryz.prog laidAQ W) : ∀ j x, j < 3 → [(2 : Int), 0, 1][j]? = some x → W.cell? ⟨8, j, none⟩ = some (.int .i64 x) := by
  intro j x hj hx
  have h1 := laidMetH.filter (fun x => x.1 == "virama/nfa.far") h
  have h2 : laidMetH Tryz.prog laidTQ W := h1
  rw [MakeChecks.laidMetH_plain _ _ _ (by kernel_rfl)] at h2
  obtain ⟨ps, ⟨g, t, cs, fuel, p, q, hg, ht, hv, hd, _, _⟩, _, _⟩ := h2
  obtain rfl := Option.some.inj (gFarQ.symm.trans hg)
  obtain rfl := Option.some.inj (gFarTypeQ.symm.trans ht)
  obtain ⟨xs, m, _, ex, _, hl, hel⟩ := DataW.trod_array Tryz.underlying267 hd
  have c5 : Tryz.prog.cellsOf 3 = 1 := by kernel_rfl
  have hlt : j < xs.length := by clear ex hd hel; omega
  have hE := hel j hj
  rw [c5, Nat.mul_one, List.getElem?_eq_getElem hlt] at hE
  obtain ⟨z, e1, e2, _⟩ := DataW.trod_int Tryz.underlying3 hE
  have e3 : .agg (xs.map (·.1)) = Rows.laid_virama_nfa_far (H := Unit) := (Prod.mk.inj ex).1.symm
  have e4 : (xs.map (·.1))[j]? = some (.lit (.int .i64 x)) := by
    have := DataW.agg.inj e3
    rw [this]
    match j, hj, hx with
    | 0, _, hx => cases hx; rfl
    | 1, _, hx => cases hx; rfl
    | 2, _, hx => cases hx; rfl
  rw [List.getElem?_map, List.getElem?_eq_getElem hlt, Option.map_some, e2] at e4
  have hz : z = x := by simpa using e4
  rw [World.var?_cell gFarQ hv j]
  have h0 : ((cs.toList.drop j).take 1)[0]? = some (.int .i64 z) := by rw [e1]; rfl
  rw [hz] at h0
  simpa using h0
theorem glob_ofQ {W : World} (h : laidMetH Tryz.prog laidAQ W) : ∃ aP aS, GlobH W aP aS := by
  have h1 := laidMetH.filter (fun x => x.1 == "virama/nfa.errPattern" || x.1 == "virama/nfa.errStates") h
  have h2 : laidMetH Tryz.prog laid2Q W := h1
  have h' : laidMet Tryz.prog laid2Q W := by rw [MakeChecks.laidMetH_plain _ _ _ (by kernel_rfl)] at h2; exact h2
  obtain ⟨a0, a1, s0, s1, c0, c1, t0, t1, hv0, hv1, hc0, hs0, hz0, hc1, hs1, hz1, hne, hb0, hb1⟩ :=
    laid_sentinels2 h' gPatQ gPatTypeQ gStaQ gStaTypeQ Tryz.underlying62 rowEQ Tryz.underlying268 Tryz.underlying288 rfl rfl Tryz.underlying9 cellsEQ cellsSQ
  have hP : W.cell? ⟨6, 0, none⟩ = some (errVQ a0) := by simpa using World.var?_cell gPatQ hv0 0
  have hS : W.cell? ⟨7, 0, none⟩ = some (errVQ a1) := by simpa using World.var?_cell gStaQ hv1 0
  have lt : ∀ {g j : Nat} {v : Value}, W.cell? ⟨g, j, none⟩ = some v → g < W.heap.size := by
    intro g j v hc
    exact World.block_lt_of_cell? W _ hc
  have f0 := far_of_laidQ h 0 2 (by decide) rfl
  have f1 := far_of_laidQ h 1 0 (by decide) rfl
  have f2 := far_of_laidQ h 2 1 (by decide) rfl
  exact ⟨a0, a1, hP, hS, hne, ⟨c0, t0, hb0⟩, ⟨c1, t1, hb1⟩, lt hP, lt hS, lt f0, f0, f1, f2⟩

theorem glob_ofD {W : World} (h : laidMetH Tryz.prog laidAQ W) : ∃ aR aM, GlobD W aR aM := by
  have h1 := laidMetH.filter (fun x => x.1 == "virama/dfa.errRule" || x.1 == "virama/dfa.errMachine") h
  have h2 : laidMetH Tryz.prog laid2D W := h1
  have h' : laidMet Tryz.prog laid2D W := by rw [MakeChecks.laidMetH_plain _ _ _ (by kernel_rfl)] at h2; exact h2
  obtain ⟨a0, a1, s0, s1, c0, c1, t0, t1, hv0, hv1, hc0, hs0, hz0, hc1, hs1, hz1, hne, hb0, hb1⟩ :=
    laid_sentinels2 h' gRulD gRulTypeD gMacD gMacTypeD Tryz.underlying62 rowEQ Tryz.underlying268 Tryz.underlying288 rfl rfl Tryz.underlying9 cellsEQ cellsSQ
  have hP : W.cell? ⟨0, 0, none⟩ = some (errVQ a0) := by simpa using World.var?_cell gRulD hv0 0
  have hS : W.cell? ⟨1, 0, none⟩ = some (errVQ a1) := by simpa using World.var?_cell gMacD hv1 0
  have lt : ∀ {g j : Nat} {v : Value}, W.cell? ⟨g, j, none⟩ = some v → g < W.heap.size := by
    intro g j v hc
    exact World.block_lt_of_cell? W _ hc
  exact ⟨a0, a1, hP, hS, hne, ⟨c0, t0, hb0⟩, ⟨c1, t1, hb1⟩, lt hP, lt hS⟩

noncomputable def lowQ : Nat := (World.holding Tryz.prog default ⟨#[], #[], []⟩).heap.size
abbrev patSQ : ByteArray := ⟨#[110, 102, 97, 58, 32, 97, 32, 112, 97, 116, 116, 101, 114, 110, 32, 116, 104, 97, 116, 32, 105, 115, 32, 110, 111, 116, 32, 114, 105, 103, 104, 116]⟩
abbrev staSQ : ByteArray := ⟨#[110, 102, 97, 58, 32, 115, 116, 97, 116, 101, 115, 32, 116, 104, 97, 116, 32, 116, 104, 101, 32, 112, 97, 116, 116, 101, 114, 110, 32, 104, 97, 115, 32, 110, 111, 116]⟩
abbrev rulSQ : ByteArray := ⟨#[100, 102, 97, 58, 32, 114, 117, 108, 101, 115, 32, 116, 104, 97, 116, 32, 97, 114, 101, 32, 110, 111, 116, 32, 114, 105, 103, 104, 116]⟩
abbrev macSQ : ByteArray := ⟨#[100, 102, 97, 58, 32, 97, 32, 109, 97, 99, 104, 105, 110, 101, 32, 116, 104, 97, 116, 32, 105, 115, 32, 110, 111, 116, 32, 114, 105, 103, 104, 116, 44, 32, 111, 114, 32, 119, 111, 117, 108, 100, 32, 104, 97, 118, 101, 32, 116, 111, 111, 32, 109, 97, 110, 121, 32, 115, 116, 97, 116, 101, 115]⟩
noncomputable def baseWorldQ (os : Os) : World :=
  let w0 := World.holding Tryz.prog os ⟨#[.cells #[.string patSQ] 288, .cells #[.string staSQ] 288, .cells #[.string rulSQ] 288, .cells #[.string macSQ] 288], #[], []⟩
  { w0 with heap := ((((w0.heap.modify 6 fun
      | .cells _ t frozen => .cells #[errVQ ⟨lowQ, 0, none⟩] t frozen
      | o => o).modify 7 fun
      | .cells _ t frozen => .cells #[errVQ ⟨lowQ + 1, 0, none⟩] t frozen
      | o => o).modify 0 fun
      | .cells _ t frozen => .cells #[errVQ ⟨lowQ + 2, 0, none⟩] t frozen
      | o => o).modify 1 fun
      | .cells _ t frozen => .cells #[errVQ ⟨lowQ + 3, 0, none⟩] t frozen
      | o => o) }
noncomputable def laidWorldQ (os : Os) : World := (baseWorldQ os).layVars Tryz.prog laidTQ
theorem laidWorld_osQ (os : Os) : (laidWorldQ os).os = os := World.layVars_os _ _ _
set_option maxRecDepth 100000 in
theorem laid_met_wQ (os : Os) (args : Array Value) : laidMet Tryz.prog laidAQ ((laidWorldQ os).forCall (fun _ _ => 0) ⟨#[], args, []⟩).memory :=
  laidMet_of_run' 8 (by kernel_rfl) (by kernel_rfl)
theorem laid_metQ (os : Os) (args : Array Value) : laidMetH Tryz.prog laidAQ ((laidWorldQ os).forCall (fun _ _ => 0) ⟨#[], args, []⟩).memory := by
  rw [MakeChecks.laidMetH_plain _ _ _ (by kernel_rfl)]
  exact laid_met_wQ os args

theorem true_postQ {H : Type} {enc : TypeId × Value → H} {f : Func} {s : ChangeSpec} {W W' : World} {args : Array Value} {ds gs : List (DataW H)} {before : List MemPlace}
    (hW : DataW.Whole enc Tryz.prog f.params.toList s.vars false W args.toList ds gs before) (hr : f.resultTypes = #[4]) (hfn : s.fn H (ds ++ gs) = { results := [.lit (.bool true)], args := ds }) (hv : s.vars = [])
    (hargs : DataW.TrodAll enc Tryz.prog W' 0 (fun b => decide (b < W.heap.size)) true f.params.toList args.toList ds before) (hb : Below W.heap.size W W') :
    s.post enc Tryz.prog f false true false false W args (.bool true) W' := by
  refine ⟨ds, gs, before, [], before, [], hW, ?_, ?_, ?_, ?_, fun h => by cases h⟩
  · rw [hr, hfn]
    exact trodAll_cons_mk (shut_bool Tryz.underlying4 _) trodAll_mk0
  · rw [hfn]
    exact hargs
  · rw [hv, hfn]
    rfl
  · exact World.keptBut_mono (fun p hp => ⟨hp, .inr (.inl hp)⟩) (hb.frame (· ∈ before))

abbrev In64K (n : Int) : Prop := -9223372036854775808 ≤ n ∧ n ≤ 9223372036854775807
theorem in64_wfQ {n : Int} (h : (Lit.int .i64 n).wf = true) : In64K n := by
  simp [Lit.wf, IntKind.min, IntKind.max, IntKind.signed, IntKind.bits] at h
  exact h
theorem list_ofQ {α : Type} {Q : Nat → α → Prop} : ∀ n : Nat, (∀ i, i < n → ∃ x, Q i x) → ∃ l : List α, l.length = n ∧ ∀ i x, l[i]? = some x → Q i x
  | 0, _ => ⟨[], rfl, fun i x h => by simp at h⟩
  | n + 1, h => by
    obtain ⟨l, hl, hq⟩ := list_ofQ n fun i hi => h i (by omega)
    obtain ⟨y, hy⟩ := h n (by omega)
    refine ⟨l ++ [y], by simp [hl], fun i x hx => ?_⟩
    rcases Nat.lt_or_ge i l.length with hi | hi
    · rw [List.getElem?_append_left hi] at hx
      exact hq i x hx
    · rw [List.getElem?_append_right hi] at hx
      have hi2 : i - l.length = 0 := by
        have := (List.getElem?_eq_some_iff.1 hx).1
        simp at this
        omega
      rw [hi2] at hx
      cases hx
      rw [show i = n from by omega]
      exact hy
theorem add_atQ2 (g off k : Nat) : (⟨g, off, none⟩ : Addr).add k = ⟨g, off + k, none⟩ := by unfold Addr.add; split <;> simp_all
theorem cellsIntQ : Tryz.prog.cellsOf 3 = 1 := by kernel_rfl
theorem cellsI64Q : Tryz.prog.cellsOf 2 = 1 := by kernel_rfl
theorem cellsBoolQ : Tryz.prog.cellsOf 4 = 1 := by kernel_rfl
theorem cellsItQ : Tryz.prog.cellsOf 86 = 2 := by kernel_rfl
theorem cellsItsQ : Tryz.prog.cellsOf 55 = 1 := by kernel_rfl
theorem cellsPatQ : Tryz.prog.cellsOf 57 = 2 := by kernel_rfl
section
variable {H : Type} {enc : TypeId × Value → H} {W : World}
theorem list2Q {α : Type} {cs : List α} (h : cs.length = 2) : ∃ c0 c1, cs = [c0, c1] := by
  match cs, h with
  | [c0, c1], _ => exact ⟨c0, c1, rfl⟩
theorem open_itQ {fuel : Nat} {cs : List Value} {x : DataW H × List MemPlace} (h : DataW.trod enc Tryz.prog W 0 (fun _ => true) true fuel 86 cs = some x) : ∃ X : ItemP, cs = [.int .i64 X.1, .int .i64 X.2] ∧ In64K X.1 ∧ In64K X.2 := by
  obtain ⟨y0, y1, n, _, hl, h0, h1⟩ := trod_struct2 Tryz.underlying86 h
  rw [cellsItQ] at hl
  obtain ⟨k0, k1, rfl⟩ := list2Q hl
  change DataW.trod enc Tryz.prog W 0 (fun _ => true) true n 2 (List.take (Tryz.prog.cellsOf 2) (List.drop 0 [k0, k1])) = _ at h0
  change DataW.trod enc Tryz.prog W 0 (fun _ => true) true n 3 (List.take (Tryz.prog.cellsOf 3) (List.drop 1 [k0, k1])) = _ at h1
  rw [cellsI64Q] at h0
  rw [cellsIntQ] at h1
  obtain ⟨a, e0, _, w0⟩ := DataW.trod_int Tryz.underlying2 h0
  obtain ⟨b, e1, _, w1⟩ := DataW.trod_int Tryz.underlying3 h1
  obtain rfl : k0 = .int .i64 a := by simpa using e0
  obtain rfl : k1 = .int .i64 b := by simpa using e1
  exact ⟨(a, b), rfl, in64_wfQ w0, in64_wfQ w1⟩
def ItsInQ (w : World) (o : Option Addr) (l : List ItemP) : Prop := AtI w o l ∧ ∀ x ∈ l, In64K x.1 ∧ In64K x.2
theorem open_itsQ {fuel : Nat} {v : Value} {x : DataW H × List MemPlace} (h : DataW.trod enc Tryz.prog W 0 (fun _ => true) true fuel 55 [v] = some x) :
    ∃ (o : Option Addr) (l : List ItemP) (cap : Nat), v = .slice o l.length cap ∧ ItsInQ W o l ∧ l.length ≤ cap := by
  rcases DataW.trod_slice Tryz.underlying55 h with ⟨hv, _⟩ | ⟨a, len, cap, elems, rest, n, _, hv, _, _, hle, hcap, hlen, hc, _, _⟩
  · obtain rfl : v = .slice none 0 0 := by simpa using hv
    exact ⟨none, [], 0, rfl, ⟨fun h => absurd h (Nat.not_lt_zero _), fun c h => by cases h⟩, Nat.le_refl _⟩
  · obtain rfl : v = .slice (some a) len cap := by simpa using hv
    have hall : ∀ i, i < len → ∃ X : ItemP, W.cell? ((a.add (i * 2)).add 0) = some (.int .i64 X.1) ∧ W.cell? ((a.add (i * 2)).add 1) = some (.int .i64 X.2) ∧ In64K X.1 ∧ In64K X.2 := fun i hi => by
      have he := hc i hi
      rw [cellsItQ, List.getElem?_eq_getElem (by omega)] at he
      obtain ⟨cs, hcs, ht⟩ := Option.bind_eq_some_iff.1 he
      obtain ⟨_, hl, hg⟩ := World.cells?_some hcs
      obtain ⟨X, rfl, h1, h2⟩ := open_itQ ht
      exact ⟨X, by rw [hg 0 (by omega)]; rfl, by rw [hg 1 (by omega)]; rfl, h1, h2⟩
    obtain ⟨rs, hrl, hrs⟩ := list_ofQ len hall
    subst hrl
    refine ⟨some a, rs, cap, rfl, ⟨fun hn => ?_, fun c hc => by obtain ⟨i, hi⟩ := List.getElem?_of_mem hc; exact ⟨(hrs i c hi).2.2.1, (hrs i c hi).2.2.2⟩⟩, by omega⟩
    have h0 := (hrs 0 _ (List.getElem?_eq_getElem hn)).1
    obtain ⟨g, off, spot⟩ := a
    have hspot : spot = none := by simpa [Addr.add] using World.cell?_spot h0
    subst hspot
    refine ⟨g, off, rfl, fun j x hx => ?_⟩
    obtain ⟨c0, c1, _⟩ := hrs j x hx
    rw [add_atQ2, add_atQ2] at c0 c1
    exact ⟨c0, c1⟩
theorem open_pat {fuel : Nat} {cs : List Value} {x : DataW H × List MemPlace} (h : DataW.trod enc Tryz.prog W 0 (fun _ => true) true fuel 57 cs = some x) :
    ∃ (st : Bool) (o : Option Addr) (xs : List ItemP) (cap : Nat), cs = [.bool st, .slice o xs.length cap] ∧ ItsInQ W o xs ∧ xs.length ≤ cap := by
  obtain ⟨y0, y1, n, _, hl, h0, h1⟩ := trod_struct2 Tryz.underlying57 h
  rw [cellsPatQ] at hl
  obtain ⟨k0, k1, rfl⟩ := list2Q hl
  change DataW.trod enc Tryz.prog W 0 (fun _ => true) true n 4 (List.take (Tryz.prog.cellsOf 4) (List.drop 0 [k0, k1])) = _ at h0
  change DataW.trod enc Tryz.prog W 0 (fun _ => true) true n 55 (List.take (Tryz.prog.cellsOf 55) (List.drop 1 [k0, k1])) = _ at h1
  rw [cellsBoolQ] at h0
  rw [cellsItsQ] at h1
  obtain ⟨st, e0, _⟩ := DataW.trod_bool Tryz.underlying4 h0
  obtain rfl : k0 = .bool st := by simpa using e0
  obtain ⟨o, xs, cap, rfl, hI, hc⟩ := open_itsQ (v := k1) h1
  exact ⟨st, o, xs, cap, rfl, hI, hc⟩
end

theorem cellsRulJ : Tryz.prog.cellsOf 59 = 5 := by kernel_rfl
theorem list5J {α : Type} {cs : List α} (h : cs.length = 5) : ∃ c0 c1 c2 c3 c4, cs = [c0, c1, c2, c3, c4] := by
  match cs, h with
  | [c0, c1, c2, c3, c4], _ => exact ⟨c0, c1, c2, c3, c4, rfl⟩
section
variable {H : Type} {enc : TypeId × Value → H} {W : World}
theorem trod3J {P : Program} {t : TypeId} {f0 f1 f2 : Field} {base : Nat} {spare : Nat → Bool} {held : Bool} {fuel : Nat} {cs : List Value} {x : DataW H × List MemPlace} (ht : P.underlying t = some (.struct #[f0, f1, f2])) (h : DataW.trod enc P W base spare held fuel t cs = some x) :
    ∃ y0 y1 y2 n, cs.length = P.cellsOf t ∧ DataW.trod enc P W base spare held n f0.type ((cs.drop f0.offset).take (P.cellsOf f0.type)) = some y0 ∧
      DataW.trod enc P W base spare held n f1.type ((cs.drop f1.offset).take (P.cellsOf f1.type)) = some y1 ∧ DataW.trod enc P W base spare held n f2.type ((cs.drop f2.offset).take (P.cellsOf f2.type)) = some y2 := by
  obtain ⟨xs, n, _, rfl, hl, hlen, hf⟩ := DataW.trod_struct ht h
  match xs, hlen with
  | [y0, y1, y2], _ => exact ⟨y0, y1, y2, n, hl, by simpa using hf 0 f0 rfl, by simpa using hf 1 f1 rfl, by simpa using hf 2 f2 rfl⟩
def RulIn (w : World) (X : RulX) : Prop := (ItsInQ w X.1.2.1 X.1.2.2.1 ∧ X.1.2.2.1.length ≤ X.1.2.2.2) ∧ ItsInQ w X.2.1.2.1 X.2.1.2.2.1 ∧ X.2.1.2.2.1.length ≤ X.2.1.2.2.2
theorem open_rulJ {fuel : Nat} {cs : List Value} {x : DataW H × List MemPlace} (h : DataW.trod enc Tryz.prog W 0 (fun _ => true) true fuel 59 cs = some x) : ∃ X : RulX, cs = (rulC X).toList ∧ RulIn W X := by
  obtain ⟨y0, y1, y2, n, hl, h0, h1, h2⟩ := trod3J Tryz.underlying59 h
  rw [cellsRulJ] at hl
  obtain ⟨k0, k1, k2, k3, k4, rfl⟩ := list5J hl
  change DataW.trod enc Tryz.prog W 0 (fun _ => true) true n 57 (List.take (Tryz.prog.cellsOf 57) (List.drop 0 [k0, k1, k2, k3, k4])) = _ at h0
  change DataW.trod enc Tryz.prog W 0 (fun _ => true) true n 57 (List.take (Tryz.prog.cellsOf 57) (List.drop 2 [k0, k1, k2, k3, k4])) = _ at h1
  change DataW.trod enc Tryz.prog W 0 (fun _ => true) true n 4 (List.take (Tryz.prog.cellsOf 4) (List.drop 4 [k0, k1, k2, k3, k4])) = _ at h2
  rw [cellsPatQ] at h0 h1
  rw [cellsBoolQ] at h2
  obtain ⟨s1, o1, xs1, c1, e1, i1, l1⟩ := open_pat h0
  obtain ⟨s2, o2, xs2, c2, e2, i2, l2⟩ := open_pat h1
  obtain ⟨br, e3, _⟩ := DataW.trod_bool Tryz.underlying4 h2
  have e1' : k0 = .bool s1 ∧ k1 = .slice o1 xs1.length c1 := by simpa using e1
  have e2' : k2 = .bool s2 ∧ k3 = .slice o2 xs2.length c2 := by simpa using e2
  have e3' : k4 = .bool br := by simpa using e3
  obtain ⟨rfl, rfl⟩ := e1'
  obtain ⟨rfl, rfl⟩ := e2'
  obtain rfl := e3'
  exact ⟨((s1, o1, xs1, c1), (s2, o2, xs2, c2), br), rfl, ⟨i1, l1⟩, i2, l2⟩
theorem open_rulsJ {fuel : Nat} {v : Value} {x : DataW H × List MemPlace} (h : DataW.trod enc Tryz.prog W 0 (fun _ => true) true fuel 22 [v] = some x) :
    ∃ (o : Option Addr) (l : List RulX) (cap : Nat), v = .slice o l.length cap ∧ (AtC W o l ∧ ItsC W l) ∧ l.length ≤ cap := by
  rcases DataW.trod_slice Tryz.underlying22 h with ⟨hv, _⟩ | ⟨a, len, cap, elems, rest, n, _, hv, _, _, hle, hcap, hlen, hc, _, _⟩
  · obtain rfl : v = .slice none 0 0 := by simpa using hv
    exact ⟨none, [], 0, rfl, ⟨fun h => absurd h (Nat.not_lt_zero _), fun c h => by cases h⟩, Nat.le_refl _⟩
  · obtain rfl : v = .slice (some a) len cap := by simpa using hv
    have hall : ∀ i, i < len → ∃ X : RulX, (W.cell? ((a.add (i * 5)).add 0) = some (.bool X.1.1) ∧ W.cell? ((a.add (i * 5)).add 1) = some (.slice X.1.2.1 X.1.2.2.1.length X.1.2.2.2) ∧ W.cell? ((a.add (i * 5)).add 2) = some (.bool X.2.1.1) ∧
        W.cell? ((a.add (i * 5)).add 3) = some (.slice X.2.1.2.1 X.2.1.2.2.1.length X.2.1.2.2.2) ∧ W.cell? ((a.add (i * 5)).add 4) = some (.bool X.2.2)) ∧ RulIn W X := fun i hi => by
      have he := hc i hi
      rw [cellsRulJ, List.getElem?_eq_getElem (by omega)] at he
      obtain ⟨cs, hcs, ht⟩ := Option.bind_eq_some_iff.1 he
      obtain ⟨_, hl, hg⟩ := World.cells?_some hcs
      obtain ⟨X, rfl, h1⟩ := open_rulJ ht
      exact ⟨X, ⟨by rw [hg 0 (by omega)]; rfl, by rw [hg 1 (by omega)]; rfl, by rw [hg 2 (by omega)]; rfl, by rw [hg 3 (by omega)]; rfl, by rw [hg 4 (by omega)]; rfl⟩, h1⟩
    obtain ⟨rs, hrl, hrs⟩ := list_ofQ len hall
    subst hrl
    refine ⟨some a, rs, cap, rfl, ⟨fun hn => ?_, fun c hc => by
      obtain ⟨i, hi⟩ := List.getElem?_of_mem hc
      obtain ⟨⟨i1, l1⟩, i2, l2⟩ := (hrs i c hi).2
      exact ⟨⟨i1.1, l1⟩, i2.1, l2⟩⟩, by omega⟩
    have h0 := (hrs 0 _ (List.getElem?_eq_getElem hn)).1.1
    obtain ⟨g, off, spot⟩ := a
    have hspot : spot = none := by simpa [Addr.add] using World.cell?_spot h0
    subst hspot
    refine ⟨g, off, rfl, fun j x hx => ?_⟩
    obtain ⟨⟨c0, c1, c2, c3, c4⟩, _⟩ := hrs j x hx
    rw [add_atQ2, add_atQ2] at c0 c1 c2 c3 c4
    exact ⟨c0, c1, c2, c3, c4⟩
end
end Go.Proofs.YtaoooocalpkhjaaGreatDoor
