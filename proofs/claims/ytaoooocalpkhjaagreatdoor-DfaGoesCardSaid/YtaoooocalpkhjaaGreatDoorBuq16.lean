/- Shaken by bunq.py. -/
import Derived.Test.YtaoooocalpkhjaaGreatDoorBuq14
import Derived.Test.YtaoooocalpkhjaaGreatDoorBuq15
import Derived.Test.YtaoooocalpkhjaaGreatDoorBuq9
import Derived.BigQuiet
import Derived.Test.YtaoooocalpkhjaaGreatDoorBuq13
import Derived.Test.YtaoooocalpkhjaaGreatDoorBuq12
namespace Go.Proofs.YtaoooocalpkhjaaGreatDoor
open Go.RowKit Go.Shelf Go.Maps
attribute [local go_sem] Oper.semAt_some
attribute [local go_sem ↓] app_hide

def BolD (W : World) (g n : Nat) (f : Nat → Bool) : Prop := ∃ cur : Array Value, W.heap[g]? = some (.cells cur 4 (0, 0)) ∧ ∀ p, p < n → cur[p]? = some (.bool (f p))
theorem BolD.cell {W : World} {g n : Nat} {f : Nat → Bool} (h : BolD W g n f) {p : Nat} (hp : p < n) : W.cell? ⟨g, p, none⟩ = some (.bool (f p)) := by
  obtain ⟨cur, hg, hc⟩ := h
  rw [cell_of_row _ _ p _ _ _ hg]
  exact hc p hp
theorem BolD.frozen {W : World} {g n : Nat} {f : Nat → Bool} (h : BolD W g n f) (p : Nat) : W.frozen? ⟨g, p, none⟩ = false := by
  obtain ⟨cur, hg, _⟩ := h
  exact frozen_of_row _ _ _ _ _ hg
theorem BolD.lt {W : World} {g n : Nat} {f : Nat → Bool} (h : BolD W g n f) : g < W.heap.size := by
  obtain ⟨cur, hg, _⟩ := h
  exact (Array.getElem?_eq_some_iff.1 hg).1
theorem BolD.keep {S : Nat → Prop} {W W' : World} {g n : Nat} {f : Nat → Bool} (h : BolD W g n f) (hm : Moves S W W') (hs : ¬ S g) : BolD W' g n f := by
  obtain ⟨cur, hg, hc⟩ := h
  exact ⟨cur, row_keep hg hm hs, hc⟩
theorem BolD.ext {W : World} {g n : Nat} {f f' : Nat → Bool} (h : BolD W g n f) (he : ∀ p, p < n → f p = f' p) : BolD W g n f' := by
  obtain ⟨cur, hg, hc⟩ := h
  exact ⟨cur, hg, fun p hp => by rw [hc p hp, he p hp]⟩
theorem BolD.set {W : World} {g n : Nat} {f : Nat → Bool} (h : BolD W g n f) (p : Nat) (b : Bool) (hp : p < n) : BolD (W.setCell ⟨g, p, none⟩ (.bool b)) g n (fun q => if q = p then b else f q) := by
  obtain ⟨cur, hg, hc⟩ := h
  refine ⟨_, heap_setCell_same _ _ _ _ _ _ hg, fun q hq => ?_⟩
  have hlt := (Array.getElem?_eq_some_iff.1 (hc p hp)).1
  rw [Array.getElem?_setIfInBounds]
  by_cases h2 : p = q
  · subst h2
    rw [if_pos rfl, if_pos hlt]
    simp
  · rw [if_neg h2, hc q hq]
    show _ = some (Value.bool (if q = p then b else f q))
    rw [if_neg (fun e : q = p => h2 e.symm)]
theorem infoBolD : (Tryz.prog.info? 4).map (fun i => (i.zero, i.size, i.bytes)) = some (some (.bool false), 1, 1) := by kernel_rfl
theorem makeBD (w : World) (n : Nat) (hn : n ≤ 100000) : ∃ o, (Instr.makeSlice 83 (.int .i64 ((n : Nat) : Int)) (.int .i64 ((n : Nat) : Int))).run Tryz.prog w = .ok (.slice (some ⟨w.heap.size, 0, none⟩) n n) (w.alloc o) ∧ BolD (w.alloc o) w.heap.size n fun _ => false := by
  obtain ⟨i0, hi0, hz0, hz1, hz2⟩ := info_parts infoBolD
  have := run_makeSlice (P := Tryz.prog) w 83 4 i0 (.bool false) Tryz.underlying83 hi0 hz0 .i64 .i64 ((n : Nat) : Int) ((n : Nat) : Int) (by omega) (by omega) (by rw [hz1]; omega) (by rw [hz2]; omega) (by omega)
  rw [hz1, show (((n : Nat) : Int)).toNat = n from by omega] at this
  refine ⟨_, this, _, heap_alloc_new _ _, fun p hp => ?_⟩
  have hc : (Value.bool false).cells = #[.bool false] := rfl
  rw [hc]
  unfold madeCells
  rw [Array.getElem?_map, Array.getElem?_range, if_pos (by omega)]
  simp [Nat.mod_one]
theorem range_filter {p : Nat → Bool} (i : Nat) : (List.range (i + 1)).filter p = (List.range i).filter p ++ (if p i = true then [i] else []) := by
  rw [List.range_succ, List.filter_append, List.filter_cons]
  split <;> simp
theorem met_in {R : List (List Int)} {n q s v : Nat} (h : (metN R n q)[q / (n + 1)]? = some s) (hv : wayN R s (q % (n + 1)) = v) : (v ∈ metN R n q → metN R n (q + 1) = metN R n q) ∧ (v ∉ metN R n q → metN R n (q + 1) = metN R n q ++ [v]) := by
  have := met_next h
  rw [hv] at this
  exact ⟨fun hm => by rw [this, if_pos hm], fun hm => by rw [this, if_neg hm]⟩
theorem met_over {R : List (List Int)} {n i : Nat} (hi : i ≤ 300) (h : (metN R n (i * (n + 1))).length = i) : metN R n (i * (n + 1)) = finN R n := by
  have hQ : i * (n + 1) ≤ 300 * (n + 1) := Nat.mul_le_mul_right _ hi
  have hnl : ¬ liveN R n (i * (n + 1)) := by
    unfold liveN
    rw [Nat.mul_div_cancel _ (by omega)]
    omega
  exact (met_stop hnl hQ).symm
structure RefRN (W2 : World) (R : List (List Int)) (n q k G0 : Nat) (to : Option Addr) (tc : Nat) (W : World) : Prop where
  own : W.ownsRow (W2.heap.size + 1) 3 1 (.slice to (metN R n k).length tc) (metN R n k).length (intsV (metN R n k))
  bol : BolD W G0 q fun s => decide (s ∈ metN R n k)
  bel : Below W2.heap.size W2 W
theorem RefRN.below {W2 W W' : World} {R : List (List Int)} {n q k G0 : Nat} {to : Option Addr} {tc : Nat} (h : RefRN W2 R n q k G0 to tc W) (hb : Below W.heap.size W W') : RefRN W2 R n q k G0 to tc W' :=
  ⟨own_below h.own hb, h.bol.keep (S := fun _ => False) (Moves.of_below hb) id, h.bel.trans (hb.mono h.bel.size)⟩
theorem RefRN.old {W2 W : World} {R : List (List Int)} {n q k G0 : Nat} {to : Option Addr} {tc : Nat} (h : RefRN W2 R n q k G0 to tc W) (he : metN R n (k + 1) = metN R n k) : RefRN W2 R n q (k + 1) G0 to tc W := by
  refine ⟨?_, ?_, h.bel⟩
  · rw [he]; exact h.own
  · rw [he]; exact h.bol
theorem RefRN.new {W2 W : World} {R : List (List Int)} {n q k v : Nat} {to : Option Addr} {tc : Nat} (h : RefRN W2 R n q k W2.heap.size to tc W) (hv : v < q) (he : metN R n (k + 1) = metN R n k ++ [v]) (hl : (metN R n k).length ≤ 2000) (h1 : W2.heap.size < W.heap.size) :
    W.frozen? ⟨W2.heap.size, v, none⟩ = false ∧ W2.heap.size < W.heap.size ∧
    ∃ g cap w6, (appSem #[34, 34] 34 #[.slice to (metN R n k).length tc, .slice (some ⟨W.heap.size, 0, none⟩) 1 1]).run Tryz.prog ((W.setCell ⟨W2.heap.size, v, none⟩ (.bool true)).alloc (.cells #[.int .i64 ((v : Nat) : Int)] 3)) = .ok (.slice (some ⟨g, 0, none⟩) ((metN R n k).length + 1) cap) w6 ∧ RefRN W2 R n q (k + 1) W2.heap.size (some ⟨g, 0, none⟩) cap w6 := by
  refine ⟨h.bol.frozen v, h1, ?_⟩
  have ms : Moves (fun k => k = W2.heap.size) W (W.setCell ⟨W2.heap.size, v, none⟩ (.bool true)) := Moves.setCell rfl
  have zs : (W.setCell ⟨W2.heap.size, v, none⟩ (.bool true)).heap.size = W.heap.size := by simp [World.setCell]
  have ho := own_movesH h.own ms fun k hk e => by have := own_rowD' h.own hk; omega
  obtain ⟨g, cap, w6, k1, k2, k3, k4⟩ := app_int _ (W2.heap.size + 1) (metN R n k).length (.slice to (metN R n k).length tc) (intsV (metN R n k)) (.int .i64 ((v : Nat) : Int)) ⟨_, rfl⟩ ho (by omega) (by rw [zs]; omega)
  rw [zs] at k1
  have a1 : Below (W.setCell ⟨W2.heap.size, v, none⟩ (.bool true)).heap.size (W.setCell ⟨W2.heap.size, v, none⟩ (.bool true)) ((W.setCell ⟨W2.heap.size, v, none⟩ (.bool true)).alloc (.cells #[.int .i64 ((v : Nat) : Int)] 3)) := (Below.refl _ _).alloc (Nat.le_refl _) _
  have m6 : Moves (fun j => (Value.slice to (metN R n k).length tc).ownBlock = some j) (W.setCell ⟨W2.heap.size, v, none⟩ (.bool true)) w6 := (Moves.of_below a1).trans (moves_grownH k3)
  refine ⟨g, cap, w6, k1, ?_, ?_, ?_⟩
  · rw [he, List.length_append, List.length_singleton, intsV_snoc]
    exact k2
  · refine ((h.bol.set v true hv).keep m6 fun e => by have := own_rowD' ho e; omega).ext fun s _ => ?_
    rw [he]
    by_cases e : s = v
    · rw [if_pos e, e, decide_eq_true (by simp)]
    · rw [if_neg e]
      exact decide_eq_decide.2 ⟨fun h => List.mem_append_left _ h, fun h => by
        rcases List.mem_append.1 h with h | h
        · exact h
        · exact absurd (List.mem_singleton.1 h) e⟩
  · have mm := (ms.mono (T := fun k => W2.heap.size ≤ k) fun k hk => by omega).trans (m6.mono fun k hk => by have := own_rowD' ho hk; omega)
    exact Moves.below h.bel h.bel.size mm fun k hk => hk
theorem ref_startN {W2 : World} {R : List (List Int)} {n q : Nat} {o : Obj} (hq : 1 ≤ q) (hb : BolD (W2.alloc o) W2.heap.size q fun _ => false) :
    RefRN W2 R n q 0 W2.heap.size (some ⟨W2.heap.size + 1, 0, none⟩) 1 (((W2.alloc o).setCell ⟨W2.heap.size, 0, none⟩ (.bool true)).alloc (.cells #[.int .i64 0] 3)) ∧ (W2.alloc o).frozen? ⟨W2.heap.size, 0, none⟩ = false ∧ (W2.alloc o).cell? ⟨W2.heap.size, 0, none⟩ = some (.bool false) ∧ W2.heap.size < (W2.alloc o).heap.size := by
  have b1 : Below W2.heap.size W2 (W2.alloc o) := (Below.refl _ _).alloc (Nat.le_refl _) _
  have z1 : (W2.alloc o).heap.size = W2.heap.size + 1 := by simp
  have ms : Moves (fun k => k = W2.heap.size) (W2.alloc o) ((W2.alloc o).setCell ⟨W2.heap.size, 0, none⟩ (.bool true)) := Moves.setCell rfl
  have zs : ((W2.alloc o).setCell ⟨W2.heap.size, 0, none⟩ (.bool true)).heap.size = W2.heap.size + 1 := by simp [World.setCell]
  have b3 : Below ((W2.alloc o).setCell ⟨W2.heap.size, 0, none⟩ (.bool true)).heap.size ((W2.alloc o).setCell ⟨W2.heap.size, 0, none⟩ (.bool true)) (((W2.alloc o).setCell ⟨W2.heap.size, 0, none⟩ (.bool true)).alloc (.cells #[.int .i64 0] 3)) := (Below.refl _ _).alloc (Nat.le_refl _) _
  have ho := own_oneD (w := (W2.alloc o).setCell ⟨W2.heap.size, 0, none⟩ (.bool true)) (e := 3) (.int .i64 0) (base := W2.heap.size + 1) (by omega)
  rw [zs] at ho
  have hb0 : Below W2.heap.size W2 ((W2.alloc o).setCell ⟨W2.heap.size, 0, none⟩ (.bool true)) := Moves.below b1 (by omega) ms fun k hk => by omega
  refine ⟨⟨ho, ((hb.set 0 true hq).keep (S := fun _ => False) (Moves.of_below b3) id).ext fun s _ => ?_, hb0.trans (b3.mono (by omega))⟩, hb.frozen 0, hb.cell hq, by omega⟩
  show (if s = 0 then true else false) = decide (s ∈ [0])
  by_cases e : s = 0
  · rw [if_pos e, e]; rfl
  · rw [if_neg e, decide_eq_false (by simpa using e)]
end Go.Proofs.YtaoooocalpkhjaaGreatDoor
namespace Go.Proofs.YtaoooocalpkhjaaGreatDoor
open Go.RowKit Go.Shelf Go.Maps
attribute [local go_sem] Oper.semAt_some
attribute [local go_sem ↓] app_hide

set_option maxRecDepth 100000 in
set_option maxHeartbeats 8000000 in
theorem refReached_right (m : MachX) (n : Nat) (hB : m.B (n : Nat) = true) (w : World) (hM : MachD w m) :
    Calls Tryz.prog 21 #[m.v, .int .i64 (n : Nat)] w (RchdQ (reachL (m.rows.map (·.2.1)) n) (.int .i64 0) w) := by
  have hBB : machB (m.rows.map (·.2.1)) m.fits ((n : Nat) : Int) = true := hB
  obtain ⟨h1n, h32n, h1q, h300, hrf, _, _⟩ := machB_parts hBB
  obtain ⟨P, hP⟩ : ∃ P, RchdQ (reachL (m.rows.map (·.2.1)) n) (.int .i64 0) w = P := ⟨_, rfl⟩
  have HPQ : Hid (∀ (W : World) (ro : Option Addr) (rl rc base : Nat), (reachL (m.rows.map (·.2.1)) n).length = rl → W.ownsRow base 3 1 (.slice ro rl rc) rl (intsV (reachL (m.rows.map (·.2.1)) n)) → Below w.heap.size w W → P (.returned (.tuple #[.slice ro rl rc, .int .i64 0])) W) := Lib.hid fun W ro rl rc base e ho hb => by
    rw [← hP]
    subst e
    exact ⟨ro, rc, rfl, nums_ownN ho, hb⟩
  rw [hP]
  obtain ⟨w1, hw1⟩ : ∃ w1, w.alloc (.cells #[.slice m.no m.rows.length m.nc, .slice m.fo m.fits.length m.fc] 28) = w1 := ⟨_, rfl⟩
  have b1 : Below w.heap.size w w1 := by rw [← hw1]; exact (Below.refl _ _).alloc (Nat.le_refl _) _
  have r1 : w1.heap[w.heap.size]? = some (.cells #[.slice m.no m.rows.length m.nc, .slice m.fo m.fits.length m.fc] 28 (0, 0)) := by rw [← hw1]; exact heap_alloc_new _ _
  have HRG := refRight12_any m ((n : Nat) : Int) (by rw [List.length_map] at h300; omega) (by rw [List.length_map] at hrf h300; omega) w1 (hM.below b1)
  rw [hB] at HRG
  have HROW := Lib.hid hM.rows
  have HNUM := Lib.hid hM.row
  have HR1 := Lib.hid r1
  have HB1 := Lib.hid b1
  obtain ⟨no, rows, nc, fo, fits, fc⟩ := m
  obtain ⟨RR, hRR⟩ : ∃ RR, rows.map (·.2.1) = RR := ⟨_, rfl⟩
  simp only at HPQ HROW HNUM hBB HR1 hw1 h1q h300 hrf ⊢
  rw [hRR] at HPQ hBB h1q h300 hrf
  have HRR := Lib.hid hRR
  obtain ⟨q, hq⟩ : ∃ q, rows.length = q := ⟨_, rfl⟩
  obtain ⟨f, hf⟩ : ∃ q, fits.length = q := ⟨_, rfl⟩
  have hRl : RR.length = q := by rw [← hRR, List.length_map, hq]
  rw [hRl] at h1q h300
  have HRL := Lib.hid hRl
  have HQ := Lib.hid hq
  have HBB := Lib.hid hBB
  simp only [MachX.v, hq, hf] at HRG HR1 hw1 ⊢
  have HRG := Lib.hid HRG
  have HW1 := Lib.hid hw1
  have HN32 := Lib.hid h32n
  obtain ⟨c0, c1⟩ := mac_cells HR1.out
  have l1 := World.block_lt_of_cell? w1 _ c0
  clear hP hB hBB hM hRR hq hf hw1 b1 r1 hRl hrf h1n h32n
  go_enter Tryz.func21, Tryz.ntmps21
  go_wp2_with fail
  rw [HW1.out]
  refine HRG.out.mono ?_
  rintro e w2 ⟨rfl, b2⟩
  have HB2 := Lib.hid (HB1.out.trans (b2.mono HB1.out.size))
  have r2 := row_below HR1.out b2
  obtain ⟨c0, c1⟩ := mac_cells r2
  have l2 := World.block_lt_of_cell? w2 _ c0
  obtain ⟨ob, hmk, hbol⟩ := makeBD w2 q (by omega)
  obtain ⟨hI0, hfz, hcl, hlt⟩ := ref_startN (R := RR) (n := n) h1q hbol
  obtain ⟨W3, hW3⟩ : ∃ W3, ((w2.alloc ob).setCell ⟨w2.heap.size, 0, none⟩ (.bool true)).alloc (.cells #[.int .i64 0] 3) = W3 := ⟨_, rfl⟩
  rw [hW3] at hI0
  have HI0 := Lib.hid hI0
  have HW3 := Lib.hid hW3
  have HR2 := Lib.hid r2
  clear hI0 hW3 b2 r2 HRG HR1 hbol
  go_wp2_with fail
  rw [HW3.out]
  clear hmk hfz hcl hlt c0 c1 l2 l1
  have HREST : Hid (∀ W, Below w2.heap.size w2 W → Below w.heap.size w W ∧ W.heap[w.heap.size]? = some (.cells #[.slice no q nc, .slice fo f fc] 28 (0, 0))) := Lib.hid fun W hb => ⟨HB2.out.trans (hb.mono HB2.out.size), row_below HR2.out hb⟩
  go_loopg [7, 8] q (fun d v7 v8 wr => ∃ (i : Nat) (to : Option Addr) (tl tc : Nat), v8 = .int .i64 (i : Nat) ∧ v7 = .slice to tl tc ∧ i ≤ tl ∧ tl ≤ q ∧ d = q - i ∧ Hid ((metN RR n (i * (n + 1))).length = tl) ∧ Hid (RefRN w2 RR n q (i * (n + 1)) w2.heap.size to tc wr))
  case atStart => exact ⟨0, _, 1, 1, rfl, rfl, by omega, h1q, rfl, Lib.hid (by rw [Nat.zero_mul]; rfl), Lib.hid (by rw [Nat.zero_mul]; exact HI0.out)⟩
  case round =>
    obtain ⟨i, to, tl, tc, rfl, rfl, hit, htq, rfl, HTL, HI⟩ := hrel
    obtain ⟨WQ, rfl⟩ : ∃ W, W = wr := ⟨_, rfl⟩
    rcases Nat.lt_or_ge i tl with hlt | hge
    · have him : i < 1000000 := by omega
      have d1 : decide (((i : Nat) : Int) < ((tl : Nat) : Int)) = true := decide_eq_true (by omega)
      go_wp2_with fail
      go_loopg [7, 9] (n + 1) (fun d v7 v9 wq => ∃ (c : Nat) (to : Option Addr) (tl tc : Nat), v9 = .int .i64 (c : Nat) ∧ v7 = .slice to tl tc ∧ c ≤ n + 1 ∧ i < tl ∧ tl ≤ q ∧ d = n + 1 - c ∧ Hid ((metN RR n (i * (n + 1) + c)).length = tl) ∧ Hid (RefRN w2 RR n q (i * (n + 1) + c) w2.heap.size to tc wq))
      case atStart => exact ⟨0, to, tl, tc, rfl, rfl, by omega, hlt, htq, rfl, HTL, HI⟩
      case round =>
        clear HTL HI d1
        obtain ⟨c, to, tl, tc, rfl, rfl, hc, hit2, htq2, rfl, HTL, HI⟩ := hrel
        rcases Nat.lt_or_ge n c with hgc | hlc
        · obtain rfl : c = n + 1 := by omega
          have dc : decide (((n : Nat) : Int) + 1 ≤ ((n : Nat) : Int)) = false := decide_eq_false (by omega)
          have dc2 : decide ((((n + 1 : Nat)) : Int) ≤ ((n : Nat) : Int)) = false := decide_eq_false (by omega)
          have hq2 : (i + 1) * (n + 1) = i * (n + 1) + (n + 1) := Nat.succ_mul _ _
          go_wp2_with fail
          go_roundg (q - (i + 1))
          case measure => omega
          case rel => exact ⟨i + 1, to, tl, tc, by simp, rfl, by omega, htq2, rfl, Lib.hid (by rw [hq2]; exact HTL.out), Lib.hid (by rw [hq2]; exact HI.out)⟩
        · have dc : decide (((c : Nat) : Int) ≤ ((n : Nat) : Int)) = true := decide_eq_true (by omega)
          have hc1 : c < 1000000 := by have := HN32.out; omega
          obtain ⟨hp, hm⟩ := place_next (i := i) hlc
          obtain ⟨s, hs⟩ : ∃ s, (metN RR n (i * (n + 1) + c))[i]? = some s := ⟨_, List.getElem?_eq_getElem (by rw [HTL.out]; exact hit2)⟩
          have hsq := met_lt HBB.out _ s (List.mem_of_getElem? hs)
          obtain ⟨r, v, hr, hrl, hrc, hv, hvq⟩ := way_ltN HBB.out hsq hlc
          rw [HRL.out] at hsq hvq
          have hmi := met_in (R := RR) (n := n) (q := i * (n + 1) + c) (s := s) (v := v) (by rw [hp]; exact hs) (by rw [hm]; exact hv)
          have HMI := Lib.hid hmi
          have HVQ := Lib.hid hvq
          obtain ⟨hbw, hrow⟩ := HREST.out _ HI.out.bel
          obtain ⟨p0, p1⟩ := mac_cells hrow
          have lp := World.block_lt_of_cell? _ _ p0
          have hno := nums_ownN HI.out.own
          obtain ⟨gt, offt, hto, hct⟩ := hno (by rw [List.length_map, HTL.out]; omega)
          subst hto
          have k0 := hct i ((s : Nat) : Int) (by rw [List.getElem?_map, hs]; rfl)
          have lgt := World.block_lt_of_cell? _ _ k0
          obtain ⟨x, hx⟩ : ∃ x, rows[s]? = some x := ⟨_, List.getElem?_eq_getElem (by rw [HQ.out]; exact hsq)⟩
          have hrx : x.2.1 = r := by
            have e : RR[s]? = some x.2.1 := by rw [← HRR.out, List.getElem?_map, hx]; rfl
            rw [hr] at e
            exact (Option.some.inj e).symm
          obtain ⟨g, off, rfl, hcr⟩ := HROW.out (by rw [HQ.out]; omega)
          have k1 := cell_keepQ hbw (hcr s x hx)
          have lg := World.block_lt_of_cell? _ _ k1
          have hnx := HNUM.out x (List.mem_of_getElem? hx)
          obtain ⟨xo, xl, xc⟩ := x
          replace hrx : xl = r := hrx
          subst hrx
          obtain ⟨g2, off2, he2, hc2⟩ := hnx (by show 0 < xl.length; omega)
          replace he2 : xo = some ⟨g2, off2, none⟩ := he2
          subst he2
          have k2 := cell_keepQ hbw (hc2 c _ hrc)
          have lg2 := World.block_lt_of_cell? _ _ k2
          simp only [hrl] at k1
          have hs1 : s < 1000000 := by omega
          have hsn : s < q := hsq
          have hil : c < n + 1 := by omega
          have HTLL := Lib.hid hit2
          clear hp hm hs hr hrl hrc hv hmi hrow hno hct hx hcr hnx hc2 hbw hvq
          go_wp2_with fail
          go_quiet (fail)
          have hbd := below_drewD1 wr nq
          obtain ⟨W5, hW5⟩ : ∃ W5, wr.drewN nq = W5 := ⟨_, rfl⟩
          rw [hW5] at hbd ⊢
          have hI5 := HI.out.below hbd
          have hz5 : w2.heap.size < W5.heap.size := hI5.bol.lt
          have hv1 : v < q := HVQ.out
          have kb := hI5.bol.cell hv1
          clear hW5 hbd k0 k1 k2 p0 p1 lp lgt lg lg2 HI
          by_cases hmm : v ∈ metN RR n (i * (n + 1) + c)
          · rw [decide_eq_true hmm] at kb
            have he := HMI.out.1 hmm
            have HI6 := Lib.hid (hI5.old he)
            have HT6 : Hid ((metN RR n (i * (n + 1) + (c + 1))).length = tl) := Lib.hid (by show (metN RR n (i * (n + 1) + c + 1)).length = tl; rw [he]; exact HTL.out)
            clear hI5 hmm he
            go_wp2_with fail
            go_roundg (n + 1 - (c + 1))
            case measure => omega
            case rel => exact ⟨c + 1, _, tl, tc, by simp, rfl, by omega, hit2, htq2, rfl, HT6, HI6⟩
          · rw [decide_eq_false hmm] at kb
            have he := HMI.out.2 hmm
            have htl := HTL.out
            obtain ⟨f1, _, g6, cap6, w6, hr6, hI6⟩ := hI5.new hv1 he (by omega) hz5
            rw [htl] at hr6
            have HI6 := Lib.hid hI6
            have hl6 : (metN RR n (i * (n + 1) + (c + 1))).length = tl + 1 := by show (metN RR n (i * (n + 1) + c + 1)).length = tl + 1; rw [he, List.length_append, htl]; rfl
            have hle := met_le HBB.out (i * (n + 1) + (c + 1))
            rw [hl6, HRL.out] at hle
            have HT6 := Lib.hid hl6
            clear hI5 hI6 hmm he htl hl6
            go_wp2_with fail
            go_roundg (n + 1 - (c + 1))
            case measure => omega
            case rel => exact ⟨c + 1, _, tl + 1, cap6, by simp, rfl, by omega, by omega, hle, rfl, HT6, HI6⟩
    · obtain rfl : i = tl := by omega
      have d1 : decide (((i : Nat) : Int) < ((i : Nat) : Int)) = false := decide_eq_false (by omega)
      have hov := met_over (R := RR) (n := n) (i := i) (by omega) HTL.out
      have hb0 := HI.out.bol
      rw [hov] at hb0
      have HBL := Lib.hid hb0
      have HBW := Lib.hid HI.out.bel
      clear hb0 hov HI HTL HROW HNUM
      go_wp2_with fail
      go_loopg [11, 12] q (fun d v11 v12 wq => ∃ (j : Nat) (ro : Option Addr) (rl rc : Nat), v12 = .int .i64 (j : Nat) ∧ v11 = .slice ro rl rc ∧ j ≤ q ∧ rl ≤ j ∧ d = q - j ∧ Hid (((List.range j).filter fun s => decide (s ∈ finN RR n)).length = rl) ∧ Hid (wq.ownsRow WQ.heap.size 3 1 (.slice ro rl rc) rl (intsV ((List.range j).filter fun s => decide (s ∈ finN RR n)))) ∧ Hid (Below WQ.heap.size WQ wq))
      case atStart => exact ⟨0, none, 0, 0, rfl, rfl, Nat.zero_le _, Nat.le_refl _, rfl, Lib.hid rfl, Lib.hid (World.ownsRow_nil _ _ _ _), Lib.hid (Below.refl _ _)⟩
      case round =>
        obtain ⟨j, ro, rl, rc, rfl, rfl, hj, hrj, rfl, HL, HO, HB⟩ := hrel
        have hb3 := HBL.out.keep (S := fun _ => False) (Moves.of_below HB.out) id
        rcases Nat.lt_or_ge j q with hlt | hge
        · have d2 : decide (((j : Nat) : Int) < ((q : Nat) : Int)) = true := decide_eq_true (by omega)
          have hjm : j < 1000000 := by omega
          have kb := hb3.cell hlt
          have lb := hb3.lt
          have HRF := Lib.hid (range_filter (p := fun s => decide (s ∈ finN RR n)) j)
          by_cases hmm : j ∈ finN RR n
          · rw [decide_eq_true hmm] at kb
            obtain ⟨g6, cap6, w6, hr6, ho6, hgr⟩ := int_ownB ((j : Nat) : Int) HO.out (by omega) HB.out.size
            have he := HRF.out
            rw [if_pos (decide_eq_true hmm)] at he
            have HO6 : Hid (w6.ownsRow WQ.heap.size 3 1 (.slice (some ⟨g6, 0, none⟩) (rl + 1) cap6) (rl + 1) (intsV ((List.range (j + 1)).filter fun s => decide (s ∈ finN RR n)))) := Lib.hid (by rw [he, intsV_snoc]; exact ho6)
            have HL6 : Hid (((List.range (j + 1)).filter fun s => decide (s ∈ finN RR n)).length = rl + 1) := Lib.hid (by rw [he, List.length_append, HL.out]; rfl)
            have HB6 : Hid (Below WQ.heap.size WQ w6) := Lib.hid ((HB.out.alloc HB.out.size _).grown hgr (by rw [World.size_alloc]; have := HB.out.size; omega) (fun k hk => own_rowD' HO.out hk))
            clear hmm he ho6 hgr hb3
            go_wp2_with fail
            go_roundg (q - (j + 1))
            case measure => omega
            case rel => exact ⟨j + 1, _, rl + 1, cap6, by simp, rfl, by omega, by omega, rfl, HL6, HO6, HB6⟩
          · rw [decide_eq_false hmm] at kb
            have he := HRF.out
            rw [if_neg (by rw [decide_eq_false hmm]; simp), List.append_nil] at he
            have HO6 : Hid (wr.ownsRow WQ.heap.size 3 1 (.slice ro rl rc) rl (intsV ((List.range (j + 1)).filter fun s => decide (s ∈ finN RR n)))) := Lib.hid (by rw [he]; exact HO.out)
            have HL6 : Hid (((List.range (j + 1)).filter fun s => decide (s ∈ finN RR n)).length = rl) := Lib.hid (by rw [he]; exact HL.out)
            clear hmm he hb3
            go_wp2_with fail
            go_roundg (q - (j + 1))
            case measure => omega
            case rel => exact ⟨j + 1, ro, rl, rc, by simp, rfl, by omega, by omega, rfl, HL6, HO6, HB⟩
        · obtain rfl : j = q := by omega
          have d2 : decide (((j : Nat) : Int) < ((j : Nat) : Int)) = false := decide_eq_false (by omega)
          have HX := Lib.hid (HPQ.out wr ro rl rc WQ.heap.size (by unfold reachL; rw [HRL.out]; exact HL.out) (by unfold reachL; rw [HRL.out]; exact HO.out) (HREST.out _ (HBW.out.trans (HB.out.mono HBW.out.size))).1)
          clear HPQ HO HL hb3
          go_wp2_with fail
          first | exact HX.out | (go_ret; exact HX.out)
end Go.Proofs.YtaoooocalpkhjaaGreatDoor
namespace Go.Proofs.YtaoooocalpkhjaaGreatDoor
open Go.RowKit Go.Shelf Go.Maps
attribute [local go_sem] Oper.semAt_some
attribute [local go_sem ↓] app_hide

theorem i64_ownB {W : World} {base k : Nat} {v : Value} {xs : List Value} (q : Int) (ho : W.ownsRow base 2 1 v k xs) (hk : k ≤ 2000000) (hbase : base ≤ W.heap.size) :
    ∃ g cap w6, (appSem #[26, 26] 26 #[v, .slice (some ⟨W.heap.size, 0, none⟩) 1 1]).run Tryz.prog (W.alloc (.cells #[.int .i64 q] 2)) = .ok (.slice (some ⟨g, 0, none⟩) (k + 1) cap) w6 ∧
      w6.ownsRow base 2 1 (.slice (some ⟨g, 0, none⟩) (k + 1) cap) (k + 1) (xs ++ [.int .i64 q]) ∧ (W.alloc (.cells #[.int .i64 q] 2)).grownBy w6 v.ownBlock := by
  obtain ⟨i0, hi, hz0, hz1, hz2⟩ := info_parts infoI64H
  have hb : Below W.heap.size W (W.alloc (.cells #[.int .i64 q] 2)) := (Below.refl _ _).alloc (Nat.le_refl _) _
  obtain ⟨v', w6, hr, h2, h3, h4, h5⟩ := run_append_own_at (P := Tryz.prog) _ base 26 26 2 i0 (.int .i64 0) 1 8 Tryz.underlying26 hi hz0 hz1 hz2 rfl (by decide) v k xs (own_below ho hb) ⟨W.heap.size, 0, none⟩ 1 1 [.int .i64 q] rfl
    (cell_one_new _ _ _) (by simp [Value.oneCell']) (by unfold maxLen; omega) (by omega) (by simp; omega)
  obtain ⟨g, cap, rfl⟩ := ownsRow_succ h2
  exact ⟨g, cap, w6, hr, h2, h3⟩
set_option maxRecDepth 100000 in
set_option maxHeartbeats 2000000 in
theorem refGo_wrong (m : MachX) (n : Int) (lo : Option Addr) (k lcap : Nat) (hB : m.B n = false) (hzr : m.rows.length ≤ 1000000) (hzf : m.fits.length ≤ 1000000) (w : World) (hM : MachD w m) :
    Calls Tryz.prog 17 #[m.v, .int .i64 n, .slice lo k lcap] w fun e w' => e = .returned (.tuple #[.slice none 0 0, .int .i64 100]) ∧ Below w.heap.size w w' := by
  obtain ⟨P, hP⟩ : ∃ P, (fun (e : Ending) (w' : World) => e = .returned (.tuple #[.slice none 0 0, .int .i64 100]) ∧ Below w.heap.size w w') = P := ⟨_, rfl⟩
  obtain ⟨w1, hw1⟩ : ∃ w1, w.alloc (.cells #[.slice m.no m.rows.length m.nc, .slice m.fo m.fits.length m.fc] 28) = w1 := ⟨_, rfl⟩
  have b1 : Below w.heap.size w w1 := by rw [← hw1]; exact (Below.refl _ _).alloc (Nat.le_refl _) _
  have HR := Lib.hid (refRight12_any m n hzr hzf w1 (hM.below b1))
  rw [hB] at HR
  have HF : Hid (∀ W, Below w1.heap.size w1 W → P (.returned (.tuple #[.slice none 0 0, .int .i64 100])) W) := Lib.hid fun W hb => by rw [← hP]; exact ⟨rfl, b1.trans (hb.mono b1.size)⟩
  rw [hP]
  obtain ⟨no, rows, nc, fo, fits, fc⟩ := m
  simp only at hw1
  obtain ⟨q, hq⟩ : ∃ q, rows.length = q := ⟨_, rfl⟩
  obtain ⟨f, hf⟩ : ∃ q, fits.length = q := ⟨_, rfl⟩
  simp only [MachX.v, hq, hf] at HR hw1 ⊢
  have HW1 := Lib.hid hw1
  clear hP hM hB hzr hzf hq hf hw1 b1
  go_enter Tryz.func17, Tryz.ntmps17
  go_wp2_with fail
  rw [HW1.out]
  refine HR.out.mono ?_
  rintro e w2 ⟨rfl, b2⟩
  have HX := Lib.hid (HF.out w2 b2)
  clear b2 HF
  go_wp2_with fail
  first | exact HX.out | (go_ret; exact HX.out)
abbrev fitsV (F : List Int) (A : List Nat) : List Value := A.map fun s : Nat => Value.int .i64 (F[s]?.getD 0)
theorem fitsV_take {F : List Int} {A : List Nat} {j s : Nat} (h : A[j]? = some s) {z : Int} (hz : F[s]? = some z) : fitsV F (A.take (j + 1)) = fitsV F (A.take j) ++ [.int .i64 z] := by
  unfold fitsV
  rw [List.take_add_one, h, List.map_append, Option.toList_some, List.map_singleton, hz]
  rfl
set_option maxRecDepth 100000 in
set_option maxHeartbeats 4000000 in
theorem refFits_right (m : MachX) (n : Nat) (lo : Option Addr) (L : List Int) (lcap : Nat) (hB : m.B (n : Nat) = true) (hll : L.length ≤ 1000) (w : World) (hM : MachD w m) (hL : NumsAt w lo L) :
    Calls Tryz.prog 19 #[m.v, .int .i64 (n : Nat), .slice lo L.length lcap] w fun e w' => ∃ o' cap', e = .returned (.tuple #[.slice o' (L.length + 1) cap', .int .i64 0]) ∧ w'.ownsRow (w.heap.size + 1) 2 1 (.slice o' (L.length + 1) cap') (L.length + 1) (fitsV m.fits (allD (m.rows.map (·.2.1)) ((n : Nat) : Int) L)) ∧ Below w.heap.size w w' := by
  obtain ⟨P, hP⟩ : ∃ P, (fun (e : Ending) (w' : World) => ∃ o' cap', e = .returned (.tuple #[.slice o' (L.length + 1) cap', .int .i64 0]) ∧ w'.ownsRow (w.heap.size + 1) 2 1 (.slice o' (L.length + 1) cap') (L.length + 1) (fitsV m.fits (allD (m.rows.map (·.2.1)) ((n : Nat) : Int) L)) ∧ Below w.heap.size w w') = P := ⟨_, rfl⟩
  have HP := Lib.hid hP
  rw [hP]
  obtain ⟨w1, hw1⟩ : ∃ w1, w.alloc (.cells #[.slice m.no m.rows.length m.nc, .slice m.fo m.fits.length m.fc] 28) = w1 := ⟨_, rfl⟩
  have b1 : Below w.heap.size w w1 := by rw [← hw1]; exact (Below.refl _ _).alloc (Nat.le_refl _) _
  have r1 : w1.heap[w.heap.size]? = some (.cells #[.slice m.no m.rows.length m.nc, .slice m.fo m.fits.length m.fc] 28 (0, 0)) := by rw [← hw1]; exact heap_alloc_new _ _
  obtain ⟨h1n, h32n, h1q, h300, hrf, _, _⟩ := machB_parts (show machB (m.rows.map (·.2.1)) m.fits ((n : Nat) : Int) = true from hB)
  rw [List.length_map] at h300 hrf
  have HG := Lib.hid (refGo_right m n lo L lcap hB hll w1 (hM.below b1) (hL.below b1) (fun W hb => refRight12_any m _ (by omega) (by omega) W ((hM.below b1).below hb)))
  have HBB : Hid (machB (m.rows.map (·.2.1)) m.fits ((n : Nat) : Int) = true) := Lib.hid hB
  have HFIT := Lib.hid hM.fits
  have HR1 := Lib.hid r1
  have HB1 := Lib.hid b1
  have HL1 : Hid (w1.heap.size = w.heap.size + 1) := Lib.hid (by rw [← hw1]; simp)
  obtain ⟨no, rows, nc, fo, fits, fc⟩ := m
  obtain ⟨A, hA⟩ : ∃ A, allD (rows.map (·.2.1)) ((n : Nat) : Int) L = A := ⟨_, rfl⟩
  have hAl : A.length = L.length + 1 := by rw [← hA, allD_len]
  have HAS : Hid (∀ (j s : Nat), A[j]? = some s → s < fits.length) := Lib.hid fun j s hs => by
    have hj := (List.getElem?_eq_some_iff.1 hs).1
    rw [← hA, allD_at (rows.map (·.2.1)) ((n : Nat) : Int) L (show j ≤ L.length by omega)] at hs
    cases hs
    have h1 : 0 < (rows.map (·.2.1)).length := h1q
    have := st_lt HBB.out (L.take j) 0 h1
    rw [List.length_map] at this
    exact Nat.lt_of_lt_of_eq this hrf
  simp only at HP HG HBB HFIT HR1 hw1 h300 hrf ⊢
  rw [hA] at HP HG
  have HAL := Lib.hid hAl
  obtain ⟨q, hq⟩ : ∃ q, rows.length = q := ⟨_, rfl⟩
  obtain ⟨f, hf⟩ : ∃ q, fits.length = q := ⟨_, rfl⟩
  obtain ⟨k, hk⟩ : ∃ q, L.length = q := ⟨_, rfl⟩
  obtain ⟨k1, hk1⟩ : ∃ q, k + 1 = q := ⟨_, rfl⟩
  have HF := Lib.hid hf
  simp only [MachX.v, hq, hf] at HG HR1 hw1 ⊢
  rw [hf] at HAS hrf
  rw [hq] at hrf h300
  rw [hk, hk1] at HP HG HAL
  rw [hk] at hll ⊢
  have HW1 := Lib.hid hw1
  have hk1000 : k1 ≤ 1001 := by omega
  have hf300 : f ≤ 300 := by omega
  clear hP hB hM hL hq hf hk hw1 b1 r1 hA hAl h1n h32n h1q hrf HBB
  go_enter Tryz.func19, Tryz.ntmps19
  obtain ⟨c0, c1⟩ := mac_cells HR1.out
  have l1 := World.block_lt_of_cell? w1 _ c0
  go_wp2_with fail
  rw [HW1.out]
  refine HG.out.mono ?_
  rintro e w2 ⟨oa, ca, rfl, ho, b2⟩
  have HB2 := Lib.hid (HB1.out.trans (b2.mono HB1.out.size))
  have HN2 : Hid (NumsAt w2 oa (natsZ A)) := Lib.hid (by
    rw [← HAL.out] at ho
    exact nums_ownN ho)
  have HM2 := Lib.hid (row_below HR1.out b2)
  have hz2 : w.heap.size + 1 ≤ w2.heap.size := by have h1 := b2.size; have h2 := HL1.out; omega
  clear c0 c1 l1 ho b2 HG
  go_wp2_with fail
  go_loopg [10, 11] k1 (fun d v10 v11 wr => ∃ (j : Nat) (ro : Option Addr) (rc : Nat), v11 = .int .i64 (j : Nat) ∧ v10 = .slice ro j rc ∧ j ≤ k1 ∧ d = k1 - j ∧ Hid (wr.ownsRow w2.heap.size 2 1 (.slice ro j rc) j (fitsV fits (A.take j))) ∧ Hid (Below w2.heap.size w2 wr))
  case atStart => exact ⟨0, none, 0, rfl, rfl, Nat.zero_le _, rfl, Lib.hid (World.ownsRow_nil _ _ _ _), Lib.hid (Below.refl _ _)⟩
  case round =>
    obtain ⟨j, ro, rc, rfl, rfl, hj, rfl, HO, HB⟩ := hrel
    have hsz := HB.out.size
    have hbw : Below w.heap.size w wr := HB2.out.trans (HB.out.mono (by omega))
    rcases Nat.lt_or_ge j k1 with hlt | hge
    · have hj1 : j < 1000000 := by omega
      obtain ⟨s, hs⟩ : ∃ s, A[j]? = some s := ⟨_, List.getElem?_eq_getElem (by rw [HAL.out]; exact hlt)⟩
      have hsf := HAS.out j s hs
      obtain ⟨z, hz⟩ : ∃ z, fits[s]? = some z := ⟨_, List.getElem?_eq_getElem (by rw [HF.out]; exact hsf)⟩
      have HTK := Lib.hid (fitsV_take (F := fits) hs hz)
      obtain ⟨g, off, rfl, hcl⟩ := (HN2.out.below HB.out) (by rw [List.length_map, HAL.out]; omega)
      have k0 := hcl j ((s : Nat) : Int) (by rw [List.getElem?_map, hs]; rfl)
      have lg := World.block_lt_of_cell? _ _ k0
      obtain ⟨gf, of, rfl, hcf⟩ := HFIT.out (by rw [HF.out]; omega)
      have k2 := cell_keepQ hbw (hcf s z hz)
      have lgf := World.block_lt_of_cell? _ _ k2
      obtain ⟨p0, p1⟩ := mac_cells ((HB.out.block _ (by omega)).trans HM2.out)
      have lp := World.block_lt_of_cell? _ _ p0
      have hd : Below wr.heap.size wr wr.drew := (Below.refl _ _).drew
      obtain ⟨g', cap', w6, hrun0, hown', hgrow⟩ := i64_ownB z (own_below HO.out hd) (by omega) (by show w2.heap.size ≤ wr.heap.size; omega)
      have hrun : (appSem #[26, 26] 26 #[.slice ro j rc, .slice (some ⟨wr.heap.size, 0, none⟩) 1 1]).run Tryz.prog (wr.alloc (.cells #[.int .i64 z] 2)).drew = .ok (.slice (some ⟨g', 0, none⟩) (j + 1) cap') w6 := hrun0
      rw [← HTK.out] at hown'
      have HO6 := Lib.hid hown'
      have hda := (HB.out.trans (hd.mono (by omega))).alloc (by show w2.heap.size ≤ wr.heap.size; omega) (.cells #[.int .i64 z] 2)
      have HB6 : Hid (Below w2.heap.size w2 w6) := Lib.hid (hda.grown hgrow (by rw [World.size_alloc]; show w2.heap.size ≤ wr.heap.size + 1; omega) (fun k hk => own_rowD' HO.out hk))
      have hfol : Tryz.prog.follows .mixedOrders = true := by kernel_rfl
      clear hcl hcf hs hz hown' hgrow hda hd hbw HTK HO HB hrun0
      go_wp2_with fail
      go_region
      all_goals
        go_simp
        go_wp2_with fail
        go_roundg (k1 - (j + 1))
        case measure => omega
        case rel => exact ⟨j + 1, _, _, by simp, rfl, by omega, rfl, HO6, HB6⟩
    · obtain rfl : j = k1 := by omega
      have ho := HO.out
      rw [List.take_of_length_le (by rw [HAL.out]; exact Nat.le_refl _)] at ho
      have ho2 : wr.ownsRow (w.heap.size + 1) 2 1 (.slice ro j rc) j (fitsV fits A) := ⟨ho.1, ho.2.imp id fun ⟨g, cap, cur, hv, hb, rest⟩ => ⟨g, cap, cur, hv, Nat.le_trans hz2 hb, rest⟩⟩
      have HPP : Hid (P (.returned (.tuple #[.slice ro j rc, .int .i64 0])) wr) := Lib.hid (by rw [← HP.out]; exact ⟨ro, rc, rfl, ho2, hbw⟩)
      clear ho ho2 HO HB
      go_wp2_with fail
      first | exact HPP.out | (go_ret; exact HPP.out)
end Go.Proofs.YtaoooocalpkhjaaGreatDoor
namespace Go.Proofs.YtaoooocalpkhjaaGreatDoor
open Go.RowKit Go.Shelf Go.Maps
attribute [local go_sem] Oper.semAt_some

set_option maxRecDepth 100000 in
set_option maxHeartbeats 2000000 in
theorem refFits_wrong (m : MachX) (n : Int) (lo : Option Addr) (k lcap : Nat) (hB : m.B n = false) (hzr : m.rows.length ≤ 1000000) (hzf : m.fits.length ≤ 1000000) (w : World) (hM : MachD w m) :
    Calls Tryz.prog 19 #[m.v, .int .i64 n, .slice lo k lcap] w fun e w' => e = .returned (.tuple #[.slice none 0 0, .int .i64 100]) ∧ Below w.heap.size w w' := by
  obtain ⟨P, hP⟩ : ∃ P, (fun (e : Ending) (w' : World) => e = .returned (.tuple #[.slice none 0 0, .int .i64 100]) ∧ Below w.heap.size w w') = P := ⟨_, rfl⟩
  obtain ⟨w1, hw1⟩ : ∃ w1, w.alloc (.cells #[.slice m.no m.rows.length m.nc, .slice m.fo m.fits.length m.fc] 28) = w1 := ⟨_, rfl⟩
  have b1 : Below w.heap.size w w1 := by rw [← hw1]; exact (Below.refl _ _).alloc (Nat.le_refl _) _
  have HR := Lib.hid (refGo_wrong m n lo k lcap hB hzr hzf w1 (hM.below b1))
  have HF : Hid (∀ W, Below w1.heap.size w1 W → P (.returned (.tuple #[.slice none 0 0, .int .i64 100])) W) := Lib.hid fun W hb => by rw [← hP]; exact ⟨rfl, b1.trans (hb.mono b1.size)⟩
  rw [hP]
  obtain ⟨no, rows, nc, fo, fits, fc⟩ := m
  simp only at hw1
  obtain ⟨q, hq⟩ : ∃ q, rows.length = q := ⟨_, rfl⟩
  obtain ⟨f, hf⟩ : ∃ q, fits.length = q := ⟨_, rfl⟩
  simp only [MachX.v, hq, hf] at HR hw1 ⊢
  have HW1 := Lib.hid hw1
  clear hP hM hB hzr hzf hq hf hw1 b1
  go_enter Tryz.func19, Tryz.ntmps19
  go_wp2_with fail
  rw [HW1.out]
  refine HR.out.mono ?_
  rintro e w2 ⟨rfl, b2⟩
  have HX := Lib.hid (HF.out w2 b2)
  clear b2 HF
  go_wp2_with fail
  go_loopg [10, 11] 0 (fun d u v wr => u = .slice none 0 0 ∧ v = .int .i64 0 ∧ wr = w2)
  case atStart => exact ⟨rfl, rfl, rfl⟩
  case round =>
    obtain ⟨rfl, rfl, rfl⟩ := hrel
    go_wp2_with fail
    exact HX.out
end Go.Proofs.YtaoooocalpkhjaaGreatDoor
namespace Go.Proofs.YtaoooocalpkhjaaGreatDoor
open Go.RowKit Go.Shelf Go.Maps
attribute [local go_sem] Oper.semAt_some

set_option maxRecDepth 100000 in
set_option maxHeartbeats 2000000 in
theorem RightD_any (m : MachX) (n : Int) (w : World) (hM : MachD w m) (hz : m.rows.length ≤ 1000000000) (hz2 : m.fits.length ≤ 1000000000) :
    Calls Tryz.prog 22 #[m.v, .int .i64 n] w fun e w' => e = .returned (.bool (m.B n)) ∧ Below w.heap.size w w' := by
  obtain ⟨w1, hw1⟩ : ∃ w1, w.alloc (.cells #[.slice m.no m.rows.length m.nc, .slice m.fo m.fits.length m.fc] 28) = w1 := ⟨_, rfl⟩
  have b1 : Below w.heap.size w w1 := by rw [← hw1]; exact (Below.refl _ _).alloc (Nat.le_refl _) _
  have r1 : w1.heap[w.heap.size]? = some (.cells #[.slice m.no m.rows.length m.nc, .slice m.fo m.fits.length m.fc] 28 (0, 0)) := by rw [← hw1]; exact heap_alloc_new _ _
  obtain ⟨c0, c1⟩ := mac_cells r1
  have l1 := World.block_lt_of_cell? w1 _ c0
  have HR0 := rightD_any m n w1 (hM.below b1) hz hz2
  obtain ⟨b, hb⟩ : ∃ b, m.B n = b := ⟨_, rfl⟩
  rw [show machB (m.rows.map (·.2.1)) m.fits n = b from hb] at HR0
  rw [hb]
  obtain ⟨no, rows, nc, fo, fits, fc⟩ := m
  simp only at c0 c1 hw1
  replace HR0 : Calls Tryz.prog 58 #[.agg #[.slice no rows.length nc, .slice fo fits.length fc, .int .i64 n]] w1 fun e w' => e = .returned (.bool b) ∧ Below w1.heap.size w1 w' := HR0
  show Calls _ _ #[.agg #[.slice no rows.length nc, .slice fo fits.length fc], .int .i64 n] _ _
  obtain ⟨q, hq⟩ : ∃ q, rows.length = q := ⟨_, rfl⟩
  obtain ⟨f, hf⟩ : ∃ f, fits.length = f := ⟨_, rfl⟩
  rw [hq] at HR0 c0 hw1 ⊢
  rw [hf] at HR0 c1 hw1 ⊢
  have HR := Lib.hid HR0
  have HW1 := Lib.hid hw1
  have HB1 := Lib.hid b1
  clear hw1 b1 r1 hM hz hz2 HR0 hq hf hb
  go_enter Tryz.func22, Tryz.ntmps22
  go_wp2_with fail
  rw [HW1.out]
  refine HR.out.mono ?_
  rintro e W3 ⟨rfl, b3⟩
  have HB3 := Lib.hid (HB1.out.trans (b3.mono HB1.out.size))
  clear b3
  go_wp2_with fail
  go_ret
  exact ⟨rfl, HB3.out⟩
set_option maxRecDepth 100000 in
set_option maxHeartbeats 2000000 in
theorem reached_wrong (m : MachX) (n : Int) (hB : m.B n = false) (hz : m.rows.length ≤ 1000000000) (hz2 : m.fits.length ≤ 1000000000) (w : World) (aR aM : Addr) (hG : GlobD w aR aM) (hM : MachD w m) :
    Calls Tryz.prog 57 #[m.v, .int .i64 n] w fun e w' => e = .returned (.tuple #[.slice none 0 0, errVQ aM]) ∧ Below w.heap.size w w' := by
  obtain ⟨w1, hw1⟩ : ∃ w1, w.alloc (.cells #[.slice m.no m.rows.length m.nc, .slice m.fo m.fits.length m.fc] 28) = w1 := ⟨_, rfl⟩
  have b1 : Below w.heap.size w w1 := by rw [← hw1]; exact (Below.refl _ _).alloc (Nat.le_refl _) _
  have r1 : w1.heap[w.heap.size]? = some (.cells #[.slice m.no m.rows.length m.nc, .slice m.fo m.fits.length m.fc] 28 (0, 0)) := by rw [← hw1]; exact heap_alloc_new _ _
  obtain ⟨c0, c1⟩ := mac_cells r1
  have l1 := World.block_lt_of_cell? w1 _ c0
  have HR0 := walkerOf_any m n w1 aR aM (hG.below b1) (hM.below b1) hz hz2
  unfold WlkR at HR0
  rw [if_neg (by rw [hB]; simp)] at HR0
  obtain ⟨no, rows, nc, fo, fits, fc⟩ := m
  simp only at c0 c1 hw1
  replace HR0 : Calls Tryz.prog 83 #[.agg #[.slice no rows.length nc, .slice fo fits.length fc], .int .i64 n] w1 fun e w' => e = .returned (.tuple #[.agg #[.slice none 0 0, .slice none 0 0, .int .i64 0], errVQ aM]) ∧ Below w1.heap.size w1 w' := HR0
  show Calls _ _ #[.agg #[.slice no rows.length nc, .slice fo fits.length fc], .int .i64 n] _ _
  obtain ⟨q, hq⟩ : ∃ q, rows.length = q := ⟨_, rfl⟩
  obtain ⟨f, hf⟩ : ∃ f, fits.length = f := ⟨_, rfl⟩
  rw [hq] at HR0 c0 hw1 ⊢
  rw [hf] at HR0 c1 hw1 ⊢
  have HR := Lib.hid HR0
  have HW1 := Lib.hid hw1
  have HB1 := Lib.hid b1
  clear hw1 b1 r1 hM hz hz2 HR0 hq hf hB hG
  go_enter Tryz.func57, Tryz.ntmps57
  go_wp2_with fail
  rw [HW1.out]
  refine HR.out.mono ?_
  rintro e W3 ⟨rfl, b3⟩
  obtain ⟨W5, hW5⟩ : ∃ W5, W3.alloc (.cells #[.slice none 0 0, .slice none 0 0, .int .i64 0] 77) = W5 := ⟨_, rfl⟩
  have b5 : Below W3.heap.size W3 W5 := by rw [← hW5]; exact (Below.refl _ _).alloc (Nat.le_refl _) _
  have B3 := HB1.out.trans (b3.mono HB1.out.size)
  have HB5 := Lib.hid (B3.trans (b5.mono B3.size))
  have HW5 := Lib.hid hW5
  clear hW5 b5 b3 B3
  go_wp2_with fail
  try rw [HW5.out]
  exact bodyPost_ret (results_tmp2 (t := 4) (u := 5) rfl _ _ _) rfl ⟨rfl, HB5.out⟩
set_option maxRecDepth 100000 in
set_option maxHeartbeats 2000000 in
theorem ReachedD_of {m : MachX} {n : Int} {w : World} {ev : Value} {code : Int} {Pst : Option Addr → Nat → Nat → World → Prop}
    (hC : ∀ W, Below w.heap.size w W → Calls Tryz.prog 57 #[m.v, .int .i64 n] W fun e w' => ∃ o k cap, e = .returned (.tuple #[.slice o k cap, ev]) ∧ Pst o k cap w' ∧ Below W.heap.size W w')
    (hN : ∀ W, Below w.heap.size w W → Calls Tryz.prog 46 #[ev] W fun e w' => e = .returned (.int .i64 code) ∧ W = w') :
    Calls Tryz.prog 20 #[m.v, .int .i64 n] w fun e w' => ∃ o k cap, e = .returned (.tuple #[.slice o k cap, .int .i64 code]) ∧ Pst o k cap w' ∧ Below w.heap.size w w' := by
  obtain ⟨w1, hw1⟩ : ∃ w1, w.alloc (.cells #[.slice m.no m.rows.length m.nc, .slice m.fo m.fits.length m.fc] 28) = w1 := ⟨_, rfl⟩
  have b1 : Below w.heap.size w w1 := by rw [← hw1]; exact (Below.refl _ _).alloc (Nat.le_refl _) _
  have r1 : w1.heap[w.heap.size]? = some (.cells #[.slice m.no m.rows.length m.nc, .slice m.fo m.fits.length m.fc] 28 (0, 0)) := by rw [← hw1]; exact heap_alloc_new _ _
  obtain ⟨c0, c1⟩ := mac_cells r1
  have l1 := World.block_lt_of_cell? w1 _ c0
  have HC0 := hC w1 b1
  obtain ⟨no, rows, nc, fo, fits, fc⟩ := m
  simp only at c0 c1 hw1
  replace HC0 : Calls Tryz.prog 57 #[.agg #[.slice no rows.length nc, .slice fo fits.length fc], .int .i64 n] w1 fun e w' => ∃ o k cap, e = .returned (.tuple #[.slice o k cap, ev]) ∧ Pst o k cap w' ∧ Below w1.heap.size w1 w' := HC0
  show Calls _ _ #[.agg #[.slice no rows.length nc, .slice fo fits.length fc], .int .i64 n] _ _
  obtain ⟨q, hq⟩ : ∃ q, rows.length = q := ⟨_, rfl⟩
  obtain ⟨f, hf⟩ : ∃ f, fits.length = f := ⟨_, rfl⟩
  rw [hq] at HC0 c0 hw1 ⊢
  rw [hf] at HC0 c1 hw1 ⊢
  have HR := Lib.hid HC0
  have HN := Lib.hid hN
  have HW1 := Lib.hid hw1
  have HB1 := Lib.hid b1
  clear hw1 b1 r1 HC0 hC hN hq hf
  go_enter Tryz.func20, Tryz.ntmps20
  go_wp2_with fail
  rw [HW1.out]
  refine HR.out.mono ?_
  rintro e W3 ⟨o, k, cap, rfl, hp, b3⟩
  have B3 := HB1.out.trans (b3.mono HB1.out.size)
  have HNN := Lib.hid (HN.out W3 B3)
  have HF := Lib.hid (And.intro hp B3)
  clear hp b3 B3
  go_wp2_with fail
  refine HNN.out.mono ?_
  rintro e _ ⟨rfl, rfl⟩
  go_wp2_with fail
  exact bodyPost_ret (results_tmp2 (t := 4) (u := 5) rfl _ _ _) rfl ⟨o, k, cap, rfl, HF.out⟩
theorem ReachedD_right (m : MachX) (N : Nat) (hB : m.B (N : Nat) = true) (w : World) (aR aM : Addr) (hG : GlobD w aR aM) (hM : MachD w m) : Calls Tryz.prog 20 #[m.v, .int .i64 (N : Nat)] w (RchdQ (reachL (m.rows.map (·.2.1)) N) (.int .i64 0) w) := by
  have HR := fun W (hb : Below w.heap.size w W) => reached_right m N hB W aR aM (hG.below hb) (hM.below hb)
  obtain ⟨L, hL⟩ : ∃ L, reachL (m.rows.map (·.2.1)) N = L := ⟨_, rfl⟩
  rw [hL] at HR ⊢
  refine (ReachedD_of (m := m) (Pst := fun o k _ W => k = L.length ∧ NumsAt W o (natsZ L)) (fun W hb => (HR W hb).mono ?_) (fun W hb => number_nilD (hG.below hb))).mono ?_
  · rintro e w' ⟨o, cap, rfl, h1, h2⟩
    exact ⟨o, _, cap, rfl, ⟨rfl, h1⟩, h2⟩
  · rintro e w' ⟨o, k, cap, rfl, ⟨rfl, h1⟩, h2⟩
    exact ⟨o, cap, rfl, h1, h2⟩
theorem ReachedD_wrong (m : MachX) (n : Int) (hB : m.B n = false) (hz : m.rows.length ≤ 1000000000) (hz2 : m.fits.length ≤ 1000000000) (w : World) (aR aM : Addr) (hG : GlobD w aR aM) (hM : MachD w m) :
    Calls Tryz.prog 20 #[m.v, .int .i64 n] w fun e w' => e = .returned (.tuple #[.slice none 0 0, .int .i64 100]) ∧ Below w.heap.size w w' := by
  refine (ReachedD_of (m := m) (Pst := fun o k cap _ => o = none ∧ k = 0 ∧ cap = 0) (fun W hb => (reached_wrong m n hB hz hz2 W aR aM (hG.below hb) (hM.below hb)).mono ?_) (fun W hb => number_macD (hG.below hb))).mono ?_
  · rintro e w' ⟨rfl, h2⟩
    exact ⟨none, 0, 0, rfl, ⟨rfl, rfl, rfl⟩, h2⟩
  · rintro e w' ⟨o, k, cap, rfl, ⟨rfl, rfl, rfl⟩, h2⟩
    exact ⟨rfl, h2⟩
end Go.Proofs.YtaoooocalpkhjaaGreatDoor
namespace Go.Proofs.YtaoooocalpkhjaaGreatDoor
open Go.RowKit Go.Shelf Go.Maps
attribute [local go_sem] Oper.semAt_some

def AnsQ (L : List Int) (c : Int) (w : World) (e : Ending) (w' : World) : Prop := ∃ o cap, e = .returned (.tuple #[.slice o L.length cap, .int .i64 c]) ∧ NumsAt w' o L ∧ Below w.heap.size w w'
def codeM (b : Bool) : Int := if b = true then 0 else 100
def goM (m : MachX) (n : Int) (l : List Int) : List Int := if m.B n = true then natsZ (allD (m.rows.map (·.2.1)) n l) else []
def fitM (m : MachX) (n : Int) (l : List Int) : List Int := if m.B n = true then (allD (m.rows.map (·.2.1)) n l).map (fun s : Nat => m.fits[s]?.getD 0) else []
def rchM (m : MachX) (n : Int) : List Int := if m.B n = true then natsZ (reachL (m.rows.map (·.2.1)) n.toNat) else []
theorem ans_none {w w' : World} {e : Ending} (h : e = .returned (.tuple #[.slice none 0 0, .int .i64 100])) (hb : Below w.heap.size w w') : AnsQ [] (codeM false) w e w' := ⟨none, 0, h, fun h => absurd h (Nat.lt_irrefl _), hb⟩
theorem mach_nat {m : MachX} {n : Int} (h : m.B n = true) : ∃ N : Nat, n = ((N : Nat) : Int) := by
  obtain ⟨h1, _⟩ := machB_parts (show machB (m.rows.map (·.2.1)) m.fits n = true from h)
  exact ⟨n.toNat, by omega⟩
section
variable (m : MachX) (n : Int) (lo : Option Addr) (L : List Int) (lcap : Nat) (hll : L.length ≤ 1000) (hz : m.rows.length ≤ 1000000) (hz2 : m.fits.length ≤ 1000000) (w : World)
include hll hz hz2
theorem Go_ans (aR aM : Addr) (hG : GlobD w aR aM) (hM : MachD w m) (hL : NumsAt w lo L) : Calls Tryz.prog 16 #[m.v, .int .i64 n, .slice lo L.length lcap] w (AnsQ (goM m n L) (codeM (m.B n)) w) := by
  unfold goM
  cases hB : m.B n with
  | false =>
    refine (GoD_wrong m n lo L.length lcap hB (by omega) (by omega) w aR aM hG hM).mono fun e w' h => ?_
    exact ans_none h.1 h.2
  | true =>
    refine (GoD_right m n lo L lcap hB hll w aR aM hG hM hL).mono ?_
    rintro e w' ⟨o, cap, rfl, ho, hb⟩
    have hl : (natsZ (allD (m.rows.map (·.2.1)) n L)).length = L.length + 1 := by rw [List.length_map, allD_len]
    refine ⟨o, cap, ?_, ?_, hb⟩
    · show _ = Ending.returned (.tuple #[.slice o (natsZ (allD (m.rows.map (·.2.1)) n L)).length cap, .int .i64 0])
      rw [hl]
    · refine nums_ownN (cap := cap) (e := 3) (base := w.heap.size + 1) ?_
      rw [allD_len]
      exact ho
theorem refGo_ans (hM : MachD w m) (hL : NumsAt w lo L) : Calls Tryz.prog 17 #[m.v, .int .i64 n, .slice lo L.length lcap] w (AnsQ (goM m n L) (codeM (m.B n)) w) := by
  unfold goM
  cases hB : m.B n with
  | false =>
    refine (refGo_wrong m n lo L.length lcap hB hz hz2 w hM).mono fun e w' h => ?_
    exact ans_none h.1 h.2
  | true =>
    obtain ⟨N, rfl⟩ := mach_nat hB
    refine (refGo_right m N lo L lcap hB hll w hM hL (fun W hb => refRight12_any m _ hz hz2 W (hM.below hb))).mono ?_
    rintro e w' ⟨o, cap, rfl, ho, hb⟩
    have hl : (natsZ (allD (m.rows.map (·.2.1)) ((N : Nat) : Int) L)).length = L.length + 1 := by rw [List.length_map, allD_len]
    refine ⟨o, cap, ?_, ?_, hb⟩
    · show _ = Ending.returned (.tuple #[.slice o (natsZ (allD (m.rows.map (·.2.1)) ((N : Nat) : Int) L)).length cap, .int .i64 0])
      rw [hl]
    · refine nums_ownN (cap := cap) (e := 3) (base := w.heap.size + 1) ?_
      rw [allD_len]
      exact ho
theorem Fits_ans (aR aM : Addr) (hG : GlobD w aR aM) (hM : MachD w m) (hL : NumsAt w lo L) : Calls Tryz.prog 18 #[m.v, .int .i64 n, .slice lo L.length lcap] w (AnsQ (fitM m n L) (codeM (m.B n)) w) := by
  unfold fitM
  cases hB : m.B n with
  | false =>
    refine (FitsD_wrong m n lo L.length lcap hB (by omega) (by omega) w aR aM hG hM).mono fun e w' h => ?_
    exact ans_none h.1 h.2
  | true =>
    refine (FitsD_right m n lo L lcap hB hll w aR aM hG hM hL).mono ?_
    rintro e w' ⟨o, cap, rfl, ho, hb⟩
    have hl : ((allD (m.rows.map (·.2.1)) n L).map (fun s : Nat => m.fits[s]?.getD 0)).length = L.length + 1 := by rw [List.length_map, allD_len]
    refine ⟨o, cap, ?_, ?_, hb⟩
    · show _ = Ending.returned (.tuple #[.slice o ((allD (m.rows.map (·.2.1)) n L).map (fun s : Nat => m.fits[s]?.getD 0)).length cap, .int .i64 0])
      rw [hl]
    · refine nums_ownZ (cap := cap) (e := 2) (base := w.heap.size + 1) ?_
      show w'.ownsRow _ _ _ (.slice o ((allD (m.rows.map (·.2.1)) n L).map (fun s : Nat => m.fits[s]?.getD 0)).length cap) ((allD (m.rows.map (·.2.1)) n L).map (fun s : Nat => m.fits[s]?.getD 0)).length (((allD (m.rows.map (·.2.1)) n L).map (fun s : Nat => m.fits[s]?.getD 0)).map (Value.int .i64))
      rw [hl, List.map_map]
      exact ho
theorem refFits_ans (hM : MachD w m) (hL : NumsAt w lo L) : Calls Tryz.prog 19 #[m.v, .int .i64 n, .slice lo L.length lcap] w (AnsQ (fitM m n L) (codeM (m.B n)) w) := by
  unfold fitM
  cases hB : m.B n with
  | false =>
    refine (refFits_wrong m n lo L.length lcap hB hz hz2 w hM).mono fun e w' h => ?_
    exact ans_none h.1 h.2
  | true =>
    obtain ⟨N, rfl⟩ := mach_nat hB
    refine (refFits_right m N lo L lcap hB hll w hM hL).mono ?_
    rintro e w' ⟨o, cap, rfl, ho, hb⟩
    have hl : ((allD (m.rows.map (·.2.1)) ((N : Nat) : Int) L).map (fun s : Nat => m.fits[s]?.getD 0)).length = L.length + 1 := by rw [List.length_map, allD_len]
    refine ⟨o, cap, ?_, ?_, hb⟩
    · show _ = Ending.returned (.tuple #[.slice o ((allD (m.rows.map (·.2.1)) ((N : Nat) : Int) L).map (fun s : Nat => m.fits[s]?.getD 0)).length cap, .int .i64 0])
      rw [hl]
    · refine nums_ownZ (cap := cap) (e := 2) (base := w.heap.size + 1) ?_
      show w'.ownsRow _ _ _ (.slice o ((allD (m.rows.map (·.2.1)) ((N : Nat) : Int) L).map (fun s : Nat => m.fits[s]?.getD 0)).length cap) ((allD (m.rows.map (·.2.1)) ((N : Nat) : Int) L).map (fun s : Nat => m.fits[s]?.getD 0)).length (((allD (m.rows.map (·.2.1)) ((N : Nat) : Int) L).map (fun s : Nat => m.fits[s]?.getD 0)).map (Value.int .i64))
      rw [hl, List.map_map]
      exact ho
end
set_option maxRecDepth 100000 in
set_option maxHeartbeats 2000000 in
theorem refReached_wrong (m : MachX) (n : Int) (hB : m.B n = false) (hzr : m.rows.length ≤ 1000000) (hzf : m.fits.length ≤ 1000000) (w : World) (hM : MachD w m) :
    Calls Tryz.prog 21 #[m.v, .int .i64 n] w fun e w' => e = .returned (.tuple #[.slice none 0 0, .int .i64 100]) ∧ Below w.heap.size w w' := by
  obtain ⟨P, hP⟩ : ∃ P, (fun (e : Ending) (w' : World) => e = .returned (.tuple #[.slice none 0 0, .int .i64 100]) ∧ Below w.heap.size w w') = P := ⟨_, rfl⟩
  obtain ⟨w1, hw1⟩ : ∃ w1, w.alloc (.cells #[.slice m.no m.rows.length m.nc, .slice m.fo m.fits.length m.fc] 28) = w1 := ⟨_, rfl⟩
  have b1 : Below w.heap.size w w1 := by rw [← hw1]; exact (Below.refl _ _).alloc (Nat.le_refl _) _
  have HR := Lib.hid (refRight12_any m n hzr hzf w1 (hM.below b1))
  rw [hB] at HR
  have HF : Hid (∀ W, Below w1.heap.size w1 W → P (.returned (.tuple #[.slice none 0 0, .int .i64 100])) W) := Lib.hid fun W hb => by rw [← hP]; exact ⟨rfl, b1.trans (hb.mono b1.size)⟩
  rw [hP]
  obtain ⟨no, rows, nc, fo, fits, fc⟩ := m
  simp only at hw1
  obtain ⟨q, hq⟩ : ∃ q, rows.length = q := ⟨_, rfl⟩
  obtain ⟨f, hf⟩ : ∃ q, fits.length = q := ⟨_, rfl⟩
  simp only [MachX.v, hq, hf] at HR hw1 ⊢
  have HW1 := Lib.hid hw1
  clear hP hM hB hzr hzf hq hf hw1 b1
  go_enter Tryz.func21, Tryz.ntmps21
  go_wp2_with fail
  rw [HW1.out]
  refine HR.out.mono ?_
  rintro e w2 ⟨rfl, b2⟩
  have HX := Lib.hid (HF.out w2 b2)
  clear b2 HF
  go_wp2_with fail
  first | exact HX.out | (go_ret; exact HX.out)
theorem rch_ans {m : MachX} {N : Nat} {w w' : World} {e : Ending} (h : RchdQ (reachL (m.rows.map (·.2.1)) N) (.int .i64 0) w e w') : AnsQ (natsZ (reachL (m.rows.map (·.2.1)) N)) 0 w e w' := by
  obtain ⟨o, cap, rfl, h1, h2⟩ := h
  refine ⟨o, cap, ?_, h1, h2⟩
  rw [List.length_map]
theorem Reached_ans (m : MachX) (n : Int) (hz : m.rows.length ≤ 1000000) (hz2 : m.fits.length ≤ 1000000) (w : World) (aR aM : Addr) (hG : GlobD w aR aM) (hM : MachD w m) : Calls Tryz.prog 20 #[m.v, .int .i64 n] w (AnsQ (rchM m n) (codeM (m.B n)) w) := by
  unfold rchM
  cases hB : m.B n with
  | false => exact (ReachedD_wrong m n hB (by omega) (by omega) w aR aM hG hM).mono fun e w' h => ans_none h.1 h.2
  | true =>
    obtain ⟨N, rfl⟩ := mach_nat hB
    exact (ReachedD_right m N hB w aR aM hG hM).mono fun e w' h => rch_ans h
theorem refReached_ans (m : MachX) (n : Int) (hz : m.rows.length ≤ 1000000) (hz2 : m.fits.length ≤ 1000000) (w : World) (hM : MachD w m) : Calls Tryz.prog 21 #[m.v, .int .i64 n] w (AnsQ (rchM m n) (codeM (m.B n)) w) := by
  unfold rchM
  cases hB : m.B n with
  | false => exact (refReached_wrong m n hB hz hz2 w hM).mono fun e w' h => ans_none h.1 h.2
  | true =>
    obtain ⟨N, rfl⟩ := mach_nat hB
    exact (refReached_right m N hB w hM).mono fun e w' h => rch_ans h
theorem SameD_ans (a b : MachX) (ha : MachS a) (w : World) (hA : MachD w a) (hB : MachD w b) : Calls Tryz.prog 26 #[a.v, b.v] w fun e w' => e = .returned (.bool (decide (a.R = b.R ∧ a.fits = b.fits))) ∧ Below w.heap.size w w' := by
  refine (SameD_any a b (by have := ha.2.1; omega) (by have := ha.1; omega) (fun x hx => by have := ha.2.2 x hx; omega) w hA hB).mono ?_
  rintro e w' ⟨rfl, hb⟩
  refine ⟨?_, hb⟩
  congr 2
  show (decide (a.fits = b.fits) && decide (a.R = b.R)) = _
  rw [Bool.eq_iff_iff]
  simp only [Bool.and_eq_true, decide_eq_true_iff]
  exact ⟨fun h => ⟨h.2, h.1⟩, fun h => ⟨h.2, h.1⟩⟩
end Go.Proofs.YtaoooocalpkhjaaGreatDoor
