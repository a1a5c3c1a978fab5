/- Shaken by bunq.py. -/
import Derived.Test.YtaoooocalpkhjaaDoorBuq13
import Derived.Test.YtaoooocalpkhjaaDoorBuq11
import Derived.Test.YtaoooocalpkhjaaDoorBuq2
import Derived.BigQuiet
import Derived.Test.YtaoooocalpkhjaaDoorBuq8
import Derived.Test.YtaoooocalpkhjaaDoorBuq5
import Derived.Test.YtaoooocalpkhjaaDoorCards
import Derived.Test.YtaoooocalpkhjaaDoorTie
import Derived.Test.YtaoooocalpkhjaaDoorChecked
import Derived.ProofKit
import Derived.OpenShut
import Derived.Below
import Derived.ChangeSame
import Derived.ChangeMaps5
import Derived.Carry
import Derived.Deep.DeepHandedRow
import Derived.Deep.DeepWitnessRowRef
import Derived.LaidSub
import Derived.LaidHandle
import Derived.Lay
import Derived.MakeChecks
import Derived.Shelf.Vars
import Derived.LaidMore
import Derived.Stop.LaidTwo
namespace Go.Proofs.YtaoooocalpkhjaaDoor
open Go.RowKit Go.Shelf Go.Maps
attribute [local go_sem] Oper.semAt_some
attribute [local go_sem ↓] app_hide

def cutX (x : RowD) : RowD := (x.1, x.2.1.take 34, x.2.2)
abbrev tabX (m : MachX) (o : Option Addr) (c : Nat) : MachX := ⟨o, (m.rows.take 302).map cutX, c, m.fo, m.fits.take 302, m.fc⟩
structure TabD (w W3 : World) (fo : Option Addr) (k fc : Nat) (rows : List RowD) (j : Nat) (o : Option Addr) (c : Nat) (wr : World) : Prop where
  row : wr.heap[w.heap.size + 2]? = some (mchO o j c fo k fc)
  own : wr.ownsRow W3.heap.size 26 1 (.slice o j c) j ((rows.take j).map fun x => slX (cutX x))
  kept : Moves (fun x => x = w.heap.size + 2) W3 wr
theorem tabD_step {w W3 wr : World} {fo : Option Addr} {k fc : Nat} {rows : List RowD} {j : Nat} {o : Option Addr} {c : Nat} (h : TabD w W3 fo k fc rows j o c wr) (hz : W3.heap.size = w.heap.size + 3) (hj : j ≤ 1000) {x : RowD} (hx : rows[j]? = some x) :
    ∃ g9 c9 w9, (appSem #[22, 22] 22 #[.slice o j c, .slice (some ⟨wr.heap.size, 0, none⟩) 1 1]).run Tryd.prog (wr.alloc (.cells #[slX (cutX x)] 26)).drew = .ok (.slice (some ⟨g9, 0, none⟩) (j + 1) c9) w9 ∧
      w9.cell? ⟨w.heap.size + 2, 0, none⟩ = some (.slice o j c) ∧ w9.frozen? ⟨w.heap.size + 2, 0, none⟩ = false ∧ w.heap.size + 2 < w9.heap.size ∧
      TabD w W3 fo k fc rows (j + 1) (some ⟨g9, 0, none⟩) c9 (w9.setCell ⟨w.heap.size + 2, 0, none⟩ (.slice (some ⟨g9, 0, none⟩) (j + 1) c9)) := by
  have hcs := h.own
  have hzk := h.kept.size
  have a8 : Below wr.heap.size wr (wr.drew.alloc (.cells #[slX (cutX x)] 26)) := ((Below.refl wr.heap.size wr).drew).alloc (Nat.le_refl _) _
  have hcs8 := own_below hcs a8
  obtain ⟨j0, hj0, hy0, hy1, hy2⟩ := info_parts infoRowsD
  obtain ⟨v9, w9, hr9, h29, h39, h49, hat9⟩ := run_append_own_at (P := Tryd.prog) (wr.drew.alloc (.cells #[slX (cutX x)] 26)) W3.heap.size 22 22 26 j0 (.slice none 0 0) 1 24 Tryd.underlying22 hj0 hy0 hy1 hy2 rfl (by decide) _ j _ hcs8 ⟨wr.heap.size, 0, none⟩ 1 1 [slX (cutX x)] rfl
    (cell_one_new wr.drew _ _) (by simp [Value.oneCell', slX]) (by unfold maxLen; omega) (by omega) (by have := a8.size; omega)
  obtain ⟨g9, c9, rfl⟩ := ownsRow_succ h29
  have hob : ∀ y, (Value.slice o j c).ownBlock = some y → W3.heap.size ≤ y := fun y hy => own_rowD' hcs hy
  have m9 : Moves (fun y => (Value.slice o j c).ownBlock = some y) wr w9 := (Moves.of_below a8).trans ((Moves.of_grownD h39).mono fun y hy => hy.symm)
  have row9 := row_keep h.row m9 (fun hy => by have := hob _ hy; omega)
  obtain ⟨e0, e1, e2, e3, e4⟩ := mac5 row9
  refine ⟨g9, c9, w9, hr9, e0, e2, e4, ⟨mac_set0 _ row9, ?_, ?_⟩⟩
  · rw [List.take_add_one, hx, Option.toList_some, List.map_append, List.map_singleton]
    exact own_movesH h29 (Moves.setCell (S := fun y => y = w.heap.size + 2) rfl) (fun y hy e => by have := own_rowD' h29 hy; omega)
  · have mm : Moves (fun y => y = w.heap.size + 2 ∨ W3.heap.size ≤ y) W3 (w9.setCell ⟨w.heap.size + 2, 0, none⟩ (.slice (some ⟨g9, 0, none⟩) (j + 1) c9)) := ((h.kept.mono fun y hy => .inl hy).trans (m9.mono fun y hy => .inr (hob y hy))).trans (Moves.setCell (.inl rfl))
    exact ⟨mm.os, mm.tape, mm.output, mm.size, fun y hy hs => mm.block y hy (by omega)⟩
theorem NumsAt.takeD {w : World} {o : Option Addr} {l : List Int} (h : NumsAt w o l) (k : Nat) : NumsAt w o (l.take k) := fun hn => by
  rw [List.length_take] at hn
  obtain ⟨g, off, ho, hc⟩ := h (by omega)
  refine ⟨g, off, ho, fun j x hx => hc j x ?_⟩
  rw [List.getElem?_take] at hx
  split at hx
  · exact hx
  · cases hx
theorem tab_mach {w W3 wr w5 : World} {m : MachX} {k : Nat} {j : Nat} {o : Option Addr} {c : Nat} (h : TabD w W3 m.fo k m.fc m.rows j o c wr) (hj : m.rows.take j = m.rows.take 302) (hm : Moves (fun x => x = w.heap.size + 1) wr w5) (hz : W3.heap.size = w.heap.size + 3) (hb : Below w.heap.size w w5) (hM : MachD w m) : MachD w5 (tabX m o c) := by
  have ho := own_movesH h.own hm (fun y hy e => by have := own_rowD' h.own hy; omega)
  rw [hj] at ho
  refine ⟨fun hn => ?_, fun x hx => ?_, (hM.below hb).fits.takeD 302⟩
  · have hn2 : 0 < j := by
      have h1 := ho.1
      rw [List.length_map] at h1
      rw [List.length_map] at hn
      omega
    obtain ⟨g, hg, hc⟩ := row_placeK ho hn2
    refine ⟨g, 0, hg, fun i x hx => ?_⟩
    rw [Nat.zero_add]
    have hx2 : ((m.rows.take 302).map cutX)[i]? = some x := hx
    rw [List.getElem?_map] at hx2
    obtain ⟨y, hy, rfl⟩ := Option.map_eq_some_iff.1 hx2
    exact hc i _ (by rw [List.getElem?_map, hy]; rfl)
  · have hx2 : x ∈ (m.rows.take 302).map cutX := hx
    obtain ⟨y, hy, rfl⟩ := List.mem_map.1 hx2
    exact ((hM.below hb).row y (List.mem_of_mem_take hy)).takeD 34
set_option maxRecDepth 100000 in
set_option maxHeartbeats 8000000 in
theorem table12_any (m : MachX) (hfc : m.fits.length ≤ m.fc) (hrc : ∀ x ∈ m.rows, x.2.1.length ≤ x.2.2) (w : World) (hM : MachD w m) :
    Calls Tryd.prog 10 #[m.v] w fun e w' => ∃ o c, e = .returned (tabX m o c).v ∧ MachD w' (tabX m o c) ∧ (∀ k, inQ o k → w.heap.size ≤ k) ∧ Below w.heap.size w w' := by
  obtain ⟨P, hP⟩ : ∃ P, (fun (e : Ending) (w' : World) => ∃ o c, e = .returned (tabX m o c).v ∧ MachD w' (tabX m o c) ∧ (∀ k, inQ o k → w.heap.size ≤ k) ∧ Below w.heap.size w w') = P := ⟨_, rfl⟩
  have HP := Lib.hid hP
  rw [hP]
  obtain ⟨W, hW⟩ : ∃ W, (w.alloc (mchO m.no m.rows.length m.nc m.fo m.fits.length m.fc)).alloc (mchO none 0 0 none 0 0) = W := ⟨_, rfl⟩
  have A1 : Below w.heap.size w W := by rw [← hW]; exact ((Below.refl _ _).alloc (Nat.le_refl _) _).alloc (by simp) _
  have z1 : W.heap.size = w.heap.size + 2 := by rw [← hW]; simp
  have r0 : W.heap[w.heap.size]? = some (mchO m.no m.rows.length m.nc m.fo m.fits.length m.fc) := by rw [← hW, Below.heap_alloc _ _ _ (by simp)]; exact heap_alloc_new _ _
  have r1 : W.heap[w.heap.size + 1]? = some (mchO none 0 0 none 0 0) := by
    rw [← hW]
    have := heap_alloc_new (w.alloc (mchO m.no m.rows.length m.nc m.fo m.fits.length m.fc)) (mchO none 0 0 none 0 0)
    rwa [World.size_alloc] at this
  have HMM := Lib.hid hM
  have HRR := Lib.hid hM.rows
  have HPM : Hid (∀ (o : Option Addr) (c : Nat) (W5 : World), MachD W5 (tabX m o c) → (∀ k, inQ o k → w.heap.size ≤ k) → Below w.heap.size w W5 → P (.returned (tabX m o c).v) W5) := Lib.hid fun o c W5 h1 h0 h2 => by rw [← hP]; exact ⟨o, c, rfl, h1, h0, h2⟩
  obtain ⟨no, rows, nc, fo, fits, fc⟩ := m
  simp only at hfc hrc r0 hW HRR ⊢
  obtain ⟨n, hn⟩ : ∃ n, fits.length = n := ⟨_, rfl⟩
  obtain ⟨q, hq⟩ : ∃ n, rows.length = n := ⟨_, rfl⟩
  rw [hn] at hfc
  simp only [MachX.v, hn, hq] at r0 hW ⊢
  obtain ⟨k, hk⟩ : ∃ k, min n 302 = k := ⟨_, rfl⟩
  have hk2 : min ((n : Nat) : Int) 302 = ((k : Nat) : Int) := by omega
  have hkn : k ≤ n := by omega
  have hkc : k ≤ fc := by omega
  obtain ⟨W3, hW3⟩ : ∃ W3, W.alloc (mchO none 0 0 fo k fc) = W3 := ⟨_, rfl⟩
  have b3 : Below W.heap.size W W3 := by rw [← hW3]; exact (Below.refl _ _).alloc (Nat.le_refl _) _
  have z3 : W3.heap.size = w.heap.size + 3 := by rw [← hW3]; simp; omega
  obtain ⟨c0, c1, _, _, cl⟩ := mac5 r0
  have HR3 : Hid (W3.heap[w.heap.size + 2]? = some (mchO none 0 0 fo k fc)) := Lib.hid (by
    rw [← hW3]
    have := heap_alloc_new W (mchO none 0 0 fo k fc)
    rwa [z1] at this)
  have HRA := Lib.hid (row_below r0 b3)
  have HRB := Lib.hid (row_below r1 b3)
  have HB3 := Lib.hid (A1.trans (b3.mono A1.size))
  have HN := Lib.hid hn
  have HQ := Lib.hid hq
  have HK := Lib.hid hk
  have HW := Lib.hid hW
  have HW3 := Lib.hid hW3
  have HZ3 := Lib.hid z3
  have HRC := Lib.hid hrc
  clear hP hW A1 r0 r1 hn hq hk hM hW3 b3 z3 hrc
  go_enter Tryd.func10, Tryd.ntmps10
  go_wp2_with fail
  rw [HW.out, HW3.out]
  have hz3 : w.heap.size + 2 < W3.heap.size := by rw [HZ3.out]; omega
  have HI0 : Hid (TabD w W3 fo k fc rows 0 none 0 W3) := Lib.hid ⟨HR3.out, World.ownsRow_nil _ _ _ _, Moves.refl _ _⟩
  go_loopg [4] (min q 302) (fun d v wr => ∃ (j : Nat) (o : Option Addr) (c : Nat), v = .int .i64 (j : Nat) ∧ j ≤ min q 302 ∧ min q 302 - j = d ∧ Hid (TabD w W3 fo k fc rows j o c wr))
  case atStart => exact ⟨0, none, 0, rfl, Nat.zero_le _, rfl, HI0⟩
  case round =>
    obtain ⟨j, o, c, rfl, hj, rfl, HI⟩ := hrel
    have hI := HI.out
    obtain ⟨e0, e1, e2, e3, e4⟩ := mac5 hI.row
    have hbr : Below (w.heap.size + 2) W3 wr := ⟨hI.kept.os, hI.kept.tape, hI.kept.output, hI.kept.size, fun x hx => hI.kept.block x (by rw [HZ3.out]; omega) (by omega)⟩
    have hra : wr.heap[w.heap.size]? = some (mchO no q nc fo n fc) := (hbr.block _ (by omega)).trans HRA.out
    obtain ⟨f0, f1, f2, f3, f4⟩ := mac5 hra
    have hbw : Below w.heap.size w wr := HB3.out.trans (hbr.mono (by omega))
    rcases Nat.lt_or_ge j (min q 302) with hlt | hge
    · have hj1 : ((j : Nat) : Int) < ((q : Nat) : Int) := by omega
      have hj2 : ((j : Nat) : Int) < 302 := by omega
      have hj3 : j < q := by omega
      have hjb : j < 1000000 := by omega
      obtain ⟨x, hx⟩ : ∃ x, rows[j]? = some x := ⟨_, List.getElem?_eq_getElem (by rw [HQ.out]; exact hj3)⟩
      obtain ⟨g, off, rfl, hcl⟩ := HRR.out (by rw [HQ.out]; omega)
      have k0 := cell_keepQ hbw (hcl j x hx)
      have hg := World.block_lt_of_cell? _ _ k0
      have hst := tabD_step hI HZ3.out (by omega) hx
      have hsc := HRC.out x (List.mem_of_getElem? hx)
      obtain ⟨so, b, sc⟩ := x
      obtain ⟨bl, hbl⟩ : ∃ n, b.length = n := ⟨_, rfl⟩
      obtain ⟨kl, hkl⟩ : ∃ n, (b.take 34).length = n := ⟨_, rfl⟩
      have hkl2 : min ((bl : Nat) : Int) 34 = ((kl : Nat) : Int) := by rw [List.length_take] at hkl; omega
      have hkb : kl ≤ bl := by rw [List.length_take] at hkl; omega
      simp only [hbl] at k0 hsc
      have hkc2 : kl ≤ sc := by omega
      simp only [cutX, slX, hkl] at hst
      obtain ⟨g9, c9, w9, hr9, s1, s3, s4, hI9⟩ := hst
      have HI9 := Lib.hid hI9
      have hfol : Tryd.prog.follows .mixedOrders = true := by kernel_rfl
      clear hI hI9 hcl hsc hx hbl hkl hbr hra hbw
      go_wp2_with fail
      go_region
      all_goals
        go_simp
        go_wp2_with fail
        go_roundg (min q 302 - (j + 1))
        case measure => omega
        case rel => exact ⟨j + 1, some ⟨g9, 0, none⟩, c9, by simp, by omega, rfl, HI9⟩
    · have hjm : j = min q 302 := by omega
      have hrb : wr.heap[w.heap.size + 1]? = some (mchO none 0 0 none 0 0) := (hbr.block _ (by omega)).trans HRB.out
      obtain ⟨t0, t1, g0, g1, tl⟩ := mac5 hrb
      have r4 := mac_set0 (.slice o j c) hrb
      have r5 := mac_set1 (.slice fo k fc) r4
      have m5 : Moves (fun x => x = w.heap.size + 1) wr ((wr.setCell ⟨w.heap.size + 1, 0, none⟩ (.slice o j c)).setCell ⟨w.heap.size + 1, 1, none⟩ (.slice fo k fc)) := (Moves.setCell (S := fun x => x = w.heap.size + 1) rfl).trans (Moves.setCell (S := fun x => x = w.heap.size + 1) rfl)
      obtain ⟨w5, hw5⟩ : ∃ w5, (wr.setCell ⟨w.heap.size + 1, 0, none⟩ (.slice o j c)).setCell ⟨w.heap.size + 1, 1, none⟩ (.slice fo k fc) = w5 := ⟨_, rfl⟩
      rw [hw5] at r5 m5
      have hb5 : Below w.heap.size w w5 := Moves.below hbw hbw.size m5 (fun x hx => by omega)
      have htk : rows.take j = rows.take 302 := by
        rw [hjm]
        rcases Nat.le_total q 302 with h | h
        · rw [Nat.min_eq_left h, List.take_of_length_le (by rw [HQ.out]; exact Nat.le_refl _), List.take_of_length_le (by rw [HQ.out]; exact h)]
        · rw [Nat.min_eq_right h]
      have hmm := tab_mach (m := ⟨no, rows, nc, fo, fits, fc⟩) hI htk m5 HZ3.out hb5 HMM.out
      have hl1 : ((rows.take 302).map cutX).length = j := by rw [List.length_map, List.length_take, HQ.out]; omega
      have hl2 : (fits.take 302).length = k := by rw [List.length_take, HN.out]; have := HK.out; omega
      have HPP : Hid (P (.returned (.agg #[.slice o j c, .slice fo k fc])) w5) := Lib.hid (by
        have := HPM.out o c w5 hmm (fun k hk => by have := own_rowD' hI.own (inQ_own.1 hk); have := HZ3.out; omega) hb5
        simp only [MachX.v, hl1, hl2] at this
        exact this)
      have HW5 := Lib.hid hw5
      have HR5 := Lib.hid r5
      have hcase : (¬ ((j : Nat) : Int) < ((q : Nat) : Int)) ∨ (((j : Nat) : Int) < ((q : Nat) : Int) ∧ ¬ ((j : Nat) : Int) < 302) := by omega
      clear hmm hI htk hrb r4 r5 m5 hw5 hb5 hl1 hl2 hbr hra hbw hjm hge hj HPM
      rcases hcase with h1 | ⟨h1, h2⟩
      all_goals
        go_wp2_with fail
        rw [HW5.out]
        exact bodyPost_ret (v := .agg #[.slice o j c, .slice fo k fc]) (results_cell_row rfl _ _ (w.heap.size + 1) _ _ _ _ rfl HR5.out Tryd.underlying25 rfl (by kernel_rfl)) rfl HPP.out
end Go.Proofs.YtaoooocalpkhjaaDoor
namespace Go.Proofs.YtaoooocalpkhjaaDoor
open Go.RowKit Go.Shelf Go.Maps
attribute [local go_sem] Oper.semAt_some

set_option maxRecDepth 100000 in
set_option maxHeartbeats 2000000 in
theorem RightD_any (m : MachX) (n : Int) (w : World) (hM : MachD w m) (hz : m.rows.length ≤ 1000000000) (hz2 : m.fits.length ≤ 1000000000) :
    Calls Tryd.prog 13 #[m.v, .int .i64 n] w fun e w' => e = .returned (.bool (m.B n)) ∧ Below w.heap.size w w' := by
  obtain ⟨w1, hw1⟩ : ∃ w1, w.alloc (.cells #[.slice m.no m.rows.length m.nc, .slice m.fo m.fits.length m.fc] 25) = w1 := ⟨_, rfl⟩
  have b1 : Below w.heap.size w w1 := by rw [← hw1]; exact (Below.refl _ _).alloc (Nat.le_refl _) _
  have r1 : w1.heap[w.heap.size]? = some (.cells #[.slice m.no m.rows.length m.nc, .slice m.fo m.fits.length m.fc] 25 (0, 0)) := by rw [← hw1]; exact heap_alloc_new _ _
  obtain ⟨c0, c1⟩ := mac_cells r1
  have l1 := World.block_lt_of_cell? w1 _ c0
  have HR0 := rightD_any m n w1 (hM.below b1) hz hz2
  obtain ⟨b, hb⟩ : ∃ b, m.B n = b := ⟨_, rfl⟩
  rw [show machB (m.rows.map (·.2.1)) m.fits n = b from hb] at HR0
  rw [hb]
  obtain ⟨no, rows, nc, fo, fits, fc⟩ := m
  simp only at c0 c1 hw1
  replace HR0 : Calls Tryd.prog 32 #[.agg #[.slice no rows.length nc, .slice fo fits.length fc, .int .i64 n]] w1 fun e w' => e = .returned (.bool b) ∧ Below w1.heap.size w1 w' := HR0
  show Calls _ _ #[.agg #[.slice no rows.length nc, .slice fo fits.length fc], .int .i64 n] _ _
  obtain ⟨q, hq⟩ : ∃ q, rows.length = q := ⟨_, rfl⟩
  obtain ⟨f, hf⟩ : ∃ f, fits.length = f := ⟨_, rfl⟩
  rw [hq] at HR0 c0 hw1 ⊢
  rw [hf] at HR0 c1 hw1 ⊢
  have HR := Lib.hid HR0
  have HW1 := Lib.hid hw1
  have HB1 := Lib.hid b1
  clear hw1 b1 r1 hM hz hz2 HR0 hq hf hb
  go_enter Tryd.func13, Tryd.ntmps13
  go_wp2_with fail
  rw [HW1.out]
  refine HR.out.mono ?_
  rintro e W3 ⟨rfl, b3⟩
  have HB3 := Lib.hid (HB1.out.trans (b3.mono HB1.out.size))
  clear b3
  go_wp2_with fail
  go_ret
  exact ⟨rfl, HB3.out⟩
end Go.Proofs.YtaoooocalpkhjaaDoor
namespace Go.Proofs.YtaoooocalpkhjaaDoor
open Go.RowKit Go.Shelf Go.Maps
attribute [local go_sem] Oper.semAt_some

theorem all_takeP (R : List (List Int)) (n : Int) {L : List Int} {k : Nat} (hk : k ≤ L.length) : (allD R n L).take (k + 1) = allD R n (L.take k) := by
  refine List.ext_getElem? fun j => ?_
  have hl : (L.take k).length = k := by rw [List.length_take]; omega
  rcases Nat.lt_or_ge k j with h | h
  · rw [List.getElem?_eq_none (by rw [List.length_take]; omega), List.getElem?_eq_none (by rw [allD_len, hl]; omega)]
  · rw [List.getElem?_take_of_lt (by omega), allD_at R n L (by omega), allD_at R n _ (by rw [hl]; omega), List.take_take, Nat.min_eq_left h]
theorem mach_keptP {W W' : World} {g : Nat} {u v : Option Addr × Nat × Nat} {m : MachX} (h : MachD W m) (hrow : W.heap[g]? = some (.cells #[.slice u.1 u.2.1 u.2.2, .slice v.1 v.2.1 v.2.2] 25 (0, 0))) (hno : ∀ k, inQ m.no k → k ≠ g) (hm : Moves (fun k => k = g) W W') : MachD W' m := by
  have key : ∀ (o : Option Addr) (l : List Int), NumsAt W o l → 0 < l.length → ∀ k, inQ o k → k ≠ g := fun o l hl h0 k hk e => by
    obtain ⟨g', off, ho, hc⟩ := hl h0
    obtain ⟨a, ha, rfl⟩ := hk
    rw [ho] at ha
    obtain rfl := Option.some.inj ha
    have e : g' = g := e
    subst e
    have h1 := hc 0 _ (List.getElem?_eq_getElem h0)
    rw [cell_of_row _ _ _ _ _ _ hrow] at h1
    match off, h1 with
    | 0, h1 => simp at h1
    | 1, h1 => simp at h1
    | n + 2, h1 => simp at h1
  exact ⟨h.rows.moves hm fun h0 k hk => hno k hk, fun x hx => (h.row x hx).moves hm fun h0 k hk => key _ _ (h.row x hx) h0 k hk, h.fits.moves hm fun h0 k hk => key _ _ h.fits h0 k hk⟩
def GoPQ (A : List Nat) (k : Nat) (w : World) (e : Ending) (w' : World) : Prop := ∃ o' cap', e = .returned (.tuple #[.slice o' k cap', .int .i64 0]) ∧ w'.ownsRow (w.heap.size + 1) 3 1 (.slice o' k cap') k (A.map (fun s : Nat => Value.int .i64 ((s : Nat) : Int))) ∧ Below w.heap.size w w'
theorem wrap_iP {j : Nat} (h : j < 1000000) : IntKind.i64.wrap (((j : Nat) : Int) + 1) = ((j : Nat) : Int) + 1 := wrap_id (by omega) (by omega)
theorem lt_nextP {j n : Nat} (h : j + 1 < n) : ((j : Nat) : Int) + 1 < ((n : Nat) : Int) := by omega
theorem toNat_jP (j : Nat) : (((j : Nat) : Int) + 1).toNat = j + 1 := by omega
theorem zero_jP (j : Nat) : 0 ≤ ((j : Nat) : Int) + 1 := by omega
theorem wrap_factsP {k c : Nat} (h : k + 1 ≤ c) (hk : k < 1000000) : (wrap64 (((k : Nat) : Int) + 1)).toNat = k + 1 ∧ 0 ≤ wrap64 (((k : Nat) : Int) + 1) ∧ wrap64 (((k : Nat) : Int) + 1) ≤ ((c : Nat) : Int) := by
  unfold wrap64; omega
theorem wrap_jP {j : Nat} (h : j < 1000000) : wrap64 (((j : Nat) : Int) + 1) = ((j : Nat) : Int) + 1 := by unfold wrap64; omega
theorem wrap_nextP {k k1 : Nat} (h : k ≤ 1000) (e : k + 1 = k1) : wrap64 (((k : Nat) : Int) + 1) = ((k1 : Nat) : Int) := by unfold wrap64; omega
theorem cast_nextP {k k1 : Nat} (e : k + 1 = k1) : ((k : Nat) : Int) + 1 = ((k1 : Nat) : Int) := by omega
theorem tab_sizes (m : MachX) (o : Option Addr) (c : Nat) : (tabX m o c).rows.length ≤ 302 ∧ (tabX m o c).fits.length ≤ 302 := by
  refine ⟨?_, ?_⟩
  · show ((m.rows.take 302).map cutX).length ≤ _
    rw [List.length_map, List.length_take]; omega
  · show (m.fits.take 302).length ≤ _
    rw [List.length_take]; omega
set_option maxRecDepth 100000 in
set_option maxHeartbeats 16000000 in
theorem dfaParts_anyL (m0 : MachX) (hrm : RoomM m0) (n : Int) (lo : Option Addr) (L0 : List Int) (lcap : Nat) (hlc : L0.length ≤ lcap) (a : Int) (w : World) (aR aM aP aS : Addr) (hG : GlobD w aR aM) (hQ : GlobH w aP aS) (hM : MachD w m0) (hL : NumsAt w lo L0) :
    Calls Tryd.prog 3 #[m0.v, .int .i64 n, .slice lo L0.length lcap, .int .i64 a] w fun e w' => e = .returned (.bool true) ∧ Below w.heap.size w w' := by
  obtain ⟨P, hP⟩ : ∃ P, (fun (e : Ending) (w' : World) => e = .returned (.bool true) ∧ Below w.heap.size w w') = P := ⟨_, rfl⟩
  have HPP : Hid (∀ W, Below w.heap.size w W → P (.returned (.bool true)) W) := by rw [← hP]; exact Lib.hid fun W h => ⟨rfl, h⟩
  rw [hP]
  obtain ⟨w1, hw1⟩ : ∃ w1, w.alloc (.cells #[.slice m0.no m0.rows.length m0.nc, .slice m0.fo m0.fits.length m0.fc] 25) = w1 := ⟨_, rfl⟩
  have b1 : Below w.heap.size w w1 := by rw [← hw1]; exact (Below.refl _ _).alloc (Nat.le_refl _) _
  have r1 : w1.heap[w.heap.size]? = some (mchO m0.no m0.rows.length m0.nc m0.fo m0.fits.length m0.fc) := by rw [← hw1]; exact heap_alloc_new _ _
  have z1 : w1.heap.size = w.heap.size + 1 := by rw [← hw1]; simp
  have HSH := Lib.hid (shown12_any w1 aR aM aP aS (hG.below b1) (hQ.below b1))
  have HTM := Lib.hid (fun W (hb : Below w.heap.size w W) => table12_any m0 hrm.1 hrm.2 W (hM.below hb))
  have HLI := Lib.hid (fun W => list12_any lo L0.length lcap hlc W)
  have HLN := Lib.hid (fun W (hb : Below w.heap.size w W) => (hL.below hb).takeD 30)
  have hl30 : (L0.take 30).length = min L0.length 30 := by rw [List.length_take, Nat.min_comm]
  have HGD := Lib.hid hG
  obtain ⟨L, hLL⟩ : ∃ L, L0.take 30 = L := ⟨_, rfl⟩
  rw [hLL] at HLN hl30
  obtain ⟨l0, hl0⟩ : ∃ q, L0.length = q := ⟨_, rfl⟩
  rw [hl0] at HLI hl30 hlc ⊢
  rw [← hl30] at HLI
  have hL30 : L.length ≤ 30 := by omega
  have hLcap : L.length ≤ lcap := by omega
  have HTS := Lib.hid (fun o c => tab_sizes m0 o c)
  have HW1 := Lib.hid hw1
  have HB1 := Lib.hid b1
  have HZ1 := Lib.hid z1
  have HR0 := Lib.hid r1
  obtain ⟨pa, hpa⟩ : ∃ pa : Nat, max a 0 = ((pa : Nat) : Int) := ⟨(max a 0).toNat, by omega⟩
  obtain ⟨k, hk⟩ : ∃ k, min pa L.length = k := ⟨_, rfl⟩
  have hkl : k ≤ L.length := by omega
  have hmk : min ((pa : Nat) : Int) ((L.length : Nat) : Int) = ((k : Nat) : Int) := by omega
  clear hP hw1 b1 r1 z1 hG hQ hM hL hrm hlc hLL hl0 hl30
  go_enter Tryd.func3, Tryd.ntmps3
  go_wp2_with fail
  rw [HW1.out]
  refine HSH.out.mono ?_
  rintro e w2 ⟨rfl, b2⟩
  have z2 : w.heap.size + 1 ≤ w2.heap.size := by have := b2.size; have := HZ1.out; omega
  have hr0 := row_below HR0.out b2
  have hb2 := HB1.out.trans (b2.mono HB1.out.size)
  obtain ⟨c0, c1, _, _, l2⟩ := mac5 hr0
  have HTM2 := Lib.hid (HTM.out w2 hb2)
  have HRA := Lib.hid hr0
  have HB2 := Lib.hid hb2
  clear b2 hr0 hb2 HSH HW1 HR0 HB1 HTM
  obtain ⟨q0, hq0⟩ : ∃ q, m0.rows.length = q := ⟨_, rfl⟩
  obtain ⟨f0, hf0⟩ : ∃ q, m0.fits.length = q := ⟨_, rfl⟩
  simp only [MachX.v, hq0, hf0] at HTM2 c0 c1 HRA
  simp only [MachX.v, hq0, hf0]
  go_wp2_with fail
  refine HTM2.out.mono ?_
  rintro e w3 ⟨o1, k1, he, hM3, hno3, b3⟩
  obtain ⟨m, hm⟩ : ∃ m, tabX m0 o1 k1 = m := ⟨_, rfl⟩
  have hts : m.rows.length ≤ 302 ∧ m.fits.length ≤ 302 := by rw [← hm]; exact HTS.out o1 k1
  have hmo : o1 = m.no := by rw [← hm]
  have he : e = .returned m.v := by rw [← hm]; exact he
  rw [hm] at hM3
  rw [hmo] at hno3
  subst he
  have hr03 := row_below HRA.out b3
  have hb3 := HB2.out.trans (b3.mono HB2.out.size)
  obtain ⟨c0, c1, g0, g1, l3⟩ := mac5 hr03
  obtain ⟨q, hq⟩ : ∃ q, m.rows.length = q := ⟨_, rfl⟩
  obtain ⟨f, hf⟩ : ∃ q, m.fits.length = q := ⟨_, rfl⟩
  obtain ⟨hr4, m4⟩ := two_setD (.slice m.no q m.nc) (.slice m.fo f m.fc) hr03
  obtain ⟨W4, hW4⟩ : ∃ W4, (w3.setCell ⟨w.heap.size, 0, none⟩ (.slice m.no q m.nc)).setCell ⟨w.heap.size, 1, none⟩ (.slice m.fo f m.fc) = W4 := ⟨_, rfl⟩
  rw [hW4] at hr4 m4
  have hM4 := mach_keptP (u := (_, _, _)) (v := (_, _, _)) hM3 hr03 (fun k hk => by have := hno3 k hk; omega) m4
  have hb4 := Moves.below hb3 hb3.size m4 (fun k hk => by omega)
  have HK : Hid (∀ W, Below W4.heap.size W4 W → W.heap[w.heap.size]? = some (mchO m.no q m.nc m.fo f m.fc) ∧ MachD W m ∧ NumsAt W lo L ∧ Below w.heap.size w W) := Lib.hid fun W hb =>
    ⟨row_below hr4 hb, hM4.below hb, HLN.out W (hb4.trans (hb.mono hb4.size)), hb4.trans (hb.mono hb4.size)⟩
  have HW4 := Lib.hid hW4
  have HQ := Lib.hid hq
  obtain ⟨nl, hnl⟩ : ∃ q, L.length = q := ⟨_, rfl⟩
  have HNL := Lib.hid hnl
  rw [hnl] at HLI hmk hkl hL30 hLcap
  have htk : (L.take k).length = k := by rw [List.length_take, hnl]; omega
  have HSZ := Lib.hid hts
  have HRi := Lib.hid (fun W (hM : MachD W m) => RightD_any m n W hM (by omega) (by omega))
  have HTK : Hid (∀ W, NumsAt W lo L → NumsAt W lo (L.take k)) := Lib.hid fun W h => h.takeD k
  clear b3 hr03 hb3 hM3 hM4 hr4 m4 hW4 hno3 hmo hm hb4 HTM2 HTS HRA HB2 hts l2 hk
  obtain ⟨h0, hM, hN, hb⟩ := HK.out W4 (Below.refl _ _)
  have HG4 := Lib.hid (HGD.out.below hb)
  obtain ⟨p0, p1, _, _, l4⟩ := mac5 h0
  have HM4 := Lib.hid hM
  have HN4 := Lib.hid hN
  clear h0 hM hN hb
  cases hB : m.B n with
  | false =>
    have hG1 := GoD_wrong m n lo nl lcap hB (by have := HSZ.out.1; omega) (by have := HSZ.out.2; omega) W4 aR aM HG4.out HM4.out
    have HG2 := Lib.hid (fun W (hM : MachD W m) (hG : GlobD W aR aM) => GoD_wrong m n lo k lcap hB (by have := HSZ.out.1; omega) (by have := HSZ.out.2; omega) W aR aM hG hM)
    rw [hB] at HRi
    simp only [MachX.v, hq, hf] at hG1 HG2 HRi
    simp only [MachX.v, hq, hf]
    have HG1 := Lib.hid hG1
    clear hG1 hq hf hnl htk
    go_wp2_with fail
    rw [HW4.out]
    clear c0 c1 g0 g1 l3
    refine (HLI.out W4).mono ?_
    rintro e _ ⟨rfl, rfl⟩
    go_wp2_with fail
    refine HG1.out.mono ?_
    rintro e w5 ⟨rfl, b5⟩
    obtain ⟨h0, hM, _, hb⟩ := HK.out w5 b5
    obtain ⟨c0, c1, _, _, l5⟩ := mac5 h0
    have hG5 := HG2.out w5.drew (hM.below ((Below.refl _ _).drew)) (HGD.out.below (hb.drew))
    have HG5 := Lib.hid hG5
    have HB5 := Lib.hid b5
    clear h0 hM hb b5 hG5 HG1 HG2
    go_wp2_with fail
    go_region_with (go_at_call 12; refine HG5.out.mono ?_; rintro e w6 ⟨rfl, b6⟩)
    all_goals
      have hb6 := HB5.out.trans ((show Below w5.heap.size w5 w6 from ((Below.refl _ _).drew).trans b6).mono HB5.out.size)
      obtain ⟨h0, hM, _, hb⟩ := HK.out w6 hb6
      obtain ⟨c0, c1, _, _, l6⟩ := mac5 h0
      have HR6 := Lib.hid (HRi.out w6 hM)
      have HX := Lib.hid (fun W (h : Below w6.heap.size w6 W) => HPP.out W (hb.trans (h.mono hb.size)))
      clear h0 hM hb b6 hb6 HRi HPP HK
      go_wp2_with fail
      refine HR6.out.mono ?_
      rintro e w7 ⟨rfl, b7⟩
      have HY := Lib.hid (HX.out w7 b7)
      clear b7
      go_wp2_with fail
      exact HY.out
  | true =>
    have hG1 := GoD_right m n lo L lcap hB (by omega) W4 aR aM HG4.out HM4.out HN4.out
    have HG2 := Lib.hid (fun W (hM : MachD W m) (hN : NumsAt W lo L) (hG : GlobD W aR aM) => GoD_right m n lo (L.take k) lcap hB (by rw [htk]; omega) W aR aM hG hM (HTK.out W hN))
    have HBB : Hid (machB (m.rows.map (·.2.1)) m.fits n = true) := Lib.hid hB
    have HALL : Hid (∀ j, j ≤ L.length → (allD (m.rows.map (·.2.1)) n L)[j]? = some (stD' (m.rows.map (·.2.1)) n (L.take j))) := Lib.hid fun j hj => allD_at _ _ _ hj
    have HSN : Hid (∀ j c, L[j]? = some c → stD' (m.rows.map (·.2.1)) n (L.take (j + 1)) = nextD (m.rows.map (·.2.1)) n (stD' (m.rows.map (·.2.1)) n (L.take j)) c) := Lib.hid fun j c h => stD'_snoc h
    have HTKK := Lib.hid (all_takeP (m.rows.map (·.2.1)) n (L := L) (k := k) (by rw [hnl]; exact hkl))
    have hAl := allD_len (m.rows.map (·.2.1)) n L
    obtain ⟨R, hR⟩ : ∃ R, m.rows.map (·.2.1) = R := ⟨_, rfl⟩
    have HRR := Lib.hid hR
    rw [hR] at hG1 HG2 HBB HALL HSN HTKK hAl
    obtain ⟨A, hA⟩ : ∃ A, allD R n L = A := ⟨_, rfl⟩
    rw [hA] at hG1 HALL HTKK hAl
    rw [← HTKK.out] at HG2
    rw [hnl] at hG1 HALL hAl
    rw [htk] at HG2
    simp only [MachX.v, hq, hf] at hG1 HG2
    simp only [MachX.v, hq, hf]
    have HG1 := Lib.hid hG1
    have HAL := Lib.hid hAl
    clear hG1 hq hf hnl htk hR hA hAl hB HRi
    obtain ⟨nl1, hnl1⟩ : ∃ x, nl + 1 = x := ⟨_, rfl⟩
    obtain ⟨k1, hk1⟩ : ∃ x, k + 1 = x := ⟨_, rfl⟩
    have HNL1 := Lib.hid hnl1
    have HK1 := Lib.hid hk1
    have E1 := Lib.hid (cast_nextP hnl1)
    have E2 := Lib.hid (wrap_nextP (Nat.le_trans hL30 (by decide)) hnl1)
    have E3 := Lib.hid (cast_nextP hk1)
    have E4 := Lib.hid (wrap_nextP (Nat.le_trans (Nat.le_trans hkl hL30) (by decide)) hk1)
    have hk1l : k1 ≤ nl1 := by rw [← hk1, ← hnl1]; exact Nat.succ_le_succ hkl
    have hn31 : nl1 ≤ 31 := by rw [← hnl1]; exact Nat.succ_le_succ hL30
    rw [hnl1] at HG1 HAL
    rw [hk1] at HG2 HTKK
    clear hnl1 hk1
    go_wp2_with fail
    rw [HW4.out]
    clear c0 c1 g0 g1 l3
    refine (HLI.out W4).mono ?_
    rintro e _ ⟨rfl, rfl⟩
    go_wp2_with fail
    refine HG1.out.mono ?_
    rintro e w5 ⟨oa, ca, rfl, hoa, b5⟩
    obtain ⟨h0, hM, hN, hb⟩ := HK.out w5 b5
    obtain ⟨c0, c1, _, _, l5⟩ := mac5 h0
    have hd : Below w5.heap.size w5 w5.drew := (Below.refl _ _).drew
    have HG5 : Hid (Calls Tryd.prog 12 #[.agg #[.slice m.no q m.nc, .slice m.fo f m.fc], .int .i64 n, .slice lo k lcap] w5.drew (GoPQ (A.take k1) k1 w5.drew)) := Lib.hid (HG2.out w5.drew (hM.below hd) (hN.below hd) (HGD.out.below (hb.drew)))
    have HB5 := Lib.hid b5
    have HOA := Lib.hid hoa
    clear h0 hM hN hb b5 hd hoa HG1 HG2
    go_wp2_with fail
    go_region_with (go_at_call 12; refine HG5.out.mono ?_; rintro e w6 ⟨ob, cb, rfl, hob, b6⟩)
    all_goals
      have hb56 : Below w5.heap.size w5 w6 := ((Below.refl _ _).drew).trans b6
      have HB6 := Lib.hid (HB5.out.trans (hb56.mono HB5.out.size))
      have HOA6 := Lib.hid (own_below HOA.out hb56)
      have HOB6 := Lib.hid hob
      clear hb56 b6 hob HOA HB5 HG5
      obtain ⟨h0, hM, hN, hb⟩ := HK.out w6 HB6.out
      obtain ⟨c0, c1, _, _, l6⟩ := mac5 h0
      have dn1 : (((nl1 : Nat) : Int) != ((nl : Nat) : Int) + 1) = false := by rw [E1.out]; simp
      have dk1 : (((k1 : Nat) : Int) != ((k : Nat) : Int) + 1) = false := by rw [E3.out]; simp
      have HOAN : Hid (NumsAt w6 oa (natsZ A)) := Lib.hid (by rw [← HAL.out] at HOA6; exact nums_ownN HOA6.out)
      clear h0 hM hN hb
      go_wp2_with fail
      have HA0 : Hid (A[0]? = some 0) := Lib.hid (by rw [HALL.out 0 (Nat.zero_le _)]; rfl)
      go_loopg [14] nl (fun d v14 wr => ∃ (j : Nat), v14 = .int .i64 (j : Nat) ∧ j ≤ nl ∧ d = nl - j ∧ Hid (Below w6.heap.size w6 wr))
      case atStart => exact ⟨0, rfl, Nat.zero_le _, rfl, Lib.hid (Below.refl _ _)⟩
      case round =>
        obtain ⟨j, rfl, hj, rfl, HB⟩ := hrel
        clear he hmk hpa dn1 dk1
        obtain ⟨h0, hM, hN, hb⟩ := HK.out wr (HB6.out.trans (HB.out.mono HB6.out.size))
        obtain ⟨c0, c1, _, _, l6⟩ := mac5 h0
        rcases Nat.lt_or_ge j nl with hlt | hge
        · have d1 : decide (((j : Nat) : Int) < ((nl : Nat) : Int)) = true := decide_eq_true (by omega)
          obtain ⟨N, rfl⟩ : ∃ N : Nat, n = ((N : Nat) : Int) := ⟨n.toNat, by have := (machB_parts HBB.out).1; omega⟩
          have hjm : j < 1000000 := by omega
          obtain ⟨c, hc⟩ : ∃ c, L[j]? = some c := ⟨_, List.getElem?_eq_getElem (by rw [HNL.out]; exact hlt)⟩
          obtain ⟨h1n, h32n, h1q, h300, _, _, _⟩ := machB_parts HBB.out
          have hRl : R.length = q := by rw [← HRR.out, List.length_map]; exact HQ.out
          rw [hRl] at h1q h300
          obtain ⟨s, hs⟩ : ∃ s, stD' R ((N : Nat) : Int) (L.take j) = s := ⟨_, rfl⟩
          have hsq : s < q := by rw [← hs, ← hRl]; exact st_lt HBB.out (L.take j) 0 (by rw [hRl]; omega)
          have ha1 := HALL.out j (by omega)
          have ha2 := HALL.out (j + 1) (by omega)
          rw [HSN.out j c hc, hs] at ha2
          rw [hs] at ha1
          obtain ⟨x, hx⟩ : ∃ x, m.rows[s]? = some x := ⟨_, List.getElem?_eq_getElem (by rw [HQ.out]; exact hsq)⟩
          have hr : R[s]? = some x.2.1 := by rw [← HRR.out, List.getElem?_map, hx]; rfl
          obtain ⟨i, hi, hin⟩ := classD_nat (n := ((N : Nat) : Int)) (c := c) (by omega)
          obtain ⟨v, hv, hnv, hvl⟩ := next_at HBB.out hr hi hin
          rw [hnv] at ha2
          obtain ⟨gl, ol, rfl, hcl⟩ := hN (by rw [HNL.out]; omega)
          have kL := hcl j c hc
          have lgl := World.block_lt_of_cell? _ _ kL
          obtain ⟨ga, offa, rfl, hca⟩ := (HOAN.out.below HB.out) (by have := HNL1.out; rw [List.length_map, HAL.out]; omega)
          have ka := hca j ((s : Nat) : Int) (by rw [List.getElem?_map, ha1]; rfl)
          have ka1 := hca (j + 1) ((v : Nat) : Int) (by rw [List.getElem?_map, ha2]; rfl)
          have ka2 := ka1
          rw [← Nat.add_assoc] at ka2
          have lga := World.block_lt_of_cell? _ _ ka
          obtain ⟨g, off, hmo, hcr⟩ := hM.rows (by rw [HQ.out]; omega)
          have k1r := hcr s x hx
          have lg := World.block_lt_of_cell? _ _ k1r
          obtain ⟨xo, xl, xc⟩ := x
          have hil : i < xl.length := (List.getElem?_eq_some_iff.1 hv).1
          obtain ⟨g2, off2, he2, hc2⟩ := (hM.row _ (List.mem_of_getElem? hx)) (by show 0 < xl.length; omega)
          have he2 : xo = some ⟨g2, off2, none⟩ := he2
          subst he2
          have k2r := hc2 i _ hv
          have lg2 := World.block_lt_of_cell? _ _ k2r
          obtain ⟨xn, hxn⟩ : ∃ xn, xl.length = xn := ⟨_, rfl⟩
          simp only [hxn] at k1r hil
          rw [hmo] at c0
          have hin2 : i ≤ N := by omega
          have hn40 : N ≤ 32 := by omega
          have hs300 : s < 1000 := by omega
          have ds0 : decide (((s : Nat) : Int) < 0) = false := decide_eq_false (by omega)
          have hj31 : j + 1 < nl1 := by have := HNL1.out; omega
          have hjl : j < nl1 := by omega
          have HBD := Lib.hid (fun nq => HB.out.trans ((below_drewD1 wr nq).mono HB.out.size))
          have t1 := toNat_jP j
          have t2 := zero_jP j
          have t3 : wrap64 (((j : Nat) : Int) + 1) = ((j : Nat) : Int) + 1 := wrap_jP hjm
          have t4 := wrap_iP hjm
          have t5 : ((j : Nat) : Int) + 1 < ((nl1 : Nat) : Int) := lt_nextP hj31
          clear hcl hc hcr hc2 hx hr hv hnv hs hin h1n h32n h1q h300 hxn hM hN hb h0 hmo hca ha1 ha2 hRl HPP HK HALL HSN HTKK
          by_cases hc0 : c < 0
          · have hk : classD ((N : Nat) : Int) c = ((N : Nat) : Int) := by unfold classD; rw [if_neg (by omega)]
            obtain rfl : i = N := by rw [hk] at hi; omega
            have d2 : decide (c < 0) = true := decide_eq_true hc0
            clear hk hi
            go_wp2_with fail
            go_quiet (fail)
            all_goals clear t1 t2 t3 t4 t5
            go_wp2
            go_roundg (nl - (j + 1))
            case measure => omega
            case rel => exact ⟨j + 1, by simp, by omega, rfl, Lib.hid (HBD.out _)⟩
          · by_cases hcn : ((N : Nat) : Int) ≤ c
            · have hk : classD ((N : Nat) : Int) c = ((N : Nat) : Int) := by unfold classD; rw [if_neg (by omega)]
              obtain rfl : i = N := by rw [hk] at hi; omega
              have d2 : decide (c < 0) = false := decide_eq_false hc0
              have d3 : decide (((i : Nat) : Int) ≤ c) = true := decide_eq_true hcn
              clear hk hi
              go_wp2_with fail
              go_quiet (fail)
              all_goals clear t1 t2 t3 t4 t5
              go_wp2
              go_roundg (nl - (j + 1))
              case measure => omega
              case rel => exact ⟨j + 1, by simp, by omega, rfl, Lib.hid (HBD.out _)⟩
            · have hk : classD ((N : Nat) : Int) c = c := by unfold classD; rw [if_pos (by omega)]
              obtain rfl : c = ((i : Nat) : Int) := by rw [hk] at hi; exact hi
              have d2 : decide (((i : Nat) : Int) < 0) = false := decide_eq_false hc0
              have d3 : decide (((N : Nat) : Int) ≤ ((i : Nat) : Int)) = false := decide_eq_false hcn
              clear hk hi
              go_wp2_with fail
              go_quiet (fail)
              all_goals clear t1 t2 t3 t4 t5
              go_wp2
              go_roundg (nl - (j + 1))
              case measure => omega
              case rel => exact ⟨j + 1, by simp, by omega, rfl, Lib.hid (HBD.out _)⟩
        · obtain rfl : nl = j := by omega
          have hk1 := HK1.out
          subst hk1
          have hcaN : nl1 ≤ ca := own_cap HOA6.out
          have hkc : k + 1 ≤ ca := Nat.le_trans hk1l hcaN
          have hn0 : 0 < nl1 := Nat.lt_of_lt_of_le (Nat.succ_pos k) hk1l
          have hob := HOB6.out
          obtain ⟨Z, hZ⟩ : ∃ Z, A.take (k + 1) = Z := ⟨_, rfl⟩
          have hZl : Z.length = k + 1 := by rw [← hZ, List.length_take, HAL.out]; exact Nat.min_eq_left hk1l
          have nA : NumsAt wr oa (natsZ Z) := by
            have h := (HOAN.out.below HB.out).takeD (k + 1)
            have e : (natsZ A).take (k + 1) = natsZ Z := by rw [← hZ]; unfold natsZ; rw [List.map_take]
            rw [e] at h; exact h
          have nB : NumsAt wr ob (natsZ Z) := by
            rw [hZ, ← hZl] at hob
            exact (nums_ownN hob).below HB.out
          obtain ⟨X, hX⟩ : ∃ X, natsZ Z = X := ⟨_, rfl⟩
          have hXl : X.length = k + 1 := by rw [← hX]; unfold natsZ; rw [List.length_map, hZl]
          rw [hX] at nA nB
          obtain ⟨ga, offa, rfl, hca⟩ := (HOAN.out.below HB.out) (by rw [List.length_map, HAL.out]; exact hn0)
          have ka : wr.cell? ⟨ga, offa, none⟩ = some (.int .i64 0) := hca 0 0 (by rw [List.getElem?_map, HA0.out]; rfl)
          have lga := World.block_lt_of_cell? _ _ ka
          have hkm : k < 1000000 := Nat.lt_of_le_of_lt (Nat.le_trans hkl hL30) (by decide)
          have hI := intsR_any (some ⟨ga, offa, none⟩) ob X X ca cb (by rw [hXl]; exact hkm) wr nA nB
          rw [hXl, decide_eq_true rfl] at hI
          have HI := Lib.hid hI
          have HKA : Hid (∀ W, Below wr.heap.size wr W → W.cell? ⟨ga, offa, none⟩ = some (.int .i64 0) ∧ ga < W.heap.size ∧ Hid (P (.returned (.bool true)) W)) := Lib.hid fun W h => by
            have hc := cell_keepQ h ka
            exact ⟨hc, World.block_lt_of_cell? _ _ hc, Lib.hid (HPP.out W (hb.trans (h.mono hb.size)))⟩
          have HU := Lib.hid (wrap_factsP hkc hkm)
          clear hI nA nB hX hXl hZ hZl hob hca HALL HOA6 HOAN HOB6 HB HB6 HK HSN HTKK HPP h0 hM hN hb HA0 HQ HNL HRR HNL1 HK1 E1 E2 E3 E4 hk1l hcaN hkl hL30 hkm hj HBB HAL HLI HTK
          clear c0 c1 l6
          go_wp2_with fail
          · rw [HU.out.1]
            refine HI.out.mono ?_
            rintro e w7 ⟨rfl, b7⟩
            obtain ⟨ka7, lga7, HZ7⟩ := HKA.out w7 b7
            clear b7
            go_wp2
            exact HZ7.out
          · rename_i h
            exact absurd HU.out.2 h
end Go.Proofs.YtaoooocalpkhjaaDoor
namespace Go.Proofs.YtaoooocalpkhjaaDoor
open Go.ChangeShapes Go.WideShapes Go.ChangeAt Go.RowKit Go.ChangeMaps Go.Shelf

theorem ownQ : ownKnob Tryd.prog.godebug = none := by kernel_rfl
theorem gPatQ : Tryd.prog.globalNamed "virama/nfa.errPattern" = some 5 := by kernel_rfl
theorem gStaQ : Tryd.prog.globalNamed "virama/nfa.errStates" = some 6 := by kernel_rfl
theorem gFarQ : Tryd.prog.globalNamed "virama/nfa.far" = some 7 := by kernel_rfl
theorem gPatTypeQ : (Tryd.prog.globals[5]?).map (·.type) = some 57 := by kernel_rfl
theorem gStaTypeQ : (Tryd.prog.globals[6]?).map (·.type) = some 57 := by kernel_rfl
theorem gFarTypeQ : (Tryd.prog.globals[7]?).map (·.type) = some 202 := by kernel_rfl
theorem cellsEQ : Tryd.prog.cellsOf 228 = 1 := by kernel_rfl
theorem cellsSQ : Tryd.prog.cellsOf 9 = 1 := by kernel_rfl
theorem starEQ : "*" ++ "errors.errorString" = "*errors.errorString" := by decide
theorem rowEQ (u : TypeId) (h : Tryd.prog.typeName? 3 u = some "*errors.errorString") : u = 203 :=
  typeName_ptr_named (nm := "errors.errorString") (by rw [starEQ]; kernel_rfl) (by kernel_rfl) (by decide) u (by rw [starEQ]; exact h)
abbrev laid2Q : List (String × DataW Unit) := [("virama/nfa.errPattern", Rows.laid_virama_nfa_errPattern), ("virama/nfa.errStates", Rows.laid_virama_nfa_errStates)]
abbrev laidTQ : List (String × DataW Unit) := [("virama/nfa.far", Rows.laid_virama_nfa_far)]
theorem gRulD : Tryd.prog.globalNamed "virama/dfa.errRule" = some 0 := by kernel_rfl
theorem gRulTypeD : (Tryd.prog.globals[0]?).map (·.type) = some 57 := by kernel_rfl
theorem gMacD : Tryd.prog.globalNamed "virama/dfa.errMachine" = some 1 := by kernel_rfl
theorem gMacTypeD : (Tryd.prog.globals[1]?).map (·.type) = some 57 := by kernel_rfl
abbrev laid2D : List (String × DataW Unit) := [("virama/dfa.errRule", Rows.laid_virama_dfa_errRule), ("virama/dfa.errMachine", Rows.laid_virama_dfa_errMachine)]
abbrev laidAQ : List (String × DataW Unit) := [("virama/nfa.errPattern", Rows.laid_virama_nfa_errPattern), ("virama/nfa.errStates", Rows.laid_virama_nfa_errStates), ("virama/nfa.far", Rows.laid_virama_nfa_far), ("virama/dfa.errRule", Rows.laid_virama_dfa_errRule), ("virama/dfa.errMachine", Rows.laid_virama_dfa_errMachine)]
theorem far_of_laidQ {W : World} (h : laidMetH Tryd.prog laidAQ W) : ∀ j x, j < 3 → [(2 : Int), 0, 1][j]? = some x → W.cell? ⟨7, j, none⟩ = some (.int .i64 x) := by
  intro j x hj hx
  have h1 := laidMetH.filter (fun x => x.1 == "virama/nfa.far") h
  have h2 : laidMetH Tryd.prog laidTQ W := h1
  rw [MakeChecks.laidMetH_plain _ _ _ (by kernel_rfl)] at h2
  obtain ⟨ps, ⟨g, t, cs, fuel, p, q, hg, ht, hv, hd, _, _⟩, _, _⟩ := h2
  obtain rfl := Option.some.inj (gFarQ.symm.trans hg)
  obtain rfl := Option.some.inj (gFarTypeQ.symm.trans ht)
  obtain ⟨xs, m, _, ex, _, hl, hel⟩ := DataW.trod_array Tryd.underlying202 hd
  have c5 : Tryd.prog.cellsOf 3 = 1 := by kernel_rfl
  have hlt : j < xs.length := by clear ex hd hel; omega
  have hE := hel j hj
  rw [c5, Nat.mul_one, List.getElem?_eq_getElem hlt] at hE
  obtain ⟨z, e1, e2, _⟩ := DataW.trod_int Tryd.underlying3 hE
  have e3 : .agg (xs.map (·.1)) = Rows.laid_virama_nfa_far (H := Unit) := (Prod.mk.inj ex).1.symm
  have e4 : (xs.map (·.1))[j]? = some (.lit (.int .i64 x)) := by
    have := DataW.agg.inj e3
    rw [this]
    match j, hj, hx with
    | 0, _, hx => cases hx; rfl
    | 1, _, hx => cases hx; rfl
    | 2, _, hx => cases hx; rfl
  rw [List.getElem?_map, List.getElem?_eq_getElem hlt, Option.map_some, e2] at e4
  have hz : z = x := by simpa using e4
  rw [World.var?_cell gFarQ hv j]
  have h0 : ((cs.toList.drop j).take 1)[0]? = some (.int .i64 z) := by rw [e1]; rfl
  rw [hz] at h0
  simpa using h0
theorem glob_ofQ {W : World} (h : laidMetH Tryd.prog laidAQ W) : ∃ aP aS, GlobH W aP aS := by
  have h1 := laidMetH.filter (fun x => x.1 == "virama/nfa.errPattern" || x.1 == "virama/nfa.errStates") h
  have h2 : laidMetH Tryd.prog laid2Q W := h1
  have h' : laidMet Tryd.prog laid2Q W := by rw [MakeChecks.laidMetH_plain _ _ _ (by kernel_rfl)] at h2; exact h2
  obtain ⟨a0, a1, s0, s1, c0, c1, t0, t1, hv0, hv1, hc0, hs0, hz0, hc1, hs1, hz1, hne, hb0, hb1⟩ :=
    laid_sentinels2 h' gPatQ gPatTypeQ gStaQ gStaTypeQ Tryd.underlying57 rowEQ Tryd.underlying203 Tryd.underlying228 rfl rfl Tryd.underlying9 cellsEQ cellsSQ
  have hP : W.cell? ⟨5, 0, none⟩ = some (errVQ a0) := by simpa using World.var?_cell gPatQ hv0 0
  have hS : W.cell? ⟨6, 0, none⟩ = some (errVQ a1) := by simpa using World.var?_cell gStaQ hv1 0
  have lt : ∀ {g j : Nat} {v : Value}, W.cell? ⟨g, j, none⟩ = some v → g < W.heap.size := by
    intro g j v hc
    exact World.block_lt_of_cell? W _ hc
  have f0 := far_of_laidQ h 0 2 (by decide) rfl
  have f1 := far_of_laidQ h 1 0 (by decide) rfl
  have f2 := far_of_laidQ h 2 1 (by decide) rfl
  exact ⟨a0, a1, hP, hS, hne, ⟨c0, t0, hb0⟩, ⟨c1, t1, hb1⟩, lt hP, lt hS, lt f0, f0, f1, f2⟩

theorem glob_ofD {W : World} (h : laidMetH Tryd.prog laidAQ W) : ∃ aR aM, GlobD W aR aM := by
  have h1 := laidMetH.filter (fun x => x.1 == "virama/dfa.errRule" || x.1 == "virama/dfa.errMachine") h
  have h2 : laidMetH Tryd.prog laid2D W := h1
  have h' : laidMet Tryd.prog laid2D W := by rw [MakeChecks.laidMetH_plain _ _ _ (by kernel_rfl)] at h2; exact h2
  obtain ⟨a0, a1, s0, s1, c0, c1, t0, t1, hv0, hv1, hc0, hs0, hz0, hc1, hs1, hz1, hne, hb0, hb1⟩ :=
    laid_sentinels2 h' gRulD gRulTypeD gMacD gMacTypeD Tryd.underlying57 rowEQ Tryd.underlying203 Tryd.underlying228 rfl rfl Tryd.underlying9 cellsEQ cellsSQ
  have hP : W.cell? ⟨0, 0, none⟩ = some (errVQ a0) := by simpa using World.var?_cell gRulD hv0 0
  have hS : W.cell? ⟨1, 0, none⟩ = some (errVQ a1) := by simpa using World.var?_cell gMacD hv1 0
  have lt : ∀ {g j : Nat} {v : Value}, W.cell? ⟨g, j, none⟩ = some v → g < W.heap.size := by
    intro g j v hc
    exact World.block_lt_of_cell? W _ hc
  exact ⟨a0, a1, hP, hS, hne, ⟨c0, t0, hb0⟩, ⟨c1, t1, hb1⟩, lt hP, lt hS⟩

noncomputable def lowQ : Nat := (World.holding Tryd.prog default ⟨#[], #[], []⟩).heap.size
abbrev patSQ : ByteArray := ⟨#[110, 102, 97, 58, 32, 97, 32, 112, 97, 116, 116, 101, 114, 110, 32, 116, 104, 97, 116, 32, 105, 115, 32, 110, 111, 116, 32, 114, 105, 103, 104, 116]⟩
abbrev staSQ : ByteArray := ⟨#[110, 102, 97, 58, 32, 115, 116, 97, 116, 101, 115, 32, 116, 104, 97, 116, 32, 116, 104, 101, 32, 112, 97, 116, 116, 101, 114, 110, 32, 104, 97, 115, 32, 110, 111, 116]⟩
abbrev rulSQ : ByteArray := ⟨#[100, 102, 97, 58, 32, 114, 117, 108, 101, 115, 32, 116, 104, 97, 116, 32, 97, 114, 101, 32, 110, 111, 116, 32, 114, 105, 103, 104, 116]⟩
abbrev macSQ : ByteArray := ⟨#[100, 102, 97, 58, 32, 97, 32, 109, 97, 99, 104, 105, 110, 101, 32, 116, 104, 97, 116, 32, 105, 115, 32, 110, 111, 116, 32, 114, 105, 103, 104, 116, 44, 32, 111, 114, 32, 119, 111, 117, 108, 100, 32, 104, 97, 118, 101, 32, 116, 111, 111, 32, 109, 97, 110, 121, 32, 115, 116, 97, 116, 101, 115]⟩
noncomputable def baseWorldQ (os : Os) : World :=
  let w0 := World.holding Tryd.prog os ⟨#[.cells #[.string patSQ] 228, .cells #[.string staSQ] 228, .cells #[.string rulSQ] 228, .cells #[.string macSQ] 228], #[], []⟩
  { w0 with heap := ((((w0.heap.modify 5 fun
      | .cells _ t frozen => .cells #[errVQ ⟨lowQ, 0, none⟩] t frozen
      | o => o).modify 6 fun
      | .cells _ t frozen => .cells #[errVQ ⟨lowQ + 1, 0, none⟩] t frozen
      | o => o).modify 0 fun
      | .cells _ t frozen => .cells #[errVQ ⟨lowQ + 2, 0, none⟩] t frozen
      | o => o).modify 1 fun
      | .cells _ t frozen => .cells #[errVQ ⟨lowQ + 3, 0, none⟩] t frozen
      | o => o) }
noncomputable def laidWorldQ (os : Os) : World := (baseWorldQ os).layVars Tryd.prog laidTQ
theorem laidWorld_osQ (os : Os) : (laidWorldQ os).os = os := World.layVars_os _ _ _
set_option maxRecDepth 100000 in
theorem laid_met_wQ (os : Os) (args : Array Value) : laidMet Tryd.prog laidAQ ((laidWorldQ os).forCall (fun _ _ => 0) ⟨#[], args, []⟩).memory :=
  laidMet_of_run' 8 (by kernel_rfl) (by kernel_rfl)
theorem laid_metQ (os : Os) (args : Array Value) : laidMetH Tryd.prog laidAQ ((laidWorldQ os).forCall (fun _ _ => 0) ⟨#[], args, []⟩).memory := by
  rw [MakeChecks.laidMetH_plain _ _ _ (by kernel_rfl)]
  exact laid_met_wQ os args

theorem true_postQ {H : Type} {enc : TypeId × Value → H} {f : Func} {s : ChangeSpec} {W W' : World} {args : Array Value} {ds gs : List (DataW H)} {before : List MemPlace}
    (hW : DataW.Whole enc Tryd.prog f.params.toList s.vars false W args.toList ds gs before) (hr : f.resultTypes = #[4]) (hfn : s.fn H (ds ++ gs) = { results := [.lit (.bool true)], args := ds }) (hv : s.vars = [])
    (hargs : DataW.TrodAll enc Tryd.prog W' 0 (fun b => decide (b < W.heap.size)) true f.params.toList args.toList ds before) (hb : Below W.heap.size W W') :
    s.post enc Tryd.prog f false true false false W args (.bool true) W' := by
  refine ⟨ds, gs, before, [], before, [], hW, ?_, ?_, ?_, ?_, fun h => by cases h⟩
  · rw [hr, hfn]
    exact trodAll_cons_mk (shut_bool Tryd.underlying4 _) trodAll_mk0
  · rw [hfn]
    exact hargs
  · rw [hv, hfn]
    rfl
  · exact World.keptBut_mono (fun p hp => ⟨hp, .inr (.inl hp)⟩) (hb.frame (· ∈ before))

abbrev In64K (n : Int) : Prop := -9223372036854775808 ≤ n ∧ n ≤ 9223372036854775807
def NumsInQ (w : World) (o : Option Addr) (l : List Int) : Prop := NumsAt w o l ∧ ∀ c ∈ l, In64K c
theorem in64_wfQ {n : Int} (h : (Lit.int .i64 n).wf = true) : In64K n := by
  simp [Lit.wf, IntKind.min, IntKind.max, IntKind.signed, IntKind.bits] at h
  exact h
theorem list_ofQ {α : Type} {Q : Nat → α → Prop} : ∀ n : Nat, (∀ i, i < n → ∃ x, Q i x) → ∃ l : List α, l.length = n ∧ ∀ i x, l[i]? = some x → Q i x
  | 0, _ => ⟨[], rfl, fun i x h => by simp at h⟩
  | n + 1, h => by
    obtain ⟨l, hl, hq⟩ := list_ofQ n fun i hi => h i (by omega)
    obtain ⟨y, hy⟩ := h n (by omega)
    refine ⟨l ++ [y], by simp [hl], fun i x hx => ?_⟩
    rcases Nat.lt_or_ge i l.length with hi | hi
    · rw [List.getElem?_append_left hi] at hx
      exact hq i x hx
    · rw [List.getElem?_append_right hi] at hx
      have hi2 : i - l.length = 0 := by
        have := (List.getElem?_eq_some_iff.1 hx).1
        simp at this
        omega
      rw [hi2] at hx
      cases hx
      rw [show i = n from by omega]
      exact hy
theorem add_atQ2 (g off k : Nat) : (⟨g, off, none⟩ : Addr).add k = ⟨g, off + k, none⟩ := by unfold Addr.add; split <;> simp_all
theorem cellsIntQ : Tryd.prog.cellsOf 3 = 1 := by kernel_rfl
theorem cellsI64Q : Tryd.prog.cellsOf 2 = 1 := by kernel_rfl
section
variable {H : Type} {enc : TypeId × Value → H} {W : World}
theorem open_intsQ {fuel : Nat} {v : Value} {x : DataW H × List MemPlace} (h : DataW.trod enc Tryd.prog W 0 (fun _ => true) true fuel 26 [v] = some x) :
    ∃ (o : Option Addr) (l : List Int) (cap : Nat), v = .slice o l.length cap ∧ (NumsInQ W o l ∧ (o = none → cap = 0) ∧ ∀ p, o = some p → 0 < cap → p.spot = none) ∧ l.length ≤ cap := by
  rcases DataW.trod_slice Tryd.underlying26 h with ⟨hv, _⟩ | ⟨a, len, cap, elems, rest, n, _, hv, _, _, hle, hcap, hlen, hc, hr, _⟩
  · obtain rfl : v = .slice none 0 0 := by simpa using hv
    exact ⟨none, [], 0, rfl, ⟨⟨fun h => absurd h (Nat.not_lt_zero _), fun c h => by cases h⟩, fun _ => rfl, fun p h => by cases h⟩, Nat.le_refl _⟩
  · obtain rfl : v = .slice (some a) len cap := by simpa using hv
    have hall : ∀ i, i < len → ∃ X : Int, W.cell? ((a.add (i * 1)).add 0) = some (.int .i64 X) ∧ In64K X := fun i hi => by
      have he := hc i hi
      rw [cellsIntQ, List.getElem?_eq_getElem (by omega)] at he
      obtain ⟨cs, hcs, ht⟩ := Option.bind_eq_some_iff.1 he
      obtain ⟨_, hl, hg⟩ := World.cells?_some hcs
      obtain ⟨b, c1, _, cw⟩ := DataW.trod_int Tryd.underlying3 ht
      exact ⟨b, by rw [hg 0 (by omega), c1]; rfl, in64_wfQ cw⟩
    have hsp : 0 < cap → a.spot = none := fun h0 => by
      rcases Nat.eq_zero_or_pos len with hz | hz
      · obtain ⟨hrl, hrc⟩ := hr rfl
        have h0l : 0 < rest.length := by rw [hrl, hz]; exact h0
        have he := hrc 0 (by rw [hz]; exact h0)
        rw [cellsIntQ, hz, List.getElem?_eq_getElem h0l] at he
        obtain ⟨cs, hcs, ht⟩ := Option.bind_eq_some_iff.1 he
        obtain ⟨_, hl, hg⟩ := World.cells?_some hcs
        have h1 := hg 0 (by omega)
        rw [List.getElem?_eq_getElem (by rw [hl]; exact Nat.one_pos)] at h1
        simpa [Addr.add] using World.cell?_spot h1
      · obtain ⟨X, h1, _⟩ := hall 0 hz
        simpa [Addr.add] using World.cell?_spot h1
    obtain ⟨rs, hrl, hrs⟩ := list_ofQ len hall
    subst hrl
    refine ⟨some a, rs, cap, rfl, ⟨⟨fun hn => ?_, fun c hc => by obtain ⟨i, hi⟩ := List.getElem?_of_mem hc; exact (hrs i c hi).2⟩, (fun h => by cases h), (fun p h h0 => by cases h; exact hsp h0)⟩, by omega⟩
    have h0 := (hrs 0 _ (List.getElem?_eq_getElem hn)).1
    obtain ⟨g, off, spot⟩ := a
    have hspot : spot = none := by simpa [Addr.add] using World.cell?_spot h0
    subst hspot
    refine ⟨g, off, rfl, fun j x hx => ?_⟩
    have c0 := (hrs j x hx).1
    rwa [add_atQ2, add_atQ2, Nat.mul_one, Nat.add_zero] at c0
theorem list1Q {α : Type} {cs : List α} (h : cs.length = 1) : ∃ c0, cs = [c0] := by
  match cs, h with
  | [c0], _ => exact ⟨c0, rfl⟩
theorem list2Q {α : Type} {cs : List α} (h : cs.length = 2) : ∃ c0 c1, cs = [c0, c1] := by
  match cs, h with
  | [c0, c1], _ => exact ⟨c0, c1, rfl⟩
end

section
variable {H : Type} {enc : TypeId × Value → H} {W : World}
end
end Go.Proofs.YtaoooocalpkhjaaDoor
namespace Go.Proofs.YtaoooocalpkhjaaDoor
open Go.ChangeShapes Go.WideShapes Go.ChangeAt Go.RowKit Go.ChangeMaps

theorem cellsMachD : Tryd.prog.cellsOf 25 = 2 := by kernel_rfl
theorem cellsIntsD : Tryd.prog.cellsOf 26 = 1 := by kernel_rfl
theorem cellsI64sD : Tryd.prog.cellsOf 23 = 1 := by kernel_rfl
theorem cellsRowsD : Tryd.prog.cellsOf 22 = 1 := by kernel_rfl
section
variable {H : Type} {enc : TypeId × Value → H} {W : World}
theorem open_i64sD {fuel : Nat} {v : Value} {x : DataW H × List MemPlace} (h : DataW.trod enc Tryd.prog W 0 (fun _ => true) true fuel 23 [v] = some x) :
    ∃ (o : Option Addr) (l : List Int) (cap : Nat), v = .slice o l.length cap ∧ NumsAt W o l ∧ l.length ≤ cap := by
  rcases DataW.trod_slice Tryd.underlying23 h with ⟨hv, _⟩ | ⟨a, len, cap, elems, rest, n, _, hv, _, _, hle, hcap, hlen, hc, _, _⟩
  · obtain rfl : v = .slice none 0 0 := by simpa using hv
    exact ⟨none, [], 0, rfl, fun h => absurd h (Nat.not_lt_zero _), Nat.le_refl _⟩
  · obtain rfl : v = .slice (some a) len cap := by simpa using hv
    have hall : ∀ i, i < len → ∃ X : Int, W.cell? ((a.add (i * 1)).add 0) = some (.int .i64 X) := fun i hi => by
      have he := hc i hi
      rw [cellsI64Q, List.getElem?_eq_getElem (by omega)] at he
      obtain ⟨cs, hcs, ht⟩ := Option.bind_eq_some_iff.1 he
      obtain ⟨_, hl, hg⟩ := World.cells?_some hcs
      obtain ⟨b, c1, _, _⟩ := DataW.trod_int Tryd.underlying2 ht
      exact ⟨b, by rw [hg 0 (by omega), c1]; rfl⟩
    obtain ⟨rs, hrl, hrs⟩ := list_ofQ len hall
    subst hrl
    refine ⟨some a, rs, cap, rfl, fun hn => ?_, by omega⟩
    have h0 := hrs 0 _ (List.getElem?_eq_getElem hn)
    obtain ⟨g, off, spot⟩ := a
    have hspot : spot = none := by simpa [Addr.add] using World.cell?_spot h0
    subst hspot
    refine ⟨g, off, rfl, fun j x hx => ?_⟩
    have c0 := hrs j x hx
    rwa [add_atQ2, add_atQ2, Nat.mul_one, Nat.add_zero] at c0
theorem open_rowsD {fuel : Nat} {v : Value} {x : DataW H × List MemPlace} (h : DataW.trod enc Tryd.prog W 0 (fun _ => true) true fuel 22 [v] = some x) :
    ∃ (o : Option Addr) (l : List RowD) (cap : Nat), v = .slice o l.length cap ∧ RowsD W o l ∧ ∀ y ∈ l, NumsAt W y.1 y.2.1 ∧ y.2.1.length ≤ y.2.2 := by
  rcases DataW.trod_slice Tryd.underlying22 h with ⟨hv, _⟩ | ⟨a, len, cap, elems, rest, n, _, hv, _, _, hle, hcap, hlen, hc, _, _⟩
  · obtain rfl : v = .slice none 0 0 := by simpa using hv
    exact ⟨none, [], 0, rfl, fun h => absurd h (Nat.not_lt_zero _), fun y hy => by cases hy⟩
  · obtain rfl : v = .slice (some a) len cap := by simpa using hv
    have hall : ∀ i, i < len → ∃ X : RowD, W.cell? ((a.add (i * 1)).add 0) = some (.slice X.1 X.2.1.length X.2.2) ∧ NumsAt W X.1 X.2.1 ∧ X.2.1.length ≤ X.2.2 := fun i hi => by
      have he := hc i hi
      rw [cellsIntsD, List.getElem?_eq_getElem (by omega)] at he
      obtain ⟨cs, hcs, ht⟩ := Option.bind_eq_some_iff.1 he
      obtain ⟨_, hl, hg⟩ := World.cells?_some hcs
      obtain ⟨c0, rfl⟩ := list1Q hl
      obtain ⟨so, l, sc, rfl, hI, hsc⟩ := open_intsQ ht
      exact ⟨(so, l, sc), by rw [hg 0 (by omega)]; rfl, hI.1.1, hsc⟩
    obtain ⟨rs, hrl, hrs⟩ := list_ofQ len hall
    subst hrl
    refine ⟨some a, rs, cap, rfl, fun hn => ?_, fun y hy => by
      obtain ⟨i, hi⟩ := List.getElem?_of_mem hy
      exact (hrs i y hi).2⟩
    have h0 := (hrs 0 _ (List.getElem?_eq_getElem hn)).1
    obtain ⟨g, off, spot⟩ := a
    have hspot : spot = none := by simpa [Addr.add] using World.cell?_spot h0
    subst hspot
    refine ⟨g, off, rfl, fun j x hx => ?_⟩
    have c0 := (hrs j x hx).1
    rwa [add_atQ2, add_atQ2, Nat.mul_one, Nat.add_zero] at c0
theorem open_machD {fuel : Nat} {cs : List Value} {x : DataW H × List MemPlace} (h : DataW.trod enc Tryd.prog W 0 (fun _ => true) true fuel 25 cs = some x) :
    ∃ (m : MachX), cs = [.slice m.no m.rows.length m.nc, .slice m.fo m.fits.length m.fc] ∧ MachD W m ∧ RoomM m := by
  obtain ⟨y0, y1, n, _, hl, h0, h1⟩ := trod_struct2 Tryd.underlying25 h
  rw [cellsMachD] at hl
  obtain ⟨k0, k1, rfl⟩ := list2Q hl
  change DataW.trod enc Tryd.prog W 0 (fun _ => true) true n 22 (List.take (Tryd.prog.cellsOf 22) (List.drop 0 [k0, k1])) = _ at h0
  change DataW.trod enc Tryd.prog W 0 (fun _ => true) true n 23 (List.take (Tryd.prog.cellsOf 23) (List.drop 1 [k0, k1])) = _ at h1
  rw [cellsRowsD] at h0
  rw [cellsI64sD] at h1
  obtain ⟨no, rows, nc, rfl, hR, hY⟩ := open_rowsD (v := k0) h0
  obtain ⟨fo, fits, fc, rfl, hF, hfc⟩ := open_i64sD (v := k1) h1
  exact ⟨⟨no, rows, nc, fo, fits, fc⟩, rfl, ⟨hR, fun y hy => (hY y hy).1, hF⟩, hfc, fun y hy => (hY y hy).2⟩
end
end Go.Proofs.YtaoooocalpkhjaaDoor
