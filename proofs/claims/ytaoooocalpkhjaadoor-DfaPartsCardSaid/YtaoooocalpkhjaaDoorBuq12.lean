/- Shaken by bunq.py. -/
import Derived.Test.YtaoooocalpkhjaaDoorBuq11
import Derived.Test.YtaoooocalpkhjaaDoorBuq9
namespace Go.Proofs.YtaoooocalpkhjaaDoor
open Go.RowKit Go.Shelf Go.Maps
attribute [local go_sem] Oper.semAt_some

abbrev MachX.R (m : MachX) : List (List Int) := m.rows.map (·.2.1)
def MachS (m : MachX) : Prop := m.rows.length ≤ 1000000 ∧ m.fits.length ≤ 1000000 ∧ ∀ x ∈ m.rows, x.2.1.length ≤ 1000000
set_option maxRecDepth 100000 in
set_option maxHeartbeats 4000000 in
theorem refSameD_any (m m2 : MachX) (hs : MachS m) (w : World) (hM : MachD w m) (hM2 : MachD w m2) :
    Calls Tryd.prog 27 #[m.v, m2.v] w fun e w' => e = .returned (.bool (decide (m.R = m2.R ∧ m.fits = m2.fits))) ∧ Below w.heap.size w w' := by
  obtain ⟨hs1, hs2, hs3⟩ := hs
  obtain ⟨P, hP⟩ : ∃ P, (fun (e : Ending) (w' : World) => e = .returned (.bool (decide (m.R = m2.R ∧ m.fits = m2.fits))) ∧ Below w.heap.size w w') = P := ⟨_, rfl⟩
  have HP := Lib.hid hP
  rw [hP]
  obtain ⟨w1, hw1⟩ : ∃ w1, w.alloc (.cells #[.slice m.no m.rows.length m.nc, .slice m.fo m.fits.length m.fc] 25) = w1 := ⟨_, rfl⟩
  have b1 : Below w.heap.size w w1 := by rw [← hw1]; exact (Below.refl _ _).alloc (Nat.le_refl _) _
  have z1 : w1.heap.size = w.heap.size + 1 := by rw [← hw1]; simp
  have r1 : w1.heap[w.heap.size]? = some (.cells #[.slice m.no m.rows.length m.nc, .slice m.fo m.fits.length m.fc] 25 (0, 0)) := by rw [← hw1]; exact heap_alloc_new _ _
  obtain ⟨w2, hw2⟩ : ∃ w2, w1.alloc (.cells #[.slice m2.no m2.rows.length m2.nc, .slice m2.fo m2.fits.length m2.fc] 25) = w2 := ⟨_, rfl⟩
  have b2 : Below w1.heap.size w1 w2 := by rw [← hw2]; exact (Below.refl _ _).alloc (Nat.le_refl _) _
  have r2 : w2.heap[w.heap.size + 1]? = some (.cells #[.slice m2.no m2.rows.length m2.nc, .slice m2.fo m2.fits.length m2.fc] 25 (0, 0)) := by rw [← hw2, ← z1]; exact heap_alloc_new _ _
  have hb2 := b1.trans (b2.mono b1.size)
  have r12 := row_below r1 b2
  obtain ⟨c0, c1⟩ := mac_cells r12
  obtain ⟨d0, d1⟩ := mac_cells r2
  have lc := World.block_lt_of_cell? w2 _ c0
  have ld := World.block_lt_of_cell? w2 _ d0
  obtain ⟨no, rows, nc, fo, fits, fc⟩ := m
  obtain ⟨no2, rows2, nc2, fo2, fits2, fc2⟩ := m2
  simp only at hs1 hs2 hs3 c0 c1 d0 d1 hw1 hw2
  have HSET := Lib.hid (setsR12_any fo fo2 fits fits2 fc fc2 hs2 w2 (hM.below hb2).fits (hM2.below hb2).fits)
  have HW : Hid ((w.alloc (.cells #[.slice no rows.length nc, .slice fo fits.length fc] 25)).alloc (.cells #[.slice no2 rows2.length nc2, .slice fo2 fits2.length fc2] 25) = w2) := Lib.hid (by rw [hw1, hw2])
  have HM := Lib.hid (hM.below hb2)
  have HM2 := Lib.hid (hM2.below hb2)
  have HB2 := Lib.hid hb2
  have HS1 := Lib.hid hs1
  have HS3 := Lib.hid hs3
  have HR1 := Lib.hid r12
  have HR2 := Lib.hid r2
  obtain ⟨q, hq⟩ : ∃ q, rows.length = q := ⟨_, rfl⟩
  obtain ⟨f, hf⟩ : ∃ f, fits.length = f := ⟨_, rfl⟩
  obtain ⟨q2, hq2⟩ : ∃ q, rows2.length = q := ⟨_, rfl⟩
  obtain ⟨f2, hf2⟩ : ∃ f, fits2.length = f := ⟨_, rfl⟩
  have HQ := Lib.hid hq
  have HQ2 := Lib.hid hq2
  obtain ⟨bf, hbf⟩ : ∃ b, decide (fits = fits2) = b := ⟨_, rfl⟩
  have HBF := Lib.hid hbf
  rw [hf, hf2, hbf] at HSET
  show Calls _ _ #[.agg #[.slice no rows.length nc, .slice fo fits.length fc], .agg #[.slice no2 rows2.length nc2, .slice fo2 fits2.length fc2]] _ _
  simp only [hq, hf, hq2, hf2] at c0 c1 d0 d1 HW ⊢
  rw [show (MachX.mk no rows nc fo fits fc).rows.length = q from hq, show (MachX.mk no rows nc fo fits fc).fits.length = f from hf] at HR1
  rw [show (MachX.mk no2 rows2 nc2 fo2 fits2 fc2).rows.length = q2 from hq2, show (MachX.mk no2 rows2 nc2 fo2 fits2 fc2).fits.length = f2 from hf2] at HR2
  have HNO : Hid (∀ W, Below w.heap.size w W → ¬ (rows.map (·.2.1) = rows2.map (·.2.1) ∧ fits = fits2) → P (.returned (.bool false)) W) := Lib.hid fun W hb hn => by
    rw [← HP.out]
    exact ⟨by rw [decide_eq_false hn], hb⟩
  have HYES : Hid (∀ W, Below w.heap.size w W → (rows.map (·.2.1) = rows2.map (·.2.1) ∧ fits = fits2) → P (.returned (.bool true)) W) := Lib.hid fun W hb hn => by
    rw [← HP.out]
    exact ⟨by rw [decide_eq_true hn], hb⟩
  clear hP HP hw1 b1 z1 r1 hw2 b2 r2 hb2 r12 hM hM2 hs1 hs2 hs3 hq hf hq2 hf2 hbf
  go_enter Tryd.func27, Tryd.ntmps27
  by_cases hqq : ¬ q = q2
  · have HF := Lib.hid (HNO.out w2 HB2.out (fun h => hqq (by rw [← HQ.out, ← HQ2.out]; have := congrArg List.length h.1; rwa [List.length_map, List.length_map] at this)))
    clear HNO HYES
    go_wp2_with fail
    rw [HW.out]
    exact HF.out
  have hqq := Decidable.not_not.1 hqq
  subst hqq
  go_wp2_with fail
  rw [HW.out]
  refine HSET.out.mono ?_
  rintro e w3 ⟨rfl, b3⟩
  have HB3 := Lib.hid (HB2.out.trans (b3.mono HB2.out.size))
  have HM3 := Lib.hid (HM.out.below b3)
  have HM23 := Lib.hid (HM2.out.below b3)
  have HR13 := Lib.hid (row_below HR1.out b3)
  have HR23 := Lib.hid (row_below HR2.out b3)
  clear b3 c0 c1 d0 d1 lc ld
  cases bf with
  | false =>
    have HF := Lib.hid (HNO.out w3 HB3.out (fun h => of_decide_eq_false HBF.out h.2))
    clear HNO HYES
    go_wp2_with fail
    exact HF.out
  | true =>
    have hfe : fits = fits2 := of_decide_eq_true HBF.out
    have HFE := Lib.hid hfe
    clear hfe
    go_wp2_with fail
    go_loopg [5] q (fun k v wr => ∃ (j : Nat), v = .int .i64 (j : Nat) ∧ j ≤ q ∧ k = q - j ∧ Hid ((rows.map (·.2.1)).take j = (rows2.map (·.2.1)).take j) ∧ Hid (Below w3.heap.size w3 wr))
    case atStart => exact ⟨0, rfl, Nat.zero_le _, rfl, Lib.hid rfl, Lib.hid (Below.refl _ _)⟩
    case round =>
      obtain ⟨j, rfl, hj, rfl, HT, HBR⟩ := hrel
      obtain ⟨c0, c1⟩ := mac_cells (row_below HR13.out HBR.out)
      obtain ⟨d0, d1⟩ := mac_cells (row_below HR23.out HBR.out)
      have lc := World.block_lt_of_cell? wr _ c0
      have ld := World.block_lt_of_cell? wr _ d0
      have hj6 : j < 1000001 := by have h1 := HS1.out; have h2 := HQ.out; omega
      rcases Nat.lt_or_ge j q with hlt | hge
      · have q1 : decide (((j : Nat) : Int) < ((q : Nat) : Int)) = true := decide_eq_true (by omega)
        obtain ⟨x, hx⟩ : ∃ x, rows[j]? = some x := ⟨_, List.getElem?_eq_getElem (by rw [HQ.out]; exact hlt)⟩
        obtain ⟨y, hy⟩ : ∃ y, rows2[j]? = some y := ⟨_, List.getElem?_eq_getElem (by rw [HQ2.out]; exact hlt)⟩
        obtain ⟨g, off, ho, hc⟩ := (HM3.out.below HBR.out).rows (by show 0 < rows.length; rw [HQ.out]; omega)
        obtain ⟨g2, off2, ho2, hc2⟩ := (HM23.out.below HBR.out).rows (by show 0 < rows2.length; rw [HQ2.out]; omega)
        simp only at ho ho2
        subst ho
        subst ho2
        have k0 := hc j x hx
        have m0 := hc2 j y hy
        have hxr : (rows.map (·.2.1))[j]? = some x.2.1 := by rw [List.getElem?_map, hx]; rfl
        have hyr : (rows2.map (·.2.1))[j]? = some y.2.1 := by rw [List.getElem?_map, hy]; rfl
        have hI := fun W (hb : Below w3.heap.size w3 W) => intsR_any x.1 y.1 x.2.1 y.2.1 x.2.2 y.2.2 (HS3.out x (List.mem_of_getElem? hx)) W ((HM3.out.below hb).row x (List.mem_of_getElem? hx)) ((HM23.out.below hb).row y (List.mem_of_getElem? hy))
        have HNE : Hid (¬ x.2.1 = y.2.1 → ∀ W, Below w.heap.size w W → P (.returned (.bool false)) W) := Lib.hid fun hne W hb => HNO.out W hb (fun h => hne (by
          have h1 := hxr
          rw [h.1, hyr] at h1
          exact (Option.some.inj h1).symm))
        have HEQ : Hid (x.2.1 = y.2.1 → (rows.map (·.2.1)).take (j + 1) = (rows2.map (·.2.1)).take (j + 1)) := Lib.hid fun he => take_eqD HT.out hxr hyr he
        obtain ⟨xo, xs, xc⟩ := x
        obtain ⟨yo, ys, yc⟩ := y
        simp only at k0 m0 hI HNE HEQ
        obtain ⟨bb, hbb⟩ : ∃ b, decide (xs = ys) = b := ⟨_, rfl⟩
        have HBB := Lib.hid hbb
        obtain ⟨l1, hl1⟩ : ∃ l, xs.length = l := ⟨_, rfl⟩
        obtain ⟨l2, hl2⟩ : ∃ l, ys.length = l := ⟨_, rfl⟩
        simp only [hbb, hl1, hl2] at hI k0 m0
        have HI := Lib.hid hI
        have HC : Hid (∀ W, Below wr.heap.size wr W → W.cell? ⟨w.heap.size, 0, none⟩ = some (.slice (some ⟨g, off, none⟩) q nc) ∧ W.cell? ⟨w.heap.size + 1, 0, none⟩ = some (.slice (some ⟨g2, off2, none⟩) q nc2) ∧ W.cell? ⟨g, off + j, none⟩ = some (.slice xo l1 xc) ∧ W.cell? ⟨g2, off2 + j, none⟩ = some (.slice yo l2 yc) ∧ Below wr.heap.size wr W) := Lib.hid fun W hb => ⟨cell_keepQ hb c0, cell_keepQ hb d0, cell_keepQ hb k0, cell_keepQ hb m0, hb⟩
        have K1 : Hid (∀ W, (W.cell? ⟨w.heap.size, 0, none⟩ = some (.slice (some ⟨g, off, none⟩) q nc) ∧ W.cell? ⟨w.heap.size + 1, 0, none⟩ = some (.slice (some ⟨g2, off2, none⟩) q nc2) ∧ W.cell? ⟨g, off + j, none⟩ = some (.slice xo l1 xc) ∧ W.cell? ⟨g2, off2 + j, none⟩ = some (.slice yo l2 yc) ∧ Below wr.heap.size wr W) → Calls Tryd.prog 14 #[.slice xo l1 xc, .slice yo l2 yc] W fun e w' => e = .returned (.bool bb) ∧ (w'.cell? ⟨w.heap.size, 0, none⟩ = some (.slice (some ⟨g, off, none⟩) q nc) ∧ w'.cell? ⟨w.heap.size + 1, 0, none⟩ = some (.slice (some ⟨g2, off2, none⟩) q nc2) ∧ w'.cell? ⟨g, off + j, none⟩ = some (.slice xo l1 xc) ∧ w'.cell? ⟨g2, off2 + j, none⟩ = some (.slice yo l2 yc) ∧ Below wr.heap.size wr w')) := Lib.hid fun W hs => (HI.out W (HBR.out.trans (hs.2.2.2.2.mono HBR.out.size))).mono (by
          rintro e w' ⟨rfl, b⟩
          exact ⟨rfl, HC.out w' (hs.2.2.2.2.trans (b.mono hs.2.2.2.2.size))⟩)
        have HD : Below wr.heap.size wr wr.drew := (Below.refl _ _).drew
        clear hc hc2 hx hy hxr hyr hI hbb hl1 hl2 HT
        go_wp2_with fail
        go_region_held3 (fun W => W.cell? ⟨w.heap.size, 0, none⟩ = some (.slice (some ⟨g, off, none⟩) q nc) ∧ W.cell? ⟨w.heap.size + 1, 0, none⟩ = some (.slice (some ⟨g2, off2, none⟩) q nc2) ∧ W.cell? ⟨g, off + j, none⟩ = some (.slice xo l1 xc) ∧ W.cell? ⟨g2, off2 + j, none⟩ = some (.slice yo l2 yc) ∧ Below wr.heap.size wr W) (first | assumption | exact HD | go_keep) (first | (go_at_call 14; refine (K1.out _ (by first | assumption | exact HC.out _ HD | exact hg)).mono ?_; rintro e w9 ⟨rfl, hg⟩))
        have HB9 := Lib.hid (HBR.out.trans (hg.2.2.2.2.mono HBR.out.size))
        cases bb with
        | true =>
          have HT2 := Lib.hid (HEQ.out (of_decide_eq_true HBB.out))
          clear hg HEQ HNE HNO HYES
          go_wp2_with fail
          go_roundg (q - (j + 1))
          case measure => omega
          case rel => exact ⟨j + 1, by simp, by omega, rfl, HT2, HB9⟩
        | false =>
          have HF := Lib.hid (HNE.out (of_decide_eq_false HBB.out) w9 (HB3.out.trans (HB9.out.mono HB3.out.size)))
          clear hg HEQ HNE HNO HYES
          go_wp2_with fail
          exact HF.out
      · obtain rfl : j = q := by omega
        have q1 : decide (((j : Nat) : Int) < ((j : Nat) : Int)) = false := decide_eq_false (by omega)
        have hT := HT.out
        rw [List.take_of_length_le (by rw [List.length_map, HQ.out]; exact Nat.le_refl _), List.take_of_length_le (by rw [List.length_map, HQ2.out]; exact Nat.le_refl _)] at hT
        have HF := Lib.hid (HYES.out wr (HB3.out.trans (HBR.out.mono HB3.out.size)) ⟨hT, HFE.out⟩)
        clear hT HNO HYES
        go_wp2_with fail
        exact HF.out
end Go.Proofs.YtaoooocalpkhjaaDoor
namespace Go.Proofs.YtaoooocalpkhjaaDoor
open Go.RowKit Go.Shelf Go.Maps
attribute [local go_sem] Oper.semAt_some
attribute [local go_sem ↓] app_hide

def TellIQ (m : MachX) (n : Int) (L : List Int) (w : World) (e : Ending) (w' : World) : Prop := ∃ o' cap', e = .returned (.tuple #[.slice o' (L.length + 1) cap', .nilIface]) ∧ w'.ownsRow (w.heap.size + 1) 3 1 (.slice o' (L.length + 1) cap') (L.length + 1) ((allD (m.rows.map (·.2.1)) n L).map (fun s : Nat => Value.int .i64 ((s : Nat) : Int))) ∧ Below w.heap.size w w'
set_option maxRecDepth 100000 in
set_option maxHeartbeats 8000000 in
theorem tellI_right (m : MachX) (n : Int) (lo : Option Addr) (L : List Int) (lcap : Nat) (hB : m.B n = true) (hll : L.length ≤ 1000) (w : World) (aR aM : Addr) (hG : GlobD w aR aM) (hM : MachD w m) (hL : NumsAt w lo L) :
    Calls Tryd.prog 29 #[m.v, .int .i64 n, (.func (.func 30) #[] #[]), .slice lo L.length lcap] w (TellIQ m n L w) := by
  obtain ⟨h1n, h32n, h1r, h300, hrf, _, _⟩ := machB_parts (show machB (m.rows.map (·.2.1)) m.fits n = true from hB)
  rw [List.length_map] at h1r h300 hrf
  obtain ⟨no, rows, nc, fo, fits, fc⟩ := m
  simp only at h1r h300 hrf
  refine (callsIn_wide (n := 6)).1 ?_
  have h1 : 1 ≤ 6 := by omega
  refine callsIn_of_wp_marks Tryd.func29 rfl trivial ?_ rfl
  simp only [Tryd.ntmps29, List.size_toArray, List.length_cons, List.length_nil, Nat.reduceAdd, Nat.reduceSub, Array.replicate_succ, Array.replicate_zero, List.push_toArray, List.append_toArray, List.nil_append, List.cons_append]
  obtain ⟨P, hP⟩ : ∃ P, TellIQ ⟨no, rows, nc, fo, fits, fc⟩ n L w = P := ⟨_, rfl⟩
  have HP := Lib.hid hP
  rw [hP]
  obtain ⟨R, hR⟩ : ∃ R, allD (rows.map (·.2.1)) n L = R := ⟨_, rfl⟩
  have HRE := Lib.hid hR
  have HRL : Hid (R.length = L.length + 1) := Lib.hid (by rw [← hR, allD_len])
  have HRS : Hid (∀ s ∈ R, s < rows.length) := Lib.hid fun s hs => by
    rw [← hR] at hs
    obtain ⟨i, _, rfl⟩ := List.mem_map.1 hs
    have := st_lt (show machB (rows.map (·.2.1)) fits n = true from hB) (L.take i) 0 (by rw [List.length_map]; omega)
    rw [List.length_map] at this
    exact this
  obtain ⟨w0, hw0⟩ : ∃ w0, w.alloc (.cells #[.slice no rows.length nc, .slice fo fits.length fc] 25 (0, 0)) = w0 := ⟨_, rfl⟩
  have b0 : Below w.heap.size w w0 := by rw [← hw0]; exact (Below.refl _ _).alloc (Nat.le_refl _) _
  have z0 : w0.heap.size = w.heap.size + 1 := by rw [← hw0]; simp
  have r0 : w0.heap[w.heap.size]? = some (.cells #[.slice no rows.length nc, .slice fo fits.length fc] 25 (0, 0)) := by rw [← hw0]; exact heap_alloc_new _ _
  obtain ⟨w1, hw1⟩ : ∃ w1, w0.alloc (.cells #[(.func (.func 30) #[] #[])] 60) = w1 := ⟨_, rfl⟩
  have bb1 : Below w0.heap.size w0 w1 := by rw [← hw1]; exact (Below.refl _ _).alloc (Nat.le_refl _) _
  have z1 : w1.heap.size = w.heap.size + 2 := by rw [← hw1]; simp; omega
  have f1 : Boxed w1 (w.heap.size + 1) 60 (.func (.func 30) #[] #[]) := by rw [← hw1, ← z0]; exact Boxed.new _ _ _
  have b1 := b0.trans (bb1.mono b0.size)
  have hr1 := row_below r0 bb1
  have c0 : w1.cell? ⟨w.heap.size, 0, none⟩ = some (.slice no rows.length nc) := by rw [cell_of_row _ _ 0 _ _ _ hr1]; rfl
  have c1 : w1.cell? ⟨w.heap.size, 1, none⟩ = some (.slice fo fits.length fc) := by rw [cell_of_row _ _ 1 _ _ _ hr1]; rfl
  have HR0 := walkerOf_any ⟨no, rows, nc, fo, fits, fc⟩ n w1 aR aM (hG.below b1) (hM.below b1) (by show rows.length ≤ _; omega) (by show fits.length ≤ _; omega)
  unfold WlkR at HR0
  rw [if_pos hB] at HR0
  have HW : Hid ((w.alloc (.cells #[.slice no rows.length nc, .slice fo fits.length fc] 25 (0, 0))).alloc (.cells #[(.func (.func 30) #[] #[])] 60) = w1) := Lib.hid (by rw [hw0, hw1])
  obtain ⟨i0, hi, hz0, hz1, hz2⟩ := info_parts infoIntD
  have HMK := Lib.hid (fun W => run_makeSlice_owned (P := Tryd.prog) (w := W) (w.heap.size + 1) 26 3 i0 (.int .i64 0) 1 Tryd.underlying26 hi hz0 hz1 .i64 .i64 (L.length + 1) (by omega) (by rw [hz2]; omega) (by unfold maxLen; omega))
  have HMD := Lib.hid hM
  have HQ0 := Lib.hid (show rows.length ≤ 300 ∧ rows.length = fits.length from ⟨h300, hrf⟩)
  have HSQ := Lib.hid (fun (wb lb : Nat) (W : World) (hG : GoD W wb lb ⟨no, rows, nc, fo, fits, fc⟩ n lo L lcap) => seqGoD (m := ⟨no, rows, nc, fo, fits, fc⟩) hB (by omega) hG)
  rw [show allD ((MachX.mk no rows nc fo fits fc).rows.map (·.2.1)) n L = R from hR] at HSQ
  have HDP : Hid (∀ (wb lb k : Nat), DepG wb lb ⟨no, rows, nc, fo, fits, fc⟩ lo L k → DepD w wb lb k) := Lib.hid (by
    rintro wb lb k (h | h | ⟨h0, h⟩ | ⟨h0, h⟩ | ⟨x, hx, h0, h⟩)
    · exact .inr (.inl h)
    · exact .inr (.inr h)
    · exact .inl (hL.ltQ h0 h)
    · obtain ⟨g, off, ho, hc⟩ := hM.rows h0
      obtain ⟨a, ha, rfl⟩ := h
      have e := ho.symm.trans ha
      cases e
      exact .inl (World.block_lt_of_cell? w _ (hc 0 _ (List.getElem?_eq_getElem h0)))
    · exact .inl ((hM.row x hx).ltQ h0 h))
  obtain ⟨q, hq⟩ : ∃ q, rows.length = q := ⟨_, rfl⟩
  obtain ⟨f, hf⟩ : ∃ f, fits.length = f := ⟨_, rfl⟩
  obtain ⟨ll, hln⟩ : ∃ ll, L.length = ll := ⟨_, rfl⟩
  have hsl : wrap64 (((ll : Nat) : Int) + 1) = ((ll + 1 : Nat) : Int) := by unfold wrap64; omega
  have HLN := Lib.hid hln
  have HQ := Lib.hid hq
  have HF := Lib.hid hf
  have HL := Lib.hid hL
  have HB1 := Lib.hid b1
  have HF1 := Lib.hid f1
  have HZ1 := Lib.hid z1
  have HLL := Lib.hid hll
  rw [hq] at c0 HW
  rw [hf] at c1 HW
  have HR : Hid (Calls Tryd.prog 46 #[.agg #[.slice no q nc, .slice fo f fc], .int .i64 n] w1 fun e w' => e = .returned (.tuple #[.agg #[.slice no q nc, .slice fo f fc, .int .i64 n], .nilIface]) ∧ Below w1.heap.size w1 w') := Lib.hid (by rw [← hq, ← hf]; exact HR0)
  show Code.wpIn _ _ _ _ _ { tmps := #[.agg #[.slice no rows.length nc, .slice fo fits.length fc], _, _, _, _, _, _, _, _, _, _, _, _, _, _, _, _, _, _, _, _, _, _, _, _, _, _, _, _, _, _, _, _, _, _, _, _, _, _], defers := _ } _
  rw [hq, hf]
  rw [hln] at HMK HLL
  rw [hln]
  have hll6 := HLL.out
  clear hP hw0 b0 z0 r0 hw1 bb1 z1 f1 b1 hB hG hM hL hR hq hf hln hi hz0 hz1 hz2 hll HR0 hr1 h1n h32n h1r h300 hrf
  gi_wp2_with fail
  rw [HW.out]
  refine ⟨trivial, (callsIn_wide.2 HR.out).mono ?_⟩
  rintro e W3 ⟨rfl, b3⟩
  obtain ⟨W5, hW5⟩ : ∃ W5, W3.alloc (.cells #[.slice no q nc, .slice fo f fc, .int .i64 n] 63 (0, 0)) = W5 := ⟨_, rfl⟩
  have r5 : W5.heap[W3.heap.size]? = some (.cells #[.slice no q nc, .slice fo f fc, .int .i64 n] 63 (0, 0)) := by rw [← hW5]; exact heap_alloc_new _ _
  have b5 : Below W3.heap.size W3 W5 := by rw [← hW5]; exact (Below.refl _ _).alloc (Nat.le_refl _) _
  have z5 : W5.heap.size = W3.heap.size + 1 := by rw [← hW5]; simp
  have B3 := HB1.out.trans (b3.mono HB1.out.size)
  have hz1' := HZ1.out
  have hs3 := b3.size
  obtain ⟨W6, hmk, hown, hgr⟩ := HMK.out W5 (by omega)
  have m6 := moves_grownH hgr
  have b6 : Below W5.heap.size W5 W6 := ⟨m6.os, m6.tape, m6.output, m6.size, fun k hk => m6.block k hk (by simp)⟩
  have z6 := b6.size
  have l56 := (hown.lt W5.heap.size rfl).2
  obtain ⟨W7, hW7⟩ : ∃ W7, W6.alloc (.cells #[.slice (some ⟨W5.heap.size, 0, none⟩) 0 (ll + 1)] 26) = W7 := ⟨_, rfl⟩
  have b7 : Below W6.heap.size W6 W7 := by rw [← hW7]; exact (Below.refl _ _).alloc (Nat.le_refl _) _
  have z7 : W7.heap.size = W6.heap.size + 1 := by rw [← hW7]; simp
  have k7 : Boxed W7 W6.heap.size 26 (.slice (some ⟨W5.heap.size, 0, none⟩) 0 (ll + 1)) := by rw [← hW7]; exact Boxed.new _ _ _
  obtain ⟨W8, hW8⟩ : ∃ W8, W7.alloc (.cells #[.slice no q nc, .slice fo f fc, .int .i64 n] 63 (0, 0)) = W8 := ⟨_, rfl⟩
  have b8 : Below W7.heap.size W7 W8 := by rw [← hW8]; exact (Below.refl _ _).alloc (Nat.le_refl _) _
  have z8 : W8.heap.size = W7.heap.size + 1 := by rw [← hW8]; simp
  have k8 : W8.heap[W7.heap.size]? = some (.cells #[.slice no q nc, .slice fo f fc, .int .i64 n] 63 (0, 0)) := by rw [← hW8]; exact heap_alloc_new _ _
  obtain ⟨W9, hW9⟩ : ∃ W9, W8.alloc (.cells #[.slice lo ll lcap] 26) = W9 := ⟨_, rfl⟩
  have b9 : Below W8.heap.size W8 W9 := by rw [← hW9]; exact (Below.refl _ _).alloc (Nat.le_refl _) _
  have z9 : W9.heap.size = W8.heap.size + 1 := by rw [← hW9]; simp
  have k9 : W9.heap[W7.heap.size + 1]? = some (.cells #[.slice lo ll lcap] 26 (0, 0)) := by rw [← hW9, ← z8]; exact heap_alloc_new _ _
  have b79 : Below W7.heap.size W7 W9 := b8.trans (b9.mono (by omega))
  have b69 : Below W6.heap.size W6 W9 := b7.trans (b79.mono (by omega))
  have b59 : Below W5.heap.size W5 W9 := b6.trans (b69.mono (by omega))
  have b39 : Below W3.heap.size W3 W9 := b5.trans (b59.mono (by omega))
  have B9 := B3.trans (b39.mono (by omega))
  have hk8 := row_below k8 b9
  have hM9 := HMD.out.below B9
  have HSQ9 := Lib.hid (seqX_dep (HSQ.out W7.heap.size (W7.heap.size + 1) W9 ⟨hM9.rows, hM9.row, HL.out.below B9, by show _ = some (Obj.cells #[.slice no rows.length nc, .slice fo fits.length fc, .int .i64 n] _ _); rw [HQ.out, HF.out]; exact hk8, by rw [HLN.out]; exact k9⟩) (HDP.out _ _))
  have HT0 : Hid (ToldD w (w.heap.size + 1) W3.heap.size W6.heap.size W7.heap.size (W7.heap.size + 1) (.cells #[.slice no q nc, .slice fo f fc, .int .i64 n] 63 (0, 0)) 60 26 3 (.func (.func 30) #[] #[]) ([].map (fun s : Nat => Value.int .i64 ((s : Nat) : Int))) (fun _ => False) W9) := Lib.hid ⟨row_below r5 b59, row_below (row_below HF1.out b3) b39, ⟨_, row_below k7 b79, own_below hown b69, fun k hk => by
      obtain rfl : W5.heap.size = k := by simpa [Value.ownBlock] using hk
      exact ⟨id, by omega, by omega, by omega, by omega, by omega⟩⟩, ⟨id, id, id⟩, fun k hk => hk.elim, B9, ⟨by omega, by omega⟩⟩
  have HZ : Hid (w.heap.size + 2 ≤ W3.heap.size ∧ W5.heap.size = W3.heap.size + 1 ∧ W5.heap.size ≤ W6.heap.size ∧ W7.heap.size = W6.heap.size + 1 ∧ W9.heap.size = W7.heap.size + 2) := Lib.hid (by omega)
  obtain ⟨d0, d1, d2⟩ := wkr_cells (row_below r5 b6)
  have hl36 : W3.heap.size < W6.heap.size := by omega
  have HW7 := Lib.hid hW7
  have HW9 : Hid ((W7.alloc (.cells #[.slice no q nc, .slice fo f fc, .int .i64 n] 63 (0, 0))).alloc (.cells #[.slice lo ll lcap] 26) = W9) := Lib.hid (by rw [hW8, hW9])
  rw [show ((ll + 1 : Nat) : Int) = ((ll : Nat) : Int) + 1 from by omega] at hmk
  rw [show W5.heap.size = W3.heap.size + 1 from z5] at HW7
  rw [← hW5] at hmk
  have HST : Hid (Calls Tryd.prog 47 #[.agg #[.slice no q nc, .slice fo f fc, .int .i64 n], .slice lo ll lcap] W7 fun e w' => e = .returned (.func (.func 66) #[] #[.pointer (some ⟨W7.heap.size + 1, 0, none⟩), .pointer (some ⟨W7.heap.size, 0, none⟩)]) ∧ W9 = w') := Lib.hid (by
    have h := statesD_any ⟨no, rows, nc, fo, fits, fc⟩ n lo L lcap W7
    rw [HLN.out] at h
    replace h : Calls Tryd.prog 47 #[.agg #[.slice no rows.length nc, .slice fo fits.length fc, .int .i64 n], .slice lo ll lcap] W7 fun e w' => e = .returned (.func (.func 66) #[] #[.pointer (some ⟨W7.heap.size + 1, 0, none⟩), .pointer (some ⟨W7.heap.size, 0, none⟩)]) ∧ (W7.alloc (.cells #[.slice no rows.length nc, .slice fo fits.length fc, .int .i64 n] 63 (0, 0))).alloc (.cells #[.slice lo ll lcap] 26) = w' := h
    rw [HQ.out, HF.out, HW9.out] at h
    exact h)
  clear b3 B3 hs3 hown hgr m6 b6 z6 l56 hW7 b7 z7 k7 hW8 b8 z8 k8 hW9 b9 z9 k9 b79 b69 b59 b39 B9 c0 c1 r5 b5 hz1' hk8 hM9 hW5 HSQ HDP
  gi_wp2_with fail
  rw [HW7.out]
  refine ⟨trivial, (callsIn_wide.2 HST.out).mono ?_⟩
  rintro e _ ⟨rfl, rfl⟩
  gi_wp2_with fail
  have hMM := HZ.out
  refine wpIn_seqX (n := 6) (Ow := fun _ => False) (Dep := DepD w W7.heap.size (W7.heap.size + 1)) (encs := fun s : Nat => #[.int .i64 (s : Nat)]) (all := R) (by omega) rfl (enters_of Tryd.func66 (by kernel_rfl) rfl) (fun x => rfl) HSQ9.out
    (fun k hk => hk.elim) (fun k hk => by rcases hk with h | h | h <;> omega)
    (fun X pre W => ToldD w (w.heap.size + 1) W3.heap.size W6.heap.size W7.heap.size (W7.heap.size + 1) (.cells #[.slice no q nc, .slice fo f fc, .int .i64 n] 63 (0, 0)) 60 26 3 (.func (.func 30) #[] #[]) (pre.map (fun s : Nat => Value.int .i64 ((s : Nat) : Int))) X W)
    (fun _ _ _ _ => False) ?hI ?hIx ?h0
    (fun _ s => { tmps := #[.agg #[.slice no q nc, .slice fo f fc], .int .i64 n, (.func (.func 30) #[] #[]), .slice lo ll lcap, .pointer (some ⟨w.heap.size, 0, none⟩), undef, .pointer (some ⟨w.heap.size + 1, 0, none⟩), undef, .slice none 0 0, .nilIface, .pointer (some ⟨W3.heap.size, 0, none⟩), .nilIface, .pointer (some ⟨W6.heap.size, 0, none⟩), .int .i64 (s : Nat), .tuple #[.agg #[.slice no q nc, .slice fo f fc, .int .i64 n], .nilIface], .agg #[.slice no q nc, .slice fo f fc], .int .i64 n, .tuple #[.agg #[.slice no q nc, .slice fo f fc, .int .i64 n], .nilIface], .agg #[.slice no q nc, .slice fo f fc, .int .i64 n], .nilIface, .nilIface, .bool false, undef, .slice lo ll lcap, .int .i64 (ll : Nat), .int .i64 (((ll : Nat) : Int) + 1), .slice (some ⟨W3.heap.size + 1, 0, none⟩) 0 (ll + 1), .agg #[.slice no q nc, .slice fo f fc, .int .i64 n], .slice lo ll lcap, .func (.func 66) #[] #[.pointer (some ⟨W7.heap.size + 1, 0, none⟩), .pointer (some ⟨W7.heap.size, 0, none⟩)], .int .i64 (s : Nat), undef, undef, undef, undef, undef, undef, undef, undef], defers := [] })
    (fun A _ B => A = B) (fun A x B h => by rw [h]; exact Moves.refl _ _) ?assign ?body ?done ?stop
  case hI => exact fun X X' ys A C h hm hX => h.moves hm hX
  case hIx => exact fun _ _ _ _ _ _ h _ _ => h
  case h0 => exact HT0.out
  case assign =>
    rintro l2 x A K hK
    clear hMM
    gi_wp2
    first | exact hK _ rfl | rfl
  case body =>
    rintro lp X pre s Aw A' W1 hA1 hpx rfl hm hXn hXn1 hXlt hI
    have hfol : Tryd.prog.follows .mixedOrders = true := by kernel_rfl
    have hpl : pre.length ≤ 1000 := by
      have h2 := hpx.length_le
      have h3 := HRL.out
      rw [List.length_append, List.length_singleton] at h2
      have := HLL.out
      have := HLN.out
      omega
    have hs : s < rows.length := HRS.out s (hpx.subset (List.mem_append_right _ (List.mem_singleton.2 rfl)))
    have hq0 := HQ0.out
    have hsf : s < fits.length := by omega
    obtain ⟨v, a1, a2, a3⟩ := hI.ab
    obtain ⟨o1, c1, rfl⟩ := own_form a2
    rw [List.length_map] at a1 a2 a3
    obtain ⟨e0, e1, e2⟩ := wkr_cells hI.rb
    have e4 := hI.fb.cell
    have e10 := a1.cell
    obtain ⟨pl, hpl'⟩ : ∃ pl, pre.length = pl := ⟨_, rfl⟩
    rw [hpl'] at a1 e10
    have hXW1 : ∀ k, X k → k < W1.heap.size := fun k hk => by have := hXlt k hk; have := hm.size; omega
    have hMW : MachD W1.drew ⟨no, rows, nc, fo, fits, fc⟩ := HMD.out.below (hI.bw.drew)
    have CON0 : Hid (Calls Tryd.prog 30 #[.agg #[.slice no q nc, .slice fo f fc, .int .i64 n], .int .i64 (s : Nat)] W1.drew fun e w' => e = .returned (.int .i64 ((s : Nat) : Int)) ∧ Below W1.drew.heap.size W1.drew w') := Lib.hid (by
      have h := (stateD_any ⟨no, rows, nc, fo, fits, fc⟩ n ((s : Nat) : Int) W1.drew)
      replace h : Calls Tryd.prog 30 #[.agg #[.slice no rows.length nc, .slice fo fits.length fc, .int .i64 n], .int .i64 (s : Nat)] W1.drew fun e w' => e = .returned (.int .i64 ((s : Nat) : Int)) ∧ Below W1.drew.heap.size W1.drew w' := h
      rw [HQ.out, HF.out] at h
      exact h)
    have CON : Hid (Calls Tryd.prog 30 #[.agg #[.slice no q nc, .slice fo f fc, .int .i64 n], .int .i64 (s : Nat)] W1.drew fun e W2 => e = .returned (.int .i64 ((s : Nat) : Int)) ∧ ∃ g cap' w6, Hid (W2.cell? ⟨w.heap.size + 1, 0, none⟩ = some ((.func (.func 30) #[] #[])) ∧ W2.cell? ⟨W3.heap.size, 0, none⟩ = some (.slice no q nc) ∧ W2.cell? ⟨W3.heap.size, 1, none⟩ = some (.slice fo f fc) ∧ W2.cell? ⟨W3.heap.size, 2, none⟩ = some (.int .i64 n)) ∧ W2.cell? ⟨W6.heap.size, 0, none⟩ = some (.slice o1 pl c1) ∧ W6.heap.size < W2.heap.size ∧ (appSem #[26, 26] 26 #[.slice o1 pl c1, .slice (some ⟨W2.heap.size, 0, none⟩) 1 1]).run Tryd.prog (W2.alloc (.cells #[.int .i64 ((s : Nat) : Int)] 3)) = .ok (.slice (some ⟨g, 0, none⟩) (pl + 1) cap') w6 ∧
        w6.cell? ⟨W6.heap.size, 0, none⟩ = some (.slice o1 pl c1) ∧ w6.frozen? ⟨W6.heap.size, 0, none⟩ = false ∧ Hid ((W2.alloc (.cells #[.int .i64 ((s : Nat) : Int)] 3)).cell? ⟨w.heap.size + 1, 0, none⟩ = some ((.func (.func 30) #[] #[])) ∧ (W2.alloc (.cells #[.int .i64 ((s : Nat) : Int)] 3)).cell? ⟨W3.heap.size, 0, none⟩ = some (.slice no q nc) ∧ (W2.alloc (.cells #[.int .i64 ((s : Nat) : Int)] 3)).cell? ⟨W3.heap.size, 1, none⟩ = some (.slice fo f fc) ∧ (W2.alloc (.cells #[.int .i64 ((s : Nat) : Int)] 3)).cell? ⟨W3.heap.size, 2, none⟩ = some (.int .i64 n)) ∧ Hid (w6.cell? ⟨w.heap.size + 1, 0, none⟩ = some ((.func (.func 30) #[] #[])) ∧ w6.cell? ⟨W3.heap.size, 0, none⟩ = some (.slice no q nc) ∧ w6.cell? ⟨W3.heap.size, 1, none⟩ = some (.slice fo f fc) ∧ w6.cell? ⟨W3.heap.size, 2, none⟩ = some (.int .i64 n)) ∧ ∃ w7, w6.setCell ⟨W6.heap.size, 0, none⟩ (.slice (some ⟨g, 0, none⟩) (pl + 1) cap') = w7 ∧ Hid (w7.cell? ⟨w.heap.size + 1, 0, none⟩ = some ((.func (.func 30) #[] #[])) ∧ w7.cell? ⟨W3.heap.size, 0, none⟩ = some (.slice no q nc) ∧ w7.cell? ⟨W3.heap.size, 1, none⟩ = some (.slice fo f fc) ∧ w7.cell? ⟨W3.heap.size, 2, none⟩ = some (.int .i64 n)) ∧
        Hid (Moves (fun k => ¬ X k ∧ ¬ DepD w W7.heap.size (W7.heap.size + 1) k) W1 w7 ∧ ToldD w (w.heap.size + 1) W3.heap.size W6.heap.size W7.heap.size (W7.heap.size + 1) (.cells #[.slice no q nc, .slice fo f fc, .int .i64 n] 63 (0, 0)) 60 26 3 (.func (.func 30) #[] #[]) ((pre ++ [s]).map (fun s : Nat => Value.int .i64 ((s : Nat) : Int))) X w7)) := Lib.hid (by
      refine CON0.out.mono ?_
      rintro e W2 ⟨rfl, b2⟩
      have m2 : Moves (fun _ => False) W1 W2 := ((Moves.refl _ _).drew).trans (Moves.of_below b2)
      have I2 := hI.moves (m2.mono fun _ h => h.elim) (X' := X) (fun k hk => ⟨.inl hk, by have := hXW1 k hk; have := m2.size; omega⟩)
      obtain ⟨o', c', g, cap', w6, k1, k2, k3, k4, k5, k6, k7, k8⟩ := I2.app app_int (by omega) (fun k hk => by have := hXW1 k hk; have := m2.size; omega) (by rw [List.length_map]; omega) (.int .i64 ((s : Nat) : Int)) ⟨_, rfl⟩
      rw [List.length_map, hpl'] at k1 k2 k3 k5 k6
      have k0 : W2.cell? ⟨W6.heap.size, 0, none⟩ = some (.slice o1 pl c1) := (show Boxed W2 W6.heap.size _ _ from row_keep a1 m2 id).cell
      have ke := Option.some.inj (k1.symm.trans k0)
      obtain ⟨rfl, rfl⟩ : o' = o1 ∧ c' = c1 := by injection ke with q1 q2 q3; exact ⟨q1, q3⟩
      have hbA : Below W2.heap.size W2 (W2.alloc (.cells #[.int .i64 ((s : Nat) : Int)] 3)) := (Below.refl _ _).alloc (Nat.le_refl _) _
      have SF : ∀ W, W.heap[W3.heap.size]? = some (.cells #[.slice no q nc, .slice fo f fc, .int .i64 n] 63 (0, 0)) → Boxed W (w.heap.size + 1) 60 (.func (.func 30) #[] #[]) → W.cell? ⟨w.heap.size + 1, 0, none⟩ = some ((.func (.func 30) #[] #[])) ∧ W.cell? ⟨W3.heap.size, 0, none⟩ = some (.slice no q nc) ∧ W.cell? ⟨W3.heap.size, 1, none⟩ = some (.slice fo f fc) ∧ W.cell? ⟨W3.heap.size, 2, none⟩ = some (.int .i64 n) := fun W q1 q2 => ⟨q2.cell, (wkr_cells q1).1, (wkr_cells q1).2.1, (wkr_cells q1).2.2⟩
      refine ⟨rfl, g, cap', w6, Lib.hid (SF _ I2.rb I2.fb), k0, World.block_lt_of_cell? W2 _ k0, k2, k3, k4, Lib.hid (SF _ (row_below I2.rb hbA) (row_below I2.fb hbA)), Lib.hid (SF _ k7 k8), _, rfl, Lib.hid (SF _ k5.rb k5.fb), Lib.hid ⟨(m2.mono fun _ h => h.elim).trans k6, ?_⟩⟩
      rw [List.map_append, List.map_singleton]
      exact k5)
    clear hI a1 a2 a3 hpl' hpx hm hXn hXn1 hXlt hA1 hXW1 hMM hs hpl hMW hq0 hsf
    gi_wp2_with fail
    refine wpIn_region_heldQ lp (fun W => W.cell? ⟨w.heap.size + 1, 0, none⟩ = some ((.func (.func 30) #[] #[])) ∧ W.cell? ⟨W3.heap.size, 0, none⟩ = some (.slice no q nc) ∧ W.cell? ⟨W3.heap.size, 1, none⟩ = some (.slice fo f fc) ∧ W.cell? ⟨W3.heap.size, 2, none⟩ = some (.int .i64 n)) (fun ⟨_, _, h⟩ => h) rfl hfol ⟨e4, e0, e1, e2⟩ (fun hHeld => ?_)
    refine wpAnyH_take (i := 1) (v := ?_) rfl (by kernel_rfl) (by kernel_rfl) (by kernel_rfl) (fun _ _ _ h => h) (Or.inl ⟨by rfl, ?_⟩) hHeld ?_
    rotate_left 1
    · (intro w' hSw; (try dsimp only at hSw); first | (go_simp; done) | (go_simp; with_reducible rfl))
    change wpAnyH _ _ _ _ _ _ _ (Act.put _ (some 32) _) _
    simp only [Act.put, List.setIfInBounds_toArray, List.set_cons_zero, List.set_cons_succ]
    refine wpAnyH_take (i := 2) (v := ?_) rfl (by kernel_rfl) (by kernel_rfl) (by kernel_rfl) (fun _ _ _ h => h) (Or.inl ⟨by rfl, ?_⟩) hHeld ?_
    rotate_left 1
    · (intro w' hSw; (try dsimp only at hSw); first | (go_simp; done) | (go_simp; with_reducible rfl))
    change wpAnyH _ _ _ _ _ _ _ (Act.put _ (some 33) _) _
    simp only [Act.put, List.setIfInBounds_toArray, List.set_cons_zero, List.set_cons_succ]
    refine wpAnyH_take (i := 3) (v := ?_) rfl (by kernel_rfl) (by kernel_rfl) (by kernel_rfl) (fun _ _ _ h => h) (Or.inl ⟨by rfl, ?_⟩) hHeld ?_
    rotate_left 1
    · (intro w' hSw; (try dsimp only at hSw); first | (go_simp; done) | (go_simp; with_reducible rfl))
    change wpAnyH _ _ _ _ _ _ _ (Act.put _ (some 34) _) _
    simp only [Act.put, List.setIfInBounds_toArray, List.set_cons_zero, List.set_cons_succ]
    refine wpAnyH_ready (rs := [0, 4]) (by kernel_rfl) (by simp) ?_
    refine AllReadyH.cons rfl (fun K hK => ?_) ?_
    focus
      go_simp
      refine hK.out _ _ (hHeld) (fun hHeld => ?_)
      clear hK K
      try simp only [Act.put, List.setIfInBounds_toArray, List.set_cons_zero, List.set_cons_succ]
      refine wpAnyH_ready (rs := [4]) (by kernel_rfl) (by simp) ?_
      refine AllReadyH.cons rfl (fun K hK => ?_) AllReadyH.nil
      go_simp
      refine CON.out.mono ?_
      rintro e W2 ⟨rfl, g, cap', w6, HS2, k0, hlt, hrun, k3, k4, HSA, HS6, w7, HW7E, HS7, HFIN⟩
      replace HW7E := Lib.hid HW7E
      go_wp2_with fail
      refine hK.out _ _ (HS2.out) (fun hHeld => ?_)
      clear hK K
      try simp only [Act.put, List.setIfInBounds_toArray, List.set_cons_zero, List.set_cons_succ]
      refine wpAnyH_ready (rs := [5]) (by kernel_rfl) (by simp) ?_
      refine AllReadyH.cons rfl (fun K hK => ?_) AllReadyH.nil
      go_simp
      refine hK.out _ _ (HSA.out) (fun hHeld => ?_)
      clear hK K
      try simp only [Act.put, List.setIfInBounds_toArray, List.set_cons_zero, List.set_cons_succ]
      refine wpAnyH_ready (rs := [6]) (by kernel_rfl) (by simp) ?_
      refine AllReadyH.cons rfl (fun K hK => ?_) AllReadyH.nil
      go_simp
      refine hK.out _ _ (HS6.out) (fun hHeld => ?_)
      clear hK K
      try simp only [Act.put, List.setIfInBounds_toArray, List.set_cons_zero, List.set_cons_succ]
      refine wpAnyH_ready (rs := [7]) (by kernel_rfl) (by simp) ?_
      refine AllReadyH.cons rfl (fun K hK => ?_) AllReadyH.nil
      go_simp
      rw [HW7E.out]
      refine hK.out _ _ (HS7.out) (fun hHeld => ?_)
      clear hK K
      try simp only [Act.put, List.setIfInBounds_toArray, List.set_cons_zero, List.set_cons_succ]
      refine wpAnyH_done (by kernel_rfl) ?_ _
      gi_wp2
      exact HFIN.out
    refine AllReadyH.cons rfl (fun K hK => ?_) AllReadyH.nil
    go_simp
    refine CON.out.mono ?_
    rintro e W2 ⟨rfl, g, cap', w6, HS2, k0, hlt, hrun, k3, k4, HSA, HS6, w7, HW7E, HS7, HFIN⟩
    replace HW7E := Lib.hid HW7E
    go_wp2_with fail
    refine hK.out _ _ (HS2.out) (fun hHeld => ?_)
    clear hK K
    try simp only [Act.put, List.setIfInBounds_toArray, List.set_cons_zero, List.set_cons_succ]
    refine wpAnyH_ready (rs := [0, 5]) (by kernel_rfl) (by simp) ?_
    refine AllReadyH.cons rfl (fun K hK => ?_) ?_
    focus
      go_simp
      refine hK.out _ _ (HS2.out) (fun hHeld => ?_)
      clear hK K
      try simp only [Act.put, List.setIfInBounds_toArray, List.set_cons_zero, List.set_cons_succ]
      refine wpAnyH_ready (rs := [5]) (by kernel_rfl) (by simp) ?_
      refine AllReadyH.cons rfl (fun K hK => ?_) AllReadyH.nil
      go_simp
      refine hK.out _ _ (HSA.out) (fun hHeld => ?_)
      clear hK K
      try simp only [Act.put, List.setIfInBounds_toArray, List.set_cons_zero, List.set_cons_succ]
      refine wpAnyH_ready (rs := [6]) (by kernel_rfl) (by simp) ?_
      refine AllReadyH.cons rfl (fun K hK => ?_) AllReadyH.nil
      go_simp
      refine hK.out _ _ (HS6.out) (fun hHeld => ?_)
      clear hK K
      try simp only [Act.put, List.setIfInBounds_toArray, List.set_cons_zero, List.set_cons_succ]
      refine wpAnyH_ready (rs := [7]) (by kernel_rfl) (by simp) ?_
      refine AllReadyH.cons rfl (fun K hK => ?_) AllReadyH.nil
      go_simp
      rw [HW7E.out]
      refine hK.out _ _ (HS7.out) (fun hHeld => ?_)
      clear hK K
      try simp only [Act.put, List.setIfInBounds_toArray, List.set_cons_zero, List.set_cons_succ]
      refine wpAnyH_done (by kernel_rfl) ?_ _
      gi_wp2
      exact HFIN.out
    refine AllReadyH.cons rfl (fun K hK => ?_) AllReadyH.nil
    go_simp
    refine hK.out _ _ (HSA.out) (fun hHeld => ?_)
    clear hK K
    try simp only [Act.put, List.setIfInBounds_toArray, List.set_cons_zero, List.set_cons_succ]
    refine wpAnyH_ready (rs := [0]) (by kernel_rfl) (by simp) ?_
    refine AllReadyH.cons rfl (fun K hK => ?_) AllReadyH.nil
    go_simp
    refine hK.out _ _ (HSA.out) (fun hHeld => ?_)
    clear hK K
    try simp only [Act.put, List.setIfInBounds_toArray, List.set_cons_zero, List.set_cons_succ]
    refine wpAnyH_ready (rs := [6]) (by kernel_rfl) (by simp) ?_
    refine AllReadyH.cons rfl (fun K hK => ?_) AllReadyH.nil
    go_simp
    refine hK.out _ _ (HS6.out) (fun hHeld => ?_)
    clear hK K
    try simp only [Act.put, List.setIfInBounds_toArray, List.set_cons_zero, List.set_cons_succ]
    refine wpAnyH_ready (rs := [7]) (by kernel_rfl) (by simp) ?_
    refine AllReadyH.cons rfl (fun K hK => ?_) AllReadyH.nil
    go_simp
    rw [HW7E.out]
    refine hK.out _ _ (HS7.out) (fun hHeld => ?_)
    clear hK K
    try simp only [Act.put, List.setIfInBounds_toArray, List.set_cons_zero, List.set_cons_succ]
    refine wpAnyH_done (by kernel_rfl) ?_ _
    gi_wp2
    exact HFIN.out
  case done =>
    rintro X D W hD hXD hI hX hK
    obtain ⟨v, a1, a2, a3⟩ := hI.ab
    obtain ⟨o1, c1, rfl⟩ := own_form a2
    have hlen : R.length = ll + 1 := by rw [HRL.out, HLN.out]
    rw [List.length_map, hlen] at a1 a2 a3
    have e10 := a1.cell
    have FIN : Hid (P (.returned (.tuple #[.slice o1 (ll + 1) c1, .nilIface])) (W.putObj D (.deferred none))) := Lib.hid (by
      have mp : Moves (fun k => k = D) W (W.putObj D (.deferred none)) := Moves.putObj rfl
      rw [← HP.out]
      unfold TellIQ
      rw [HLN.out, HRE.out]
      exact ⟨o1, c1, rfl, own_movesH a2 mp (fun k hk e => (a3 k hk).1 (by rw [e]; exact hXD)), Moves.below hI.bw hI.bw.size mp (fun k hk => by have := hI.lo D hXD; omega)⟩)
    have HK := Lib.hid hK
    clear hI a1 a2 a3 hX hK hXD hD hlen hMM
    gi_wp2
    refine ⟨by simp, .inl ⟨_, _, rfl, run_takeDeferred HK.out, ?_⟩⟩
    exact ⟨_, results_tmp2 (t := 8) (u := 9) rfl _ _ _, FIN.out⟩
  case stop =>
    rintro X D c pre W _ _ _ h
    exact h.elim
end Go.Proofs.YtaoooocalpkhjaaDoor
