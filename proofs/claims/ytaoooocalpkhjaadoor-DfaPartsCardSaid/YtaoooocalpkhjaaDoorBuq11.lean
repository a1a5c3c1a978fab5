/- Shaken by bunq.py. -/
import Derived.Test.YtaoooocalpkhjaaDoorBuq7
import Derived.Test.YtaoooocalpkhjaaDoorBuq8
import Derived.Test.YtaoooocalpkhjaaDoorBuq1
import Derived.Test.YtaoooocalpkhjaaDoorBuq10
import Derived.Test.YtaoooocalpkhjaaDoorBuq6
import Derived.Test.YtaoooocalpkhjaaDoorBuq2
import Derived.Deep.RegionHeld3
import Derived.Deep.QuietTactic
namespace Go.Proofs.YtaoooocalpkhjaaDoor
open Go.RowKit Go.Shelf Go.Maps
attribute [local go_sem] Oper.semAt_some

def rowsA (g N k j : Nat) : Array Value := (((List.range j).map fun i => Value.slice (some ⟨g, i * (N + 1), none⟩) (N + 1) (N + 1)) ++ List.replicate (k - j) (Value.slice none 0 0)).toArray
theorem rowsA_size (g N k j : Nat) (h : j ≤ k) : (rowsA g N k j).size = k := by
  unfold rowsA
  rw [List.size_toArray, List.length_append, List.length_map, List.length_range, List.length_replicate]
  omega
theorem rowsA_next (g N k j : Nat) (h : j < k) : (rowsA g N k j).setIfInBounds j (.slice (some ⟨g, j * (N + 1), none⟩) (N + 1) (N + 1)) = rowsA g N k (j + 1) := by
  unfold rowsA
  rw [List.setIfInBounds_toArray]
  congr 1
  rw [List.set_append_right _ _ (by rw [List.length_map, List.length_range]; exact Nat.le_refl _), List.length_map, List.length_range, Nat.sub_self, List.range_succ, List.map_append, List.append_assoc]
  congr 1
  rw [show k - j = (k - (j + 1)) + 1 by omega, List.replicate_succ]
  rfl
theorem rowsA_at (g N k j : Nat) (h : j < k) : (rowsA g N k j)[j]? = some (.slice none 0 0) := by
  unfold rowsA
  rw [List.getElem?_toArray, List.getElem?_append_right (by rw [List.length_map, List.length_range]; exact Nat.le_refl _), List.length_map, List.length_range, Nat.sub_self, List.getElem?_replicate, if_pos (by omega)]
theorem sums_rows {a N : Nat} (h : a ≤ 9900) (hN : N ≤ 32) : wrap64 (((a : Nat) : Int) + ((N : Nat) : Int)) = ((a : Nat) : Int) + ((N : Nat) : Int) ∧ wrap64 (((a : Nat) : Int) + ((N : Nat) : Int) + 1) = ((a : Nat) : Int) + ((N : Nat) : Int) + 1 := by
  constructor
  · unfold wrap64
    omega
  · unfold wrap64
    omega
theorem prod_rows {a j N : Nat} (ha : j * (N + 1) = a) (h : a ≤ 9900) : wrap64 (((j : Nat) : Int) * (((N : Nat) : Int) + 1)) = ((a : Nat) : Int) := by
  rw [show ((N : Nat) : Int) + 1 = ((N + 1 : Nat) : Int) by omega]
  rw [← Int.natCast_mul, ha]
  unfold wrap64
  omega
def slD (v a b c : Value) : Sem Value := Instr.sliceAt 26 v (some a) (some b) (some c)
theorem sl_hideD (v a b c : Value) : Instr.sliceAt 26 v (some a) (some b) (some c) = slD v a b c := rfl
attribute [local go_sem ↓] sl_hideD
set_option maxRecDepth 100000 in
theorem slice_rows {g a N Q wc : Nat} (h : a + (N + 1) ≤ Q) (hQ : Q ≤ wc) (wr : World) : (slD (.slice (some ⟨g, 0, none⟩) Q wc) (.int .i64 ((a : Nat) : Int)) (.int .i64 (((a : Nat) : Int) + ((N : Nat) : Int) + 1)) (.int .i64 (((a : Nat) : Int) + ((N : Nat) : Int) + 1))).run Tryd.prog wr = .ok (.slice (some ⟨g, a, none⟩) (N + 1) (N + 1)) wr := by
  rw [show ((a : Nat) : Int) + ((N : Nat) : Int) + 1 = ((a + N + 1 : Nat) : Int) by omega]
  unfold slD
  rw [run_sliceAt_slice wr 26 _ _ _ _ Tryd.underlying26, run_slice_lhm wr 26 (some ⟨g, 0, none⟩) Q wc Tryd.underlying26 .i64 .i64 .i64 ((a : Nat) : Int) ((a + N + 1 : Nat) : Int) ((a + N + 1 : Nat) : Int) (by omega) (by omega) (by omega) (by omega)]
  have hs : (sizeOf (Tryd.prog.elem 26)).run Tryd.prog wr = .ok 1 wr := by kernel_rfl
  rw [hs]
  show Result.ok (sliced _ _ _ _ _) wr = _
  unfold sliced
  rw [Int.toNat_natCast, Int.toNat_natCast, if_neg (by omega), Nat.mul_one]
  have hadd : (⟨g, 0, none⟩ : Addr).add a = ⟨g, a, none⟩ := by unfold Addr.add; split <;> simp_all
  rw [Option.map_some, hadd, show a + N + 1 - a = N + 1 by omega]
theorem rows_nums {j k N Q : Nat} (hQ : k * (N + 1) = Q) (hj : j < k) (hk : k ≤ 300) (hN : N ≤ 32) : ∃ a, j * (N + 1) = a ∧ a + (N + 1) ≤ Q ∧ a ≤ 9900 := by
  have h1 : (j + 1) * (N + 1) ≤ k * (N + 1) := Nat.mul_le_mul_right _ (by omega)
  have h2 : j * (N + 1) ≤ 300 * (N + 1) := Nat.mul_le_mul_right _ (by omega)
  rw [hQ, Nat.succ_mul] at h1
  exact ⟨_, rfl, h1, by omega⟩
theorem rows_step {j k : Nat} (h : j < k) (hk : k ≤ 300) : j + 1 ≤ k ∧ k - (j + 1) < k - j ∧ j < 1000000 ∧ decide (((j : Nat) : Int) < ((k : Nat) : Int)) = true := ⟨h, by omega, by omega, decide_eq_true (by omega)⟩
theorem infoRow : (Tryd.prog.info? 26).map (fun i => (i.zero, i.size, i.bytes)) = some (some (.slice none 0 0), 1, 24) := by kernel_rfl
set_option maxRecDepth 100000 in
set_option maxHeartbeats 4000000 in
theorem rowsD_any (G g k N wc fc : Nat) (fo : Option Addr) (nx ru m s : Value) (hk : k ≤ 300) (hN : N ≤ 32) (hwc : k * (N + 1) ≤ wc) (w : World) (hG : w.heap[G]? = some (bldO nx (.slice fo k fc) ru (N : Nat) m s (.slice (some ⟨g, 0, none⟩) (k * (N + 1)) wc))) :
    Calls Tryd.prog 58 #[.pointer (some ⟨G, 0, none⟩)] w fun e w' => e = .returned (.slice (some ⟨w.heap.size, 0, none⟩) k k) ∧ w'.heap[w.heap.size]? = some (.cells (rowsA g N k k) 26 (0, 0)) ∧ Below w.heap.size w w' := by
  obtain ⟨i0, hi, hz0, hz1, hz2⟩ := info_parts infoRow
  have hmk := run_makeSlice (P := Tryd.prog) w 22 26 i0 (.slice none 0 0) Tryd.underlying22 hi hz0 .i64 .i64 (k : Nat) (k : Nat) (by omega) (by omega) (by rw [hz1]; omega) (by rw [hz2]; omega) (by omega)
  have hma : madeCells (Value.slice none 0 0).cells (((k : Nat) : Int).toNat * i0.size) = rowsA g N k 0 := by
    rw [hz1, Int.toNat_natCast, Nat.mul_one]
    apply Array.ext
    · rw [size_madeCells, rowsA_size _ _ _ _ (Nat.zero_le _)]
    · intro p hp hq
      rw [size_madeCells] at hp
      have h1 : (rowsA g N k 0)[p]? = some (.slice none 0 0) := by
        unfold rowsA
        rw [List.range_zero, List.map_nil, List.nil_append, List.getElem?_toArray, List.getElem?_replicate, if_pos (by omega)]
      have h2 := (Array.getElem?_eq_some_iff.1 h1).2
      rw [h2]
      simp [madeCells, Value.cells, Nat.mod_one]
  rw [hma, Int.toNat_natCast] at hmk
  obtain ⟨w1, hw1⟩ : ∃ w1, w.alloc (.cells (rowsA g N k 0) 26) = w1 := ⟨_, rfl⟩
  rw [hw1] at hmk
  have b1 : Below w.heap.size w w1 := by rw [← hw1]; exact (Below.refl _ _).alloc (Nat.le_refl _) _
  have r1 : w1.heap[w.heap.size]? = some (.cells (rowsA g N k 0) 26 (0, 0)) := by rw [← hw1]; exact heap_alloc_new _ _
  have hGl := (Array.getElem?_eq_some_iff.1 hG).1
  obtain ⟨c0, c1, c2, c3, c4, c5, c6, _⟩ := seven_cells hG
  have HB1 := Lib.hid b1
  have HR1 := Lib.hid r1
  have HG := Lib.hid hG
  obtain ⟨Q, hQ⟩ : ∃ Q, k * (N + 1) = Q := ⟨_, rfl⟩
  rw [hQ] at c6 hwc HG
  have HQ := Lib.hid hQ
  have hn1 : wrap64 (((N : Nat) : Int) + 1) = ((N : Nat) : Int) + 1 := by unfold wrap64; omega
  clear hw1 b1 r1 hG hma hi hz0 hz1 hz2 hQ c0 c2 c4 c5
  go_enter Tryd.func58, Tryd.ntmps58
  go_wp2_with fail
  clear c1 c3 c6
  go_loopg [16] k (fun d v wr => ∃ j : Nat, v = .int .i64 (j : Nat) ∧ j ≤ k ∧ d = k - j ∧ Hid (wr.heap[w.heap.size]? = some (.cells (rowsA g N k j) 26 (0, 0))) ∧ Hid (Moves (fun q => q = w.heap.size) w1 wr))
  case atStart => exact ⟨0, rfl, Nat.zero_le _, rfl, HR1, Lib.hid (Moves.refl _ _)⟩
  case round =>
    obtain ⟨j, rfl, hj, rfl, HR, HM⟩ := hrel
    have hbw := Moves.below HB1.out HB1.out.size HM.out (fun q hq => by omega)
    rcases Nat.lt_or_ge j k with hlt | hge
    · obtain ⟨hj1, hms, hjm, d1⟩ := rows_step hlt hk
      obtain ⟨c0, c1, c2, c3, c4, c5, c6, _⟩ := seven_cells (row_below HG.out hbw)
      have hGl2 := World.block_lt_of_cell? wr _ c0
      have k0 : wr.cell? ⟨w.heap.size, j, none⟩ = some (.slice none 0 0) := by rw [cell_of_row _ _ j _ _ _ HR.out]; exact rowsA_at g N k j hlt
      have f0 : wr.frozen? ⟨w.heap.size, j, none⟩ = false := frozen_of_row _ _ _ _ _ HR.out
      have l0 := World.block_lt_of_cell? wr _ k0
      obtain ⟨a, ha, haQ, haL⟩ := rows_nums HQ.out hlt hk hN
      have e1 := prod_rows ha haL
      obtain ⟨e2, e3⟩ := sums_rows haL hN
      have hsl := slice_rows (g := g) (a := a) (N := N) (Q := Q) (wc := wc) haQ hwc wr
      obtain ⟨w7, hw7⟩ : ∃ w7, wr.setCell ⟨w.heap.size, j, none⟩ (.slice (some ⟨g, a, none⟩) (N + 1) (N + 1)) = w7 := ⟨_, rfl⟩
      have HR7 : Hid (w7.heap[w.heap.size]? = some (.cells (rowsA g N k (j + 1)) 26 (0, 0))) := Lib.hid (by
        rw [← hw7, heap_setCell_same _ _ _ _ _ _ HR.out, ← ha, rowsA_next g N k j hlt])
      have HM7 : Hid (Moves (fun q => q = w.heap.size) w1 w7) := Lib.hid (by
        rw [← hw7]
        exact HM.out.trans (Moves.setCell (S := fun q => q = w.heap.size) rfl))
      have HW7 := Lib.hid hw7
      have HMS := Lib.hid hms
      clear hw7 HR HM hbw c0 c1 c2 c4 c5 ha haQ haL hms hwc
      go_wp2_with fail
      rw [HW7.out]
      go_wp2_with fail
      go_roundg (k - (j + 1))
      case measure => exact HMS.out
      case rel => exact ⟨j + 1, by simp, hj1, rfl, HR7, HM7⟩
    · obtain rfl : j = k := by omega
      have d1 : decide (((j : Nat) : Int) < ((j : Nat) : Int)) = false := decide_eq_false (by omega)
      have HBW := Lib.hid hbw
      clear hbw
      go_wp2_with fail
      go_ret
      exact ⟨rfl, HR.out, HBW.out⟩
end Go.Proofs.YtaoooocalpkhjaaDoor
namespace Go.Proofs.YtaoooocalpkhjaaDoor
open Go.RowKit Go.Shelf

theorem rightB_up {n : Nat} {xs : List ItemP} (hr : rightB xs ((n : Nat) : Int) = true) : rightB xs 32 = true := by
  obtain ⟨h1, h2, h3⟩ := rightB_parts hr
  refine rightB_of ⟨by omega, by omega⟩ h2 fun x hx => ⟨?_, (h3 x hx).2⟩
  obtain ⟨y, m, e1, e2, e3, e4, e5⟩ := rightZ_of (h3 x hx).1
  rw [e1]
  exact rightZ_32 e4 e5
def leftsL (n : Nat) (l : List RulX) : Prop := ∀ x ∈ l, rightB x.1.2.2.1 ((n : Nat) : Int) = true
theorem leftsL.up {n : Nat} {l : List RulX} (h : leftsL n l) : rightsL l := fun x hx => rightB_up (h x hx)
theorem lefts_of {n : Int} {l : List RulX} (h : rightsU (l.map plX) n = true) : ∃ N : Nat, n = ((N : Nat) : Int) ∧ 1 ≤ N ∧ N ≤ 32 ∧ l.length ≤ 40 ∧ leftsL N l := by
  obtain ⟨h1, h2, h3, h4⟩ := rights_parts h
  refine ⟨n.toNat, by omega, by omega, by omega, by rw [List.length_map] at h3; exact h3, fun x hx => ?_⟩
  have := h4 (plX x) (List.mem_map.2 ⟨x, hx, rfl⟩)
  unfold rightU at this
  rw [Bool.and_eq_true, Bool.and_eq_true] at this
  rw [show ((n.toNat : Nat) : Int) = n by omega]
  exact this.1.1
end Go.Proofs.YtaoooocalpkhjaaDoor
namespace Go.Proofs.YtaoooocalpkhjaaDoor
open Go.RowKit Go.Shelf Go.Maps
attribute [local go_sem] Oper.semAt_some

abbrev macZ : Value := .agg #[.slice none 0 0, .slice none 0 0]
abbrev macZO : Obj := .cells #[.slice none 0 0, .slice none 0 0] 25
abbrev bldZO : Obj := .cells #[.slice none 0 0, .slice none 0 0, .slice none 0 0, .int .i64 0, .map none, .slice none 0 0, .slice none 0 0] 97
def depM (m : MachX) (k : Nat) : Prop := (0 < m.rows.length ∧ inQ m.no k) ∨ (∃ x ∈ m.rows, 0 < x.2.1.length ∧ inQ x.1 k) ∨ (0 < m.fits.length ∧ inQ m.fo k)
theorem MachD.moves {A B : World} {S : Nat → Prop} {m : MachX} (h : MachD A m) (hm : Moves S A B) (hS : ∀ k, depM m k → ¬ S k) : MachD B m :=
  ⟨h.rows.moves hm fun h0 k hk => hS k (.inl ⟨h0, hk⟩), fun x hx => (h.row x hx).moves hm fun h0 k hk => hS k (.inr (.inl ⟨x, hx, h0, hk⟩)), h.fits.moves hm fun h0 k hk => hS k (.inr (.inr ⟨h0, hk⟩))⟩
def MachMade (R : List PatP) (N : Nat) (base : Nat) (m : MachX) (w : World) : Prop := m.rows.map (·.2.1) = finR R N ∧ m.fits = finF R N ∧ MachD w m ∧ ∀ k, depM m k → base ≤ k
theorem natsZ_at {l : List Nat} {j : Nat} {x : Int} (h : (natsZ l)[j]? = some x) : ∃ s : Nat, l[j]? = some s ∧ x = ((s : Nat) : Int) := by
  unfold natsZ at h
  rw [List.getElem?_map] at h
  obtain ⟨s, hs, rfl⟩ := Option.map_eq_some_iff.1 h
  exact ⟨s, hs, rfl⟩
theorem fin_nats (R : List PatP) (A : List (List Nat)) : natsZ (A.map (doneD R)) = doneP R A := by
  unfold doneP
  simp only [natsZ, List.map_map, Function.comp_def]
theorem made_of {w0 W : World} {G M N k R0 g : Nat} {ru nx : Value} {b : BldS} {Y : Nat → Prop} {X : World} (h : BldI w0 G M N ru nx b Y W) (hwl : b.wl.length = k * (N + 1)) (hfl : b.fl.length = k)
    (hg : b.wo = some ⟨g, 0, none⟩) (hr : X.heap[R0]? = some (.cells (rowsA g N k k) 26 (0, 0))) (hm : ∀ q, b.wv.ownBlock = some q ∨ b.fv.ownBlock = some q → X.heap[q]? = W.heap[q]?) (hR0 : w0.heap.size ≤ R0) :
    ∃ m : MachX, m.v = .agg #[.slice (some ⟨R0, 0, none⟩) k k, .slice b.fo k b.fc] ∧ m.rows.map (·.2.1) = rowsP N b.wl k ∧ m.fits = natsZ b.fl ∧ MachD X m ∧ ∀ k, depM m k → w0.heap.size ≤ k := by
  have hFl : (natsZ b.fl).length = k := by rw [List.length_map, hfl]
  refine ⟨⟨some ⟨R0, 0, none⟩, (List.range k).map fun i => (some ⟨g, i * (N + 1), none⟩, ((b.wl.drop (i * (N + 1))).take (N + 1)).map (fun v => ((v : Nat) : Int)), N + 1), k, b.fo, natsZ b.fl, b.fc⟩, ?_, ?_, rfl, ⟨?_, ?_, ?_⟩, ?_⟩
  · unfold MachX.v
    simp only [List.length_map, List.length_range, hfl]
  · unfold rowsP
    simp only [List.map_map, Function.comp_def]
  · intro _
    refine ⟨R0, 0, rfl, fun j x hx => ?_⟩
    have hj := (List.getElem?_eq_some_iff.1 hx).1
    rw [List.length_map, List.length_range] at hj
    rw [List.getElem?_map, List.getElem?_range hj] at hx
    obtain rfl := Option.some.inj hx
    rw [Nat.zero_add, cell_of_row _ _ j _ _ _ hr]
    show _ = some (Value.slice (some ⟨g, j * (N + 1), none⟩) (List.map _ _).length (N + 1))
    rw [rowsP_rowlen hj hwl]
    unfold rowsA
    rw [Nat.sub_self, List.replicate_zero, List.append_nil, List.getElem?_toArray, List.getElem?_map, List.getElem?_range hj]
    rfl
  · intro x hx
    obtain ⟨i, hi, rfl⟩ := List.mem_map.1 hx
    have hi := List.mem_range.1 hi
    intro _
    refine ⟨g, i * (N + 1), rfl, fun c v hv => ?_⟩
    have hc2 : c < N + 1 := by
      have hc := (List.getElem?_eq_some_iff.1 hv).1
      have e := rowsP_rowlen (n := N) (W := b.wl) hi hwl
      have e2 : c < (((b.wl.drop (i * (N + 1))).take (N + 1)).map fun v => ((v : Nat) : Int)).length := hc
      rwa [e] at e2
    replace hv : (((b.wl.drop (i * (N + 1))).take (N + 1)).map fun v => ((v : Nat) : Int))[c]? = some v := hv
    rw [rowsP_get (show c ≤ N by omega)] at hv
    obtain ⟨u, hu, rfl⟩ := Option.map_eq_some_iff.1 hv
    have hown := h.ways
    obtain ⟨g2, hg2, hcs⟩ := row_placeK hown (by rw [hwl]; have := place_lt (n := N) hi (Nat.le_refl N); omega)
    rw [hg] at hg2
    cases hg2
    have hcell := hcs (i * (N + 1) + c) (.int .i64 ((u : Nat) : Int)) (by unfold intsV; rw [List.getElem?_map, hu]; rfl)
    exact (World.cell?_of_block (w := W) (hm g (.inl (by show (Value.slice b.wo _ _).ownBlock = _; rw [hg]; rfl)))).trans hcell
  · intro hn
    have hown := h.fits
    have hn2 : 0 < b.fl.length := by
      have h2 : 0 < (natsZ b.fl).length := hn
      rw [List.length_map] at h2
      exact h2
    obtain ⟨g2, hg2, hcs⟩ := row_placeK hown hn2
    refine ⟨g2, 0, hg2, fun j x hx => ?_⟩
    rw [Nat.zero_add]
    obtain ⟨s, hs, rfl⟩ := natsZ_at hx
    have hcell := hcs j (.int .i64 ((s : Nat) : Int)) (by unfold intsV; rw [List.getElem?_map, hs]; rfl)
    exact (World.cell?_of_block (w := W) (hm g2 (.inr (by show (Value.slice b.fo _ _).ownBlock = _; rw [hg2]; rfl)))).trans hcell
  · rintro q (⟨_, a, ha, rfl⟩ | ⟨x, hx, _, a, ha, rfl⟩ | ⟨_, a, ha, rfl⟩)
    · cases ha
      exact hR0
    · obtain ⟨i, hi, rfl⟩ := List.mem_map.1 hx
      cases ha
      exact own_rowD' h.ways (by show (Value.slice b.wo _ _).ownBlock = _; rw [hg]; rfl)
    · exact own_rowD' h.fits (by show (Value.slice b.fo _ _).ownBlock = _; rw [show b.fo = some a from ha]; rfl)
theorem bld_end {w0 W : World} {R : List PatP} {G M N : Nat} {ru nx : Value} {b : BldS} {Y : Nat → Prop} (h : BldI w0 G M N ru nx b Y W) (h300 : (finD R N).1.length ≤ 300) (hA : b.A = (finD R N).1) (hw : b.wl = (finD R N).2) (hf : b.fl = (finD R N).1.map (doneD R)) :
    ∃ K g, b.A.length = K ∧ K ≤ 300 ∧ b.wl.length = K * (N + 1) ∧ b.fl.length = K ∧ b.wo = some ⟨g, 0, none⟩ ∧ K * (N + 1) ≤ b.wc ∧ rowsP N b.wl K = finR R N ∧ natsZ b.fl = finF R N := by
  have e1 := fin_ways h300
  have e2 := fin_pos R N
  have hK : b.A.length = (finD R N).1.length := by rw [hA]
  have hwl : b.wl.length = b.A.length * (N + 1) := by rw [hw, hK]; exact e1
  have hpos : 1 ≤ b.A.length * (N + 1) := Nat.mul_pos (by rw [hK]; exact e2) (by omega)
  obtain ⟨g, hwo, _⟩ := row_placeK h.ways (by rw [hwl]; exact hpos)
  refine ⟨b.A.length, g, rfl, by rw [hK]; exact h300, hwl, by rw [hf, List.length_map, hA], hwo, ?_, by unfold finR; rw [hw, hK], by rw [hf]; exact fin_nats R _⟩
  rcases h.ways.2 with ⟨h0, _⟩ | ⟨g2, cp2, cu2, h0, _, _, h3, _⟩
  · rw [show b.wv = .slice b.wo b.wl.length b.wc from rfl, hwo] at h0
    cases h0
  · have e2 : b.wc = cp2 := by injection h0
    rw [e2, ← hwl]
    exact h3
theorem bld_start {w W4 W5 : World} {M B N : Nat} {o : Option Addr} {l : List RulX} {cap : Nat} (hl : l.length ≤ 40) (b4 : Below w.heap.size w W4) (hM : w.heap.size + 2 ≤ M) (hB : w.heap.size + 2 ≤ B) (hMB : M ≠ B) (hp : PlacesD W4 M [padD (firstD (l.map leftX))]) (hr : W4.heap[B]? = some (setsO (padD (firstD (l.map leftX)))))
    (hG : W5.heap[w.heap.size + 1]? = some (bldO (.slice none 0 0) (.slice none 0 0) (.slice o l.length cap) ((N : Nat) : Int) (.map (some M)) (.slice (some ⟨B, 0, none⟩) 1 1) (.slice none 0 0))) (hm : Moves (fun k => k = w.heap.size + 1) W4 W5) :
    BldI w (w.heap.size + 1) M N (.slice o l.length cap) (.slice none 0 0) ⟨[firstD (l.map leftX)], some ⟨B, 0, none⟩, 1, [], none, 0, [], none, 0⟩ (fun k => k = w.heap.size) W5 := by
  have z5 := hm.size
  have hb5 := Moves.below b4 b4.size hm (fun k hk => by omega)
  have r5 := row_keep hr hm (by omega)
  have lB := (Array.getElem?_eq_some_iff.1 hr).1
  have lp := hp.lt
  have hlen : (padD (firstD (l.map leftX))).length = 40 := padD_len (by rw [first_len]; exact hl)
  refine ⟨⟨⟨by omega, hb5.size⟩, hG, hp.row (hm.block _ lp (by omega)), ⟨?_, .inr ⟨B, 1, _, rfl, by omega, r5, Nat.le_refl _, by unfold maxLen; omega, ?_, ?_⟩⟩, fun k hk => ?_⟩, World.ownsRow_nil _ _ _ _, World.ownsRow_nil _ _ _ _, hb5, ⟨by omega, by omega⟩, ⟨by omega, by omega⟩, fun k hk => ?_, fun k hk => ?_, fun k hk => ?_, fun k hk => by omega, fun k hk => by omega⟩
  · simp [statesC, cellsD, hlen]
  · rw [cellsD_size, hlen]
  · rw [List.take_of_length_le (by rw [Array.length_toList, cellsD_size, hlen]; exact Nat.le_refl _)]
    simp [statesC]
  · have : B = k := by simpa [Value.ownBlock] using hk
    exact ⟨by omega, by omega⟩
  · have : B = k := by simpa [Value.ownBlock] using hk
    omega
  · cases hk
  · cases hk
theorem mac_cells {w : World} {g : Nat} {a b : Value} (h : w.heap[g]? = some (.cells #[a, b] 25 (0, 0))) : w.cell? ⟨g, 0, none⟩ = some a ∧ w.cell? ⟨g, 1, none⟩ = some b := by
  refine ⟨?_, ?_⟩
  · rw [cell_of_row _ _ 0 _ _ _ h]; rfl
  · rw [cell_of_row _ _ 1 _ _ _ h]; rfl
set_option maxRecDepth 100000 in
set_option maxHeartbeats 4000000 in
theorem compiled_bad (o : Option Addr) (l : List RulX) (cap : Nat) (n : Int) (hl : l.length ≤ 1000000) (hfw : FewC l) (w : World) (aR aM : Addr) (hG : GlobD w aR aM) (hA : AtC w o l) (hI : ItsC w l) (hr : rightsU (l.map plX) n = false) :
    Calls Tryd.prog 34 #[.int .i64 n, .slice o l.length cap] w fun e w' => e = .returned (.tuple #[macZ, errVQ aR]) ∧ Below w.heap.size w w' := by
  obtain ⟨w1, hw1⟩ : ∃ w1, (w.alloc macZO).alloc bldZO = w1 := ⟨_, rfl⟩
  have b1 : Below w.heap.size w w1 := by rw [← hw1]; exact ((Below.refl _ _).alloc (Nat.le_refl _) _).alloc (by simp) _
  have r1 : w1.heap[w.heap.size]? = some (.cells #[.slice none 0 0, .slice none 0 0] 25 (0, 0)) := by rw [← hw1]; exact row_below (heap_alloc_new _ _) ((Below.refl _ _).alloc (Nat.le_refl _) _)
  have HR := Lib.hid (RightJ_any o l cap n hl hfw w1 (hA.below b1) (hI.below b1))
  rw [hr] at HR
  have HW1 := Lib.hid hw1
  have HB1 := Lib.hid b1
  have HR1 := Lib.hid r1
  have HG := Lib.hid hG
  obtain ⟨k, hk⟩ : ∃ k, l.length = k := ⟨_, rfl⟩
  rw [hk] at HR ⊢
  clear hw1 b1 r1 hG hA hI hr hfw hl hk
  go_enter Tryd.func34, Tryd.ntmps34
  go_wp2_with fail
  refine wp_scope_forth 0 (by simp [findLabel]; rfl) ?_
  go_wp2_with fail
  rw [HW1.out]
  refine HR.out.mono ?_
  rintro e W2 ⟨rfl, b2⟩
  have hB2 := HB1.out.trans (b2.mono HB1.out.size)
  have r2 := row_below HR1.out b2
  obtain ⟨c0, c1⟩ := mac_cells r2
  have f0 : W2.frozen? ⟨w.heap.size, 0, none⟩ = false := frozen_of_row _ _ _ _ _ r2
  have f1 : W2.frozen? ⟨w.heap.size, 1, none⟩ = false := frozen_of_row _ _ _ _ _ r2
  have hg2 := (HG.out.below hB2).rul
  have lg2 := World.block_lt_of_cell? W2 _ hg2
  have lt2 := World.block_lt_of_cell? W2 _ c0
  obtain ⟨q3, m3⟩ := two_setD (.slice none 0 0) (.slice none 0 0) r2
  obtain ⟨W3, hW3⟩ : ∃ W3, (W2.setCell ⟨w.heap.size, 0, none⟩ (.slice none 0 0)).setCell ⟨w.heap.size, 1, none⟩ (.slice none 0 0) = W3 := ⟨_, rfl⟩
  rw [hW3] at q3 m3
  have HW3 := Lib.hid hW3
  have HR3 := Lib.hid q3
  have HB3 := Lib.hid (Moves.below hB2 hB2.size m3 (fun k hk => by omega))
  clear b2 hB2 r2 q3 m3 hW3
  go_wp2_with fail
  refine wp_goto ?_
  simp only [Exit.then]
  show Exit.jump _ _ _ _ _ _
  simp only [Exit.jump, true_and]
  go_wp2_with fail
  rw [HW3.out, Exit.noGoto_ret]
  exact bodyPost_ret (v := .tuple #[macZ, errVQ aR]) (results_cell_tmpD rfl _ _ w.heap.size _ _ _ _ _ rfl rfl HR3.out Tryd.underlying25 rfl (by kernel_rfl)) rfl ⟨rfl, HB3.out⟩
end Go.Proofs.YtaoooocalpkhjaaDoor
namespace Go.Proofs.YtaoooocalpkhjaaDoor
open Go.RowKit Go.Shelf Go.Maps
attribute [local go_sem] Oper.semAt_some

def CompQ (R : List PatP) (N : Nat) (er : Value) (w : World) (e : Ending) (w' : World) : Prop := (∃ m : MachX, e = .returned (.tuple #[m.v, er]) ∧ MachMade R N w.heap.size m w') ∧ Below w.heap.size w w'
set_option maxRecDepth 100000 in
set_option maxHeartbeats 4000000 in
theorem compiled_ok (o : Option Addr) (l : List RulX) (cap N : Nat) (hfw : FewC l) (w : World) (aR aM aP aS : Addr) (hG : GlobD w aR aM) (hQ : GlobH w aP aS) (hA : AtC w o l) (hI : ItsC w l) (hr : rightsU (l.map plX) ((N : Nat) : Int) = true) (h300 : (finD (l.map leftX) N).1.length ≤ 300) :
    Calls Tryd.prog 34 #[.int .i64 (N : Nat), .slice o l.length cap] w (CompQ (l.map leftX) N .nilIface w) := by
  obtain ⟨N', hN', h1, h32, hl, hlf⟩ := lefts_of hr
  obtain rfl : N = N' := by omega
  have hRD : RulesD w o l := ⟨hA, hI, hl, hlf.up⟩
  obtain ⟨w1, hw1⟩ : ∃ w1, (w.alloc macZO).alloc bldZO = w1 := ⟨_, rfl⟩
  have b1 : Below w.heap.size w w1 := by rw [← hw1]; exact ((Below.refl _ _).alloc (Nat.le_refl _) _).alloc (by simp) _
  have r1 : w1.heap[w.heap.size]? = some (.cells #[.slice none 0 0, .slice none 0 0] 25 (0, 0)) := by rw [← hw1]; exact row_below (heap_alloc_new _ _) ((Below.refl _ _).alloc (Nat.le_refl _) _)
  have z1 : w1.heap.size = w.heap.size + 2 := by rw [← hw1]; simp
  have g1 : w1.heap[w.heap.size + 1]? = some (.cells #[.slice none 0 0, .slice none 0 0, .slice none 0 0, .int .i64 0, .map none, .slice none 0 0, .slice none 0 0] 97 (0, 0)) := by
    rw [← hw1]
    have := heap_alloc_new (w.alloc macZO) bldZO
    rwa [World.size_alloc] at this
  have HR := Lib.hid (RightJ_any o l cap ((N : Nat) : Int) (by omega) hfw w1 (hA.below b1) (hI.below b1))
  rw [hr] at HR
  have hff : fitsD (padD (firstD (l.map leftX))) := know_fits hlf.up hl (know_first hlf.up)
  have HBO := Lib.hid (fun W (hb : Below w.heap.size w W) => builderOf_any o l cap ((N : Nat) : Int) W aP aS (hQ.below hb) (hRD.below hb) hff)
  have HBU := Lib.hid (fun W M b0 Y0 (hI : BldI w (w.heap.size + 1) M N (.slice o l.length cap) (.slice none 0 0) b0 Y0 W) => build_any w (w.heap.size + 1) M N o l cap (.slice none 0 0) b0 Y0 W aP aS hQ hRD h32 hI)
  have HST := Lib.hid (fun (W4 W5 : World) (M B : Nat) => bld_start (w := w) (W4 := W4) (W5 := W5) (M := M) (B := B) (N := N) (o := o) (l := l) (cap := cap) hl)
  have HW1 := Lib.hid hw1
  have HB1 := Lib.hid b1
  have HR1 := Lib.hid r1
  have HG1 := Lib.hid g1
  have HZ1 := Lib.hid z1
  have HG := Lib.hid hG
  have H3 := Lib.hid h300
  have HN32 := Lib.hid h32
  obtain ⟨k, hk⟩ : ∃ k, l.length = k := ⟨_, rfl⟩
  obtain ⟨fst, hfst⟩ : ∃ q, padD (firstD (l.map leftX)) = q := ⟨_, rfl⟩
  rw [hfst] at HBO HST
  rw [hk] at HR HBO HBU HST ⊢
  unfold BldR at HBO
  clear hw1 b1 r1 g1 z1 hG hA hI hr hfw hl hlf hRD hQ hk hff hfst h300 hN' h1 h32
  go_enter Tryd.func34, Tryd.ntmps34
  go_wp2_with fail
  refine wp_scope_forth 0 (by simp [findLabel]; rfl) ?_
  go_wp2_with fail
  rw [HW1.out]
  refine HR.out.mono ?_
  rintro e W2 ⟨rfl, b2⟩
  have hB2 := HB1.out.trans (b2.mono HB1.out.size)
  have HBO2 := Lib.hid (HBO.out W2 hB2)
  have HR2 := Lib.hid (row_below HR1.out b2)
  have HG2 := Lib.hid (row_below HG1.out b2)
  have HZ2 : Hid (w.heap.size + 2 ≤ W2.heap.size) := Lib.hid (by have := b2.size; have := HZ1.out; omega)
  have HB2 := Lib.hid hB2
  clear b2 hB2
  go_wp2_with fail
  refine HBO2.out.mono ?_
  rintro e W4 ⟨M, B, rfl, hM, hB, hMB, hpl, hrow, b4⟩
  have g4 := row_below HG2.out b4
  have r4 := row_below HR2.out b4
  obtain ⟨c0, c1, c2, c3, c4, c5, c6, fz⟩ := seven_cells g4
  have f0 := fz 0
  have f1 := fz 1
  have f2 := fz 2
  have f3 := fz 3
  have f4 := fz 4
  have f5 := fz 5
  have f6 := fz 6
  have lz : w.heap.size + 1 < W4.heap.size := (Array.getElem?_eq_some_iff.1 g4).1
  obtain ⟨h7, m7⟩ := seven_setD (.slice none 0 0) (.slice none 0 0) (.slice o k cap) (.int .i64 ((N : Nat) : Int)) (.map (some M)) (.slice (some ⟨B, 0, none⟩) 1 1) (.slice none 0 0) g4
  obtain ⟨W5, hW5⟩ : ∃ W5, (((((((W4.setCell ⟨w.heap.size + 1, 0, none⟩ (.slice none 0 0)).setCell ⟨w.heap.size + 1, 1, none⟩ (.slice none 0 0)).setCell ⟨w.heap.size + 1, 2, none⟩ (.slice o k cap)).setCell ⟨w.heap.size + 1, 3, none⟩ (.int .i64 ((N : Nat) : Int))).setCell ⟨w.heap.size + 1, 4, none⟩ (.map (some M))).setCell ⟨w.heap.size + 1, 5, none⟩ (.slice (some ⟨B, 0, none⟩) 1 1)).setCell ⟨w.heap.size + 1, 6, none⟩ (.slice none 0 0)) = W5 := ⟨_, rfl⟩
  rw [hW5] at h7 m7
  have hz2 := HZ2.out
  have hI5 := HST.out W4 W5 M B (HB2.out.trans (b4.mono HB2.out.size)) (by omega) (by omega) hMB hpl hrow h7 m7
  have HBU5 := Lib.hid (HBU.out W5 M _ _ hI5 rfl rfl rfl)
  have HR5 := Lib.hid (row_keep r4 m7 (by omega))
  have HW5 := Lib.hid hW5
  clear h7 m7 fz hpl hrow b4 g4 r4 hW5 hI5 hz2 HBO HBO2 HST HBU
  go_wp2_with fail
  rw [HW5.out]
  clear c0 c1 c2 c3 c4 c5 c6 f0 f1 f2 f3 f4 f5 f6 lz
  go_wp2_with fail
  refine HBU5.out.mono ?_
  rintro e W6 ⟨b, rfl, hI6, m6, hok⟩
  have r6 := row_keep HR5.out m6 (fun hn => hn rfl)
  rw [decide_eq_true H3.out]
  obtain ⟨hA6, hW6, hF6⟩ := hok H3.out
  obtain ⟨K, g, hK, hK300, hwl, hfl, hwo, hcap, hrP, hnZ⟩ := bld_end hI6 H3.out hA6 hW6 hF6
  have hG6 := hI6.rowG
  have hrw := rowsD_any (w.heap.size + 1) g K N b.wc b.fc b.fo (.slice none 0 0) (.slice o k cap) (.map (some M)) (.slice b.ao b.A.length b.ac) hK300 HN32.out hcap W6 (by rw [hG6, show b.fv = .slice b.fo b.fl.length b.fc from rfl, show b.wv = .slice b.wo b.wl.length b.wc from rfl, hfl, hwl, hwo])
  have HRW := Lib.hid hrw
  have HI6 := Lib.hid hI6
  have HR6 := Lib.hid r6
  have HKK : Hid (b.wl.length = K * (N + 1) ∧ b.fl.length = K ∧ b.wo = some ⟨g, 0, none⟩ ∧ rowsP N b.wl K = finR (l.map leftX) N ∧ natsZ b.fl = finF (l.map leftX) N) := Lib.hid ⟨hwl, hfl, hwo, hrP, hnZ⟩
  clear r6 m6 hok hI6 hA6 hW6 hF6 hK hwl hwo hcap hG6 hrw hfl hrP hnZ
  go_wp2_with fail
  refine HRW.out.mono ?_
  rintro e W7 ⟨rfl, hrr, b7⟩
  have hI7 := HI6.out.below b7
  have r7 := row_below HR6.out b7
  have hG7 := hI7.rowG
  have g0 := (seven_cells hG7).1
  have fr0 := (seven_cells hG7).2.2.2.2.2.2.2 0
  have lG7 := World.block_lt_of_cell? W7 _ g0
  have l67 := (Array.getElem?_eq_some_iff.1 (row_keep HR6.out (Moves.refl (fun _ => False) W6) id)).1
  have hlG6 := (Array.getElem?_eq_some_iff.1 HI6.out.rowG).1
  obtain ⟨W8, hW8⟩ : ∃ W8, W7.setCell ⟨w.heap.size + 1, 0, none⟩ (.slice (some ⟨W6.heap.size, 0, none⟩) K K) = W8 := ⟨_, rfl⟩
  have m8 : Moves (fun q => q = w.heap.size + 1) W7 W8 := by rw [← hW8]; exact Moves.setCell rfl
  have G8 : W8.heap[w.heap.size + 1]? = some (.cells #[.slice (some ⟨W6.heap.size, 0, none⟩) K K, b.fv, .slice o k cap, .int .i64 ((N : Nat) : Int), .map (some M), .slice b.ao b.A.length b.ac, b.wv] 97 (0, 0)) := by
    rw [← hW8, heap_setCell_same _ _ _ _ _ _ hG7]
    rfl
  have r8 := row_keep r7 m8 (by omega)
  obtain ⟨d0, d1, _⟩ := seven_cells G8
  rw [show b.fv = .slice b.fo b.fl.length b.fc from rfl, HKK.out.2.1] at d1
  obtain ⟨c0, c1⟩ := mac_cells r8
  have f0 : W8.frozen? ⟨w.heap.size, 0, none⟩ = false := frozen_of_row _ _ _ _ _ r8
  have f1 : W8.frozen? ⟨w.heap.size, 1, none⟩ = false := frozen_of_row _ _ _ _ _ r8
  have lt8 := World.block_lt_of_cell? W8 _ c0
  have ltG8 := World.block_lt_of_cell? W8 _ d0
  obtain ⟨q9, m9⟩ := two_setD (.slice (some ⟨W6.heap.size, 0, none⟩) K K) (.slice b.fo K b.fc) r8
  obtain ⟨W9, hW9⟩ : ∃ W9, (W8.setCell ⟨w.heap.size, 0, none⟩ (.slice (some ⟨W6.heap.size, 0, none⟩) K K)).setCell ⟨w.heap.size, 1, none⟩ (.slice b.fo K b.fc) = W9 := ⟨_, rfl⟩
  rw [hW9] at q9 m9
  have hb7 := hI7.bel
  have hb8 := Moves.below hb7 hb7.size m8 (fun k hk => by omega)
  have hb9 := Moves.below hb8 hb8.size m9 (fun k hk => by omega)
  have hown : ∀ q, b.wv.ownBlock = some q ∨ b.fv.ownBlock = some q → q < W6.heap.size ∧ q ≠ w.heap.size + 1 ∧ q ≠ w.heap.size := fun q hq => by
    rcases hq with hq | hq
    · obtain ⟨cur, e1, _⟩ := own_rowD HI6.out.ways hq
      exact ⟨HI6.out.lts.2.2.2.2 q hq, other_type e1 HI6.out.rowG int_bldD, HI6.out.sW q hq⟩
    · obtain ⟨cur, e1, _⟩ := own_rowD HI6.out.fits hq
      exact ⟨HI6.out.lts.2.2.2.1 q hq, other_type e1 HI6.out.rowG i64_bldD, HI6.out.sF q hq⟩
  have z67 := b7.size
  have z78 := m8.size
  have hmade := made_of (X := W9) HI6.out HKK.out.1 HKK.out.2.1 HKK.out.2.2.1 (R0 := W6.heap.size) (row_keep (row_keep hrr m8 (by omega)) m9 (by omega)) (fun q hq => by
    obtain ⟨e1, e2, e3⟩ := hown q hq
    rw [m9.block q (by omega) e3, m8.block q (by omega) e2, b7.block q e1]) (by have := HI6.out.bel.size; omega)
  obtain ⟨mx, hmv, hm1, hm2, hm3⟩ := hmade
  have hmm : MachMade (l.map leftX) N w.heap.size mx W9 := ⟨hm1.trans HKK.out.2.2.2.1, hm2.trans HKK.out.2.2.2.2, hm3⟩
  have HPP : Hid (CompQ (l.map leftX) N .nilIface w (.returned (.tuple #[.agg #[.slice (some ⟨W6.heap.size, 0, none⟩) K K, .slice b.fo K b.fc], .nilIface])) W9) := Lib.hid ⟨⟨mx, by rw [hmv], hmm⟩, hb9⟩
  rw [← hW8] at d0 d1 c0 c1 f0 f1 lt8 ltG8 hW9
  have HW9 := Lib.hid hW9
  have HR9 := Lib.hid q9
  clear hrr b7 hI7 r7 hG7 l67 hlG6 hW8 m8 G8 r8 q9 m9 hW9 hb7 hb8 hb9 hown z67 z78 hmv hmm hm1 hm2 hm3
  go_wp2_with fail
  rw [HW9.out]
  exact bodyPost_ret (v := .tuple #[.agg #[.slice (some ⟨W6.heap.size, 0, none⟩) K K, .slice b.fo K b.fc], .nilIface]) (results_cell_tmpD rfl _ _ w.heap.size _ _ _ _ _ rfl rfl HR9.out Tryd.underlying25 rfl (by kernel_rfl)) rfl HPP.out

end Go.Proofs.YtaoooocalpkhjaaDoor
namespace Go.Proofs.YtaoooocalpkhjaaDoor
open Go.RowKit Go.Shelf Go.Maps
attribute [local go_sem] Oper.semAt_some

set_option maxRecDepth 100000 in
set_option maxHeartbeats 4000000 in
theorem Compile_of {o : Option Addr} {k cap : Nat} {n : Int} {w : World} {ev : Value} {code : Int} {Pst : Option Addr → Nat → Nat → Option Addr → Nat → Nat → World → Prop}
    (hP : ∀ o1 n1 c1 o2 n2 c2 A B, Pst o1 n1 c1 o2 n2 c2 A → Moves (fun q => q = w.heap.size) A B → Pst o1 n1 c1 o2 n2 c2 B)
    (hC : Calls Tryd.prog 34 #[.int .i64 n, .slice o k cap] (w.alloc macZO) fun e w' => ∃ o1 n1 c1 o2 n2 c2, e = .returned (.tuple #[.agg #[.slice o1 n1 c1, .slice o2 n2 c2], ev]) ∧ Pst o1 n1 c1 o2 n2 c2 w' ∧ Below (w.alloc macZO).heap.size (w.alloc macZO) w')
    (hN : ∀ W, Below w.heap.size w W → Calls Tryd.prog 31 #[ev] W fun e w' => e = .returned (.int .i64 code) ∧ W = w') :
    Calls Tryd.prog 16 #[.slice o k cap, .int .i64 n] w fun e w' => ∃ o1 n1 c1 o2 n2 c2, e = .returned (.tuple #[.agg #[.slice o1 n1 c1, .slice o2 n2 c2], .int .i64 code]) ∧ Pst o1 n1 c1 o2 n2 c2 w' ∧ Below w.heap.size w w' := by
  obtain ⟨w1, hw1⟩ : ∃ w1, w.alloc macZO = w1 := ⟨_, rfl⟩
  have b1 : Below w.heap.size w w1 := by rw [← hw1]; exact (Below.refl _ _).alloc (Nat.le_refl _) _
  have r1 : w1.heap[w.heap.size]? = some (.cells #[.slice none 0 0, .slice none 0 0] 25 (0, 0)) := by rw [← hw1]; exact heap_alloc_new _ _
  rw [hw1] at hC
  have HW1 := Lib.hid hw1
  have HB1 := Lib.hid b1
  have HR1 := Lib.hid r1
  have HC := Lib.hid hC
  have HN := Lib.hid hN
  have HP := Lib.hid hP
  clear hw1 b1 r1 hC hN hP
  go_enter Tryd.func16, Tryd.ntmps16
  go_wp2_with fail
  rw [HW1.out]
  refine HC.out.mono ?_
  rintro e W2 ⟨o1, n1, c1, o2, n2, c2, rfl, hp, b2⟩
  have r2 := row_below HR1.out b2
  have hB2 := HB1.out.trans (b2.mono HB1.out.size)
  obtain ⟨W3, hW3⟩ : ∃ W3, W2.alloc (.cells #[.slice o1 n1 c1, .slice o2 n2 c2] 25) = W3 := ⟨_, rfl⟩
  have b3 : Below W2.heap.size W2 W3 := by rw [← hW3]; exact (Below.refl _ _).alloc (Nat.le_refl _) _
  have r3 : W3.heap[W2.heap.size]? = some (.cells #[.slice o1 n1 c1, .slice o2 n2 c2] 25 (0, 0)) := by rw [← hW3]; exact heap_alloc_new _ _
  have r23 := row_below r2 b3
  obtain ⟨c0, c1'⟩ := mac_cells r3
  obtain ⟨d0, d1⟩ := mac_cells r23
  have f0 : W3.frozen? ⟨w.heap.size, 0, none⟩ = false := frozen_of_row _ _ _ _ _ r23
  have f1 : W3.frozen? ⟨w.heap.size, 1, none⟩ = false := frozen_of_row _ _ _ _ _ r23
  have hB3 := hB2.trans (b3.mono hB2.size)
  have l3 := World.block_lt_of_cell? W3 _ c0
  have l30 := World.block_lt_of_cell? W3 _ d0
  have HN3 := Lib.hid (HN.out W3.drew hB3.drew)
  obtain ⟨q5, m5⟩ := two_setD (w := W3.drew) (.slice o1 n1 c1) (.slice o2 n2 c2) r23
  have hp5 := HP.out o1 n1 c1 o2 n2 c2 W2 _ hp ((((Moves.of_below b3 : Moves (fun q => q = w.heap.size) W2 W3)).trans ((Moves.refl _ W3).drew)).trans m5)
  have HF := Lib.hid (And.intro hp5 (Moves.below hB3.drew hB3.drew.size m5 (fun q hq => by omega)))
  have HR5 := Lib.hid q5
  have HW3 := Lib.hid hW3
  clear hp b2 r2 hB2 b3 r3 r23 hB3 q5 m5 hp5 hW3 HC HN HP
  go_wp2_with fail
  rw [HW3.out]
  go_region_with (go_at_call 31; refine HN3.out.mono ?_; rintro e _ ⟨rfl, rfl⟩)
  all_goals
    go_wp2_with fail
    exact bodyPost_ret (v := .tuple #[.agg #[.slice o1 n1 c1, .slice o2 n2 c2], .int .i64 code]) (results_cell_tmpD rfl _ _ w.heap.size _ _ _ _ _ rfl rfl HR5.out Tryd.underlying25 rfl (by kernel_rfl)) rfl ⟨o1, n1, c1, o2, n2, c2, rfl, HF.out⟩
theorem Compile_bad (o : Option Addr) (l : List RulX) (cap : Nat) (n : Int) (hl : l.length ≤ 1000000) (hfw : FewC l) (w : World) (aR aM : Addr) (hG : GlobD w aR aM) (hA : AtC w o l) (hI : ItsC w l) (hr : rightsU (l.map plX) n = false) :
    Calls Tryd.prog 16 #[.slice o l.length cap, .int .i64 n] w fun e w' => e = .returned (.tuple #[macZ, .int .i64 90]) ∧ Below w.heap.size w w' := by
  have b1 : Below w.heap.size w (w.alloc macZO) := (Below.refl _ _).alloc (Nat.le_refl _) _
  refine (Compile_of (Pst := fun o1 n1 c1 o2 n2 c2 _ => o1 = none ∧ n1 = 0 ∧ c1 = 0 ∧ o2 = none ∧ n2 = 0 ∧ c2 = 0) (fun _ _ _ _ _ _ _ _ h _ => h) ((compiled_bad o l cap n hl hfw _ aR aM (hG.below b1) (hA.below b1) (hI.below b1) hr).mono ?_) (fun W hb => number_rulD (hG.below hb))).mono ?_
  · rintro e w' ⟨rfl, b⟩
    exact ⟨none, 0, 0, none, 0, 0, rfl, ⟨rfl, rfl, rfl, rfl, rfl, rfl⟩, b⟩
  · rintro e w' ⟨o1, n1, c1, o2, n2, c2, rfl, ⟨rfl, rfl, rfl, rfl, rfl, rfl⟩, b⟩
    exact ⟨rfl, b⟩
theorem Compile_ok (o : Option Addr) (l : List RulX) (cap N : Nat) (hfw : FewC l) (w : World) (aR aM aP aS : Addr) (hG : GlobD w aR aM) (hQ : GlobH w aP aS) (hA : AtC w o l) (hI : ItsC w l) (hr : rightsU (l.map plX) ((N : Nat) : Int) = true) (h300 : (finD (l.map leftX) N).1.length ≤ 300) :
    Calls Tryd.prog 16 #[.slice o l.length cap, .int .i64 (N : Nat)] w (CompQ (l.map leftX) N (.int .i64 0) w) := by
  have b1 : Below w.heap.size w (w.alloc macZO) := (Below.refl _ _).alloc (Nat.le_refl _) _
  have z1 : (w.alloc macZO).heap.size = w.heap.size + 1 := World.size_alloc _ _
  refine (Compile_of (Pst := fun o1 n1 c1 o2 n2 c2 W => ∃ m : MachX, m.v = .agg #[.slice o1 n1 c1, .slice o2 n2 c2] ∧ MachMade (l.map leftX) N (w.heap.size + 1) m W) ?_ ((compiled_ok o l cap N hfw _ aR aM aP aS (hG.below b1) (hQ.below b1) (hA.below b1) (hI.below b1) hr h300).mono ?_) (fun W hb => number_nilD (hG.below hb))).mono ?_
  · rintro o1 n1 c1 o2 n2 c2 A B ⟨m, h1, h2, h3, h4, h5⟩ hm
    exact ⟨m, h1, h2, h3, h4.moves hm (fun q hq e => by have := h5 q hq; omega), h5⟩
  · rintro e w' ⟨⟨m, rfl, hm⟩, b⟩
    rw [z1] at hm
    exact ⟨m.no, m.rows.length, m.nc, m.fo, m.fits.length, m.fc, rfl, ⟨m, rfl, hm⟩, b⟩
  · rintro e w' ⟨o1, n1, c1, o2, n2, c2, rfl, ⟨m, h1, h2, h3, h4, h5⟩, b⟩
    exact ⟨⟨m, by rw [h1], h2, h3, h4, fun q hq => by have := h5 q hq; omega⟩, b⟩
end Go.Proofs.YtaoooocalpkhjaaDoor
namespace Go.Proofs.YtaoooocalpkhjaaDoor
open Go.RowKit Go.Shelf Go.Maps
attribute [local go_sem] Oper.semAt_some

theorem AtC.take {w : World} {o : Option Addr} {l : List RulX} (h : AtC w o l) (k : Nat) : AtC w o (l.take k) := fun h0 => by
  have h1 : 0 < l.length := by rw [List.length_take] at h0; omega
  obtain ⟨g, off, ho, hc⟩ := h h1
  refine ⟨g, off, ho, fun j x hx => hc j x ?_⟩
  rw [List.getElem?_take] at hx
  split at hx
  · exact hx
  · cases hx
theorem ItsC.take {w : World} {l : List RulX} (h : ItsC w l) (k : Nat) : ItsC w (l.take k) := fun x hx => h x (List.mem_of_mem_take hx)
theorem FewC.take {l : List RulX} (h : FewC l) (k : Nat) : FewC (l.take k) := fun x hx => h x (List.mem_of_mem_take hx)
theorem list12_any (o : Option Addr) (n cap : Nat) (hn : n ≤ cap) (w : World) :
    Calls Tryd.prog 11 #[.slice o n cap] w fun e w' => e = .returned (.slice o (min n 30) cap) ∧ w = w' := by
  obtain ⟨k, hk⟩ : ∃ k, min n 30 = k := ⟨_, rfl⟩
  have hk2 : min ((n : Nat) : Int) 30 = ((k : Nat) : Int) := by omega
  have hkn : k ≤ n := by omega
  have hkc : k ≤ cap := by omega
  rw [hk]
  go_enter Tryd.func11, Tryd.ntmps11
  go_wp2
  go_ret
  exact ⟨rfl, rfl⟩
abbrev oneX (p q : Nat) (a b : Int) : RulX := ((false, some ⟨p, 0, none⟩, [(a, 0)], 1), (false, some ⟨q, 0, none⟩, [(b, 0)], 1), false)
set_option maxRecDepth 100000 in
set_option maxHeartbeats 2000000 in
theorem single_any (a b : Int) (w : World) : Calls Tryd.prog 25 #[.int .i64 a, .int .i64 b] w fun e w' => e = .returned (rulV (oneX (w.heap.size + 1) (w.heap.size + 1 + 1) a b)) ∧ ItsC w' [oneX (w.heap.size + 1) (w.heap.size + 1 + 1) a b] ∧ Below w.heap.size w w' := by
  obtain ⟨w1, hw1⟩ : ∃ w1, w.alloc (.cells #[.bool false, .slice (some ⟨w.heap.size + 1, 0, none⟩) 1 1, .bool false, .slice (some ⟨w.heap.size + 1 + 1, 0, none⟩) 1 1, .bool false] 42) = w1 := ⟨_, rfl⟩
  have b1 : Below w.heap.size w w1 := by rw [← hw1]; exact (Below.refl _ _).alloc (Nat.le_refl _) _
  have z1 : w1.heap.size = w.heap.size + 1 := by rw [← hw1]; simp
  have r1 : w1.heap[w.heap.size]? = some (.cells #[.bool false, .slice (some ⟨w.heap.size + 1, 0, none⟩) 1 1, .bool false, .slice (some ⟨w.heap.size + 1 + 1, 0, none⟩) 1 1, .bool false] 42 (0, 0)) := by rw [← hw1]; exact heap_alloc_new _ _
  obtain ⟨w2, hw2⟩ : ∃ w2, w1.alloc (.cells #[.int .i64 a, .int .i64 0] 69) = w2 := ⟨_, rfl⟩
  have b2 : Below w1.heap.size w1 w2 := by rw [← hw2]; exact (Below.refl _ _).alloc (Nat.le_refl _) _
  have z2 : w2.heap.size = w.heap.size + 1 + 1 := by rw [← hw2]; simp; omega
  have r2 : w2.heap[w.heap.size + 1]? = some (.cells #[.int .i64 a, .int .i64 0] 69 (0, 0)) := by rw [← hw2, ← z1]; exact heap_alloc_new _ _
  obtain ⟨w3, hw3⟩ : ∃ w3, w2.alloc (.cells #[.int .i64 b, .int .i64 0] 69) = w3 := ⟨_, rfl⟩
  have b3 : Below w2.heap.size w2 w3 := by rw [← hw3]; exact (Below.refl _ _).alloc (Nat.le_refl _) _
  have r3 : w3.heap[w.heap.size + 1 + 1]? = some (.cells #[.int .i64 b, .int .i64 0] 69 (0, 0)) := by rw [← hw3, ← z2]; exact heap_alloc_new _ _
  have q2 := row_below r2 b3
  have r13 := row_below (row_below r1 b2) b3
  have hb3 := b1.trans ((b2.trans (b3.mono b2.size)).mono b1.size)
  have HW3 : Hid (((w.alloc (.cells #[.bool false, .slice (some ⟨w.heap.size + 1, 0, none⟩) 1 1, .bool false, .slice (some ⟨w.heap.size + 1 + 1, 0, none⟩) 1 1, .bool false] 42)).alloc (.cells #[.int .i64 a, .int .i64 0] 69)).alloc (.cells #[.int .i64 b, .int .i64 0] 69) = w3) := Lib.hid (by rw [hw1, hw2, hw3])
  have hIts : ItsC w3 [oneX (w.heap.size + 1) (w.heap.size + 1 + 1) a b] := fun x hx => by
    rw [List.mem_singleton.1 hx]
    refine ⟨⟨fun _ => ⟨w.heap.size + 1, 0, rfl, fun j y hy => ?_⟩, Nat.le_refl _⟩, fun _ => ⟨w.heap.size + 1 + 1, 0, rfl, fun j y hy => ?_⟩, Nat.le_refl _⟩
    · match j, hy with
      | 0, hy =>
        cases hy
        exact ⟨by rw [cell_of_row _ _ _ _ _ _ q2]; rfl, by rw [cell_of_row _ _ _ _ _ _ q2]; rfl⟩
      | j + 1, hy => simp at hy
    · match j, hy with
      | 0, hy =>
        cases hy
        exact ⟨by rw [cell_of_row _ _ _ _ _ _ r3]; rfl, by rw [cell_of_row _ _ _ _ _ _ r3]; rfl⟩
      | j + 1, hy => simp at hy
  have HQ := Lib.hid (And.intro hIts hb3)
  have HR5 := Lib.hid r13
  clear hw1 b1 z1 r1 hw2 b2 z2 r2 hw3 b3 r3 r13 hb3 q2 hIts
  go_enter Tryd.func25, Tryd.ntmps25
  go_wp2_with fail
  rw [HW3.out]
  exact bodyPost_ret (v := .agg #[.bool false, .slice (some ⟨w.heap.size + 1, 0, none⟩) 1 1, .bool false, .slice (some ⟨w.heap.size + 1 + 1, 0, none⟩) 1 1, .bool false]) (results_cellD rfl _ _ w.heap.size _ _ _ _ rfl HR5.out Tryd.underlying42 rfl (by kernel_rfl)) rfl ⟨rfl, HQ.out⟩
end Go.Proofs.YtaoooocalpkhjaaDoor
namespace Go.Proofs.YtaoooocalpkhjaaDoor
open Go.RowKit Go.Shelf Go.Maps
attribute [local go_sem] Oper.semAt_some

theorem take_eqD {α : Type} {l l2 : List α} {j : Nat} {x y : α} (h : l.take j = l2.take j) (hx : l[j]? = some x) (hy : l2[j]? = some y) (hxy : x = y) : l.take (j + 1) = l2.take (j + 1) := by
  rw [List.take_add_one, List.take_add_one, h, hx, hy, hxy]
abbrev rowP (x : RowD) : List Int := x.2.1
end Go.Proofs.YtaoooocalpkhjaaDoor
namespace Go.Proofs.YtaoooocalpkhjaaDoor
open Go.RowKit Go.Shelf Go.Maps
attribute [local go_sem] Oper.semAt_some

theorem below_drewD1 (w : World) (q : Nat) : Below w.heap.size w (w.drewN q) := Moves.below (Below.refl _ _) (Nat.le_refl _) (moves_drewNQ _ _) (fun _ h => h.elim)
theorem below_drewD2 (w : World) (q p : Nat) : Below w.heap.size w ((w.drewN q).drewN p) := by rw [World.drewN_drewN]; exact below_drewD1 _ _
theorem nums_ownN {w : World} {base cap : Nat} {o : Option Addr} {e : TypeId} {l : List Nat} (h : w.ownsRow base e 1 (.slice o l.length cap) l.length (l.map fun s => .int .i64 ((s : Nat) : Int))) : NumsAt w o (natsZ l) := fun hn => by
  obtain ⟨g, ho, hc⟩ := row_placeK h (by simpa using hn)
  refine ⟨g, 0, ho, fun j x hx => ?_⟩
  rw [Nat.zero_add]
  rw [List.getElem?_map] at hx
  obtain ⟨y, hy, rfl⟩ := Option.map_eq_some_iff.1 hx
  exact hc j _ (by rw [List.getElem?_map, hy]; rfl)
theorem nums_ownZ {w : World} {base cap : Nat} {o : Option Addr} {e : TypeId} {l : List Int} (h : w.ownsRow base e 1 (.slice o l.length cap) l.length (l.map (Value.int .i64))) : NumsAt w o l := fun hn => by
  obtain ⟨g, ho, hc⟩ := row_placeK h hn
  refine ⟨g, 0, ho, fun j x hx => ?_⟩
  rw [Nat.zero_add]
  exact hc j _ (by rw [List.getElem?_map, hx]; rfl)
set_option maxRecDepth 100000 in
set_option maxHeartbeats 2000000 in
theorem setsL12_any (o o2 : Option Addr) (l l2 : List Int) (cap cap2 : Nat) (hn : l.length ≤ 1000000) (w : World) (hA : NumsAt w o l) (hA2 : NumsAt w o2 l2) :
    Calls Tryd.prog 28 #[.slice o l.length cap, .slice o2 l2.length cap2] w fun e w' => e = .returned (.bool (decide (l = l2))) ∧ Below w.heap.size w w' := by
  obtain ⟨n, hnn⟩ : ∃ n, l.length = n := ⟨_, rfl⟩
  obtain ⟨n2, hnn2⟩ : ∃ n, l2.length = n := ⟨_, rfl⟩
  rw [hnn] at hn ⊢
  rw [hnn2]
  have HN := Lib.hid hnn
  have HN2 := Lib.hid hnn2
  have HA := Lib.hid hA
  have HA2 := Lib.hid hA2
  obtain ⟨P, hP⟩ : ∃ P, (fun (e : Ending) w' => e = .returned (.bool (decide (l = l2))) ∧ Below w.heap.size w w') = P := ⟨_, rfl⟩
  have HP := Lib.hid hP
  rw [hP]
  clear hP hA hA2 hnn hnn2
  go_enter Tryd.func28, Tryd.ntmps28
  by_cases hnl : n = n2
  · subst hnl
    go_wp2_with fail
    go_loopg [5] n (fun k v wr => ∃ (j q : Nat), v = .int .i64 (j : Nat) ∧ j ≤ n ∧ k = n - j ∧ l.take j = l2.take j ∧ wr = w.drewN q)
    case atStart => exact ⟨0, 0, rfl, Nat.zero_le _, rfl, rfl, rfl⟩
    case round =>
      obtain ⟨j, q, rfl, hj, rfl, htk, rfl⟩ := hrel
      rcases Nat.lt_or_ge j n with hlt | hge
      · have hj1 : j < 1000000 := by omega
        obtain ⟨x, hx⟩ : ∃ x, l[j]? = some x := ⟨_, List.getElem?_eq_getElem (by rw [HN.out]; exact hlt)⟩
        obtain ⟨y, hy⟩ : ∃ y, l2[j]? = some y := ⟨_, List.getElem?_eq_getElem (by rw [HN2.out]; exact hlt)⟩
        obtain ⟨g, off, rfl, hc⟩ := HA.out (by rw [HN.out]; omega)
        have k0 := hc j x hx
        obtain ⟨g2, off2, rfl, hc2⟩ := HA2.out (by rw [HN2.out]; omega)
        have m0 := hc2 j y hy
        have hg := World.block_lt_of_cell? w _ k0
        have hg2 := World.block_lt_of_cell? w _ m0
        have HX := Lib.hid hx
        have HY := Lib.hid hy
        have HT := Lib.hid htk
        clear hc hc2 hx hy htk
        by_cases hxy : x = y
        · have HT2 := Lib.hid (take_eqD HT.out HX.out HY.out hxy)
          subst hxy
          go_wp2_with fail
          go_quiet (fail)
          go_wp2
          go_roundg (n - (j + 1))
          case measure => omega
          case rel => exact ⟨j + 1, q + nq, by simp, by omega, rfl, HT2.out, rfl⟩
        · have HPP : Hid (∀ nq, P (.returned (.bool false)) ((w.drewN q).drewN nq)) := by
            rw [← HP.out]
            refine Lib.hid fun nq => ⟨?_, below_drewD2 _ _ _⟩
            rw [decide_eq_false fun he => hxy ?_]
            have h1 := HX.out
            rw [he, HY.out] at h1
            exact (Option.some.inj h1).symm
          have hxy2 : (x == y) = false := by rw [beq_eq_false_iff_ne]; exact hxy
          go_wp2_with fail
          go_quiet (fail)
          go_wp2
          exact HPP.out _
      · obtain rfl : j = n := by omega
        have HPP : Hid (P (.returned (.bool true)) (w.drewN q)) := by
          rw [← HP.out]
          refine Lib.hid ⟨?_, below_drewD1 _ _⟩
          have h := htk
          rw [List.take_of_length_le (by rw [HN.out]; exact Nat.le_refl _), List.take_of_length_le (by rw [HN2.out]; exact Nat.le_refl _)] at h
          rw [decide_eq_true h]
        clear htk
        go_wp2
        exact HPP.out
  · have HPP : Hid (P (.returned (.bool false)) w) := by
      rw [← HP.out]
      refine Lib.hid ⟨?_, Below.refl _ _⟩
      rw [decide_eq_false fun he => hnl ?_]
      rw [← HN.out, ← HN2.out, he]
    go_wp2
    exact HPP.out
set_option maxRecDepth 100000 in
set_option maxHeartbeats 2000000 in
theorem setsR12_any (o o2 : Option Addr) (l l2 : List Int) (cap cap2 : Nat) (hn : l.length ≤ 1000000) (w : World) (hA : NumsAt w o l) (hA2 : NumsAt w o2 l2) :
    Calls Tryd.prog 45 #[.slice o l.length cap, .slice o2 l2.length cap2] w fun e w' => e = .returned (.bool (decide (l = l2))) ∧ Below w.heap.size w w' := by
  obtain ⟨n, hnn⟩ : ∃ n, l.length = n := ⟨_, rfl⟩
  obtain ⟨n2, hnn2⟩ : ∃ n, l2.length = n := ⟨_, rfl⟩
  rw [hnn] at hn ⊢
  rw [hnn2]
  have HN := Lib.hid hnn
  have HN2 := Lib.hid hnn2
  have HA := Lib.hid hA
  have HA2 := Lib.hid hA2
  obtain ⟨P, hP⟩ : ∃ P, (fun (e : Ending) w' => e = .returned (.bool (decide (l = l2))) ∧ Below w.heap.size w w') = P := ⟨_, rfl⟩
  have HP := Lib.hid hP
  rw [hP]
  clear hP hA hA2 hnn hnn2
  go_enter Tryd.func45, Tryd.ntmps45
  by_cases hnl : n = n2
  · subst hnl
    go_wp2_with fail
    go_loopg [5] n (fun k v wr => ∃ (j q : Nat), v = .int .i64 (j : Nat) ∧ j ≤ n ∧ k = n - j ∧ l.take j = l2.take j ∧ wr = w.drewN q)
    case atStart => exact ⟨0, 0, rfl, Nat.zero_le _, rfl, rfl, rfl⟩
    case round =>
      obtain ⟨j, q, rfl, hj, rfl, htk, rfl⟩ := hrel
      rcases Nat.lt_or_ge j n with hlt | hge
      · have hj1 : j < 1000000 := by omega
        obtain ⟨x, hx⟩ : ∃ x, l[j]? = some x := ⟨_, List.getElem?_eq_getElem (by rw [HN.out]; exact hlt)⟩
        obtain ⟨y, hy⟩ : ∃ y, l2[j]? = some y := ⟨_, List.getElem?_eq_getElem (by rw [HN2.out]; exact hlt)⟩
        obtain ⟨g, off, rfl, hc⟩ := HA.out (by rw [HN.out]; omega)
        have k0 := hc j x hx
        obtain ⟨g2, off2, rfl, hc2⟩ := HA2.out (by rw [HN2.out]; omega)
        have m0 := hc2 j y hy
        have hg := World.block_lt_of_cell? w _ k0
        have hg2 := World.block_lt_of_cell? w _ m0
        have HX := Lib.hid hx
        have HY := Lib.hid hy
        have HT := Lib.hid htk
        clear hc hc2 hx hy htk
        by_cases hxy : x = y
        · have HT2 := Lib.hid (take_eqD HT.out HX.out HY.out hxy)
          subst hxy
          go_wp2_with fail
          go_quiet (fail)
          go_wp2
          go_roundg (n - (j + 1))
          case measure => omega
          case rel => exact ⟨j + 1, q + nq, by simp, by omega, rfl, HT2.out, rfl⟩
        · have HPP : Hid (∀ nq, P (.returned (.bool false)) ((w.drewN q).drewN nq)) := by
            rw [← HP.out]
            refine Lib.hid fun nq => ⟨?_, below_drewD2 _ _ _⟩
            rw [decide_eq_false fun he => hxy ?_]
            have h1 := HX.out
            rw [he, HY.out] at h1
            exact (Option.some.inj h1).symm
          have hxy2 : (x == y) = false := by rw [beq_eq_false_iff_ne]; exact hxy
          go_wp2_with fail
          go_quiet (fail)
          go_wp2
          exact HPP.out _
      · obtain rfl : j = n := by omega
        have HPP : Hid (P (.returned (.bool true)) (w.drewN q)) := by
          rw [← HP.out]
          refine Lib.hid ⟨?_, below_drewD1 _ _⟩
          have h := htk
          rw [List.take_of_length_le (by rw [HN.out]; exact Nat.le_refl _), List.take_of_length_le (by rw [HN2.out]; exact Nat.le_refl _)] at h
          rw [decide_eq_true h]
        clear htk
        go_wp2
        exact HPP.out
  · have HPP : Hid (P (.returned (.bool false)) w) := by
      rw [← HP.out]
      refine Lib.hid ⟨?_, Below.refl _ _⟩
      rw [decide_eq_false fun he => hnl ?_]
      rw [← HN.out, ← HN2.out, he]
    go_wp2
    exact HPP.out
set_option maxRecDepth 100000 in
set_option maxHeartbeats 2000000 in
theorem intsR_any (o o2 : Option Addr) (l l2 : List Int) (cap cap2 : Nat) (hn : l.length ≤ 1000000) (w : World) (hA : NumsAt w o l) (hA2 : NumsAt w o2 l2) :
    Calls Tryd.prog 14 #[.slice o l.length cap, .slice o2 l2.length cap2] w fun e w' => e = .returned (.bool (decide (l = l2))) ∧ Below w.heap.size w w' := by
  obtain ⟨n, hnn⟩ : ∃ n, l.length = n := ⟨_, rfl⟩
  obtain ⟨n2, hnn2⟩ : ∃ n, l2.length = n := ⟨_, rfl⟩
  rw [hnn] at hn ⊢
  rw [hnn2]
  have HN := Lib.hid hnn
  have HN2 := Lib.hid hnn2
  have HA := Lib.hid hA
  have HA2 := Lib.hid hA2
  obtain ⟨P, hP⟩ : ∃ P, (fun (e : Ending) w' => e = .returned (.bool (decide (l = l2))) ∧ Below w.heap.size w w') = P := ⟨_, rfl⟩
  have HP := Lib.hid hP
  rw [hP]
  clear hP hA hA2 hnn hnn2
  go_enter Tryd.func14, Tryd.ntmps14
  by_cases hnl : n = n2
  · subst hnl
    go_wp2_with fail
    go_loopg [5] n (fun k v wr => ∃ (j q : Nat), v = .int .i64 (j : Nat) ∧ j ≤ n ∧ k = n - j ∧ l.take j = l2.take j ∧ wr = w.drewN q)
    case atStart => exact ⟨0, 0, rfl, Nat.zero_le _, rfl, rfl, rfl⟩
    case round =>
      obtain ⟨j, q, rfl, hj, rfl, htk, rfl⟩ := hrel
      rcases Nat.lt_or_ge j n with hlt | hge
      · have hj1 : j < 1000000 := by omega
        obtain ⟨x, hx⟩ : ∃ x, l[j]? = some x := ⟨_, List.getElem?_eq_getElem (by rw [HN.out]; exact hlt)⟩
        obtain ⟨y, hy⟩ : ∃ y, l2[j]? = some y := ⟨_, List.getElem?_eq_getElem (by rw [HN2.out]; exact hlt)⟩
        obtain ⟨g, off, rfl, hc⟩ := HA.out (by rw [HN.out]; omega)
        have k0 := hc j x hx
        obtain ⟨g2, off2, rfl, hc2⟩ := HA2.out (by rw [HN2.out]; omega)
        have m0 := hc2 j y hy
        have hg := World.block_lt_of_cell? w _ k0
        have hg2 := World.block_lt_of_cell? w _ m0
        have HX := Lib.hid hx
        have HY := Lib.hid hy
        have HT := Lib.hid htk
        clear hc hc2 hx hy htk
        by_cases hxy : x = y
        · have HT2 := Lib.hid (take_eqD HT.out HX.out HY.out hxy)
          subst hxy
          go_wp2_with fail
          go_quiet (fail)
          go_wp2
          go_roundg (n - (j + 1))
          case measure => omega
          case rel => exact ⟨j + 1, q + nq, by simp, by omega, rfl, HT2.out, rfl⟩
        · have HPP : Hid (∀ nq, P (.returned (.bool false)) ((w.drewN q).drewN nq)) := by
            rw [← HP.out]
            refine Lib.hid fun nq => ⟨?_, below_drewD2 _ _ _⟩
            rw [decide_eq_false fun he => hxy ?_]
            have h1 := HX.out
            rw [he, HY.out] at h1
            exact (Option.some.inj h1).symm
          have hxy2 : (x == y) = false := by rw [beq_eq_false_iff_ne]; exact hxy
          go_wp2_with fail
          go_quiet (fail)
          go_wp2
          exact HPP.out _
      · obtain rfl : j = n := by omega
        have HPP : Hid (P (.returned (.bool true)) (w.drewN q)) := by
          rw [← HP.out]
          refine Lib.hid ⟨?_, below_drewD1 _ _⟩
          have h := htk
          rw [List.take_of_length_le (by rw [HN.out]; exact Nat.le_refl _), List.take_of_length_le (by rw [HN2.out]; exact Nat.le_refl _)] at h
          rw [decide_eq_true h]
        clear htk
        go_wp2
        exact HPP.out
  · have HPP : Hid (P (.returned (.bool false)) w) := by
      rw [← HP.out]
      refine Lib.hid ⟨?_, Below.refl _ _⟩
      rw [decide_eq_false fun he => hnl ?_]
      rw [← HN.out, ← HN2.out, he]
    go_wp2
    exact HPP.out
end Go.Proofs.YtaoooocalpkhjaaDoor
