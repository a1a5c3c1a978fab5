/- recordOf: the record of a range and of the fields behind it. -/
import Derived.Test.YtapbedefahbilaaGreatDoorFEnds
import Derived.Deep.RegionHeld3
namespace Go.Proofs.YtapbedefahbilaaGreatDoor
open Go.RowKit Go.Shelf
attribute [local go_sem ↓] app_hide

abbrev recC (line a b : Int) (v : Value) : Array Value := #[.int .i64 line, .int .i64 a, .int .i64 b, v]
abbrev recV (line a b : Int) (v : Value) : Value := .agg (recC line a b v)
abbrev recO (line a b : Int) (v : Value) : Obj := .cells (recC line a b v) 31 (0, 0)
theorem rec_cells {w : World} {g : Nat} {line a b : Int} {v : Value} (h : w.heap[g]? = some (recO line a b v)) :
    w.cell? ⟨g, 0, none⟩ = some (.int .i64 line) ∧ w.cell? ⟨g, 1, none⟩ = some (.int .i64 a) ∧ w.cell? ⟨g, 2, none⟩ = some (.int .i64 b) ∧ w.cell? ⟨g, 3, none⟩ = some v ∧ (∀ i, w.frozen? ⟨g, i, none⟩ = false) := by
  refine ⟨?_, ?_, ?_, ?_, fun i => frozen_of_row _ _ i _ _ h⟩
  · rw [cell_of_row _ _ 0 _ _ _ h]; rfl
  · rw [cell_of_row _ _ 1 _ _ _ h]; rfl
  · rw [cell_of_row _ _ 2 _ _ _ h]; rfl
  · rw [cell_of_row _ _ 3 _ _ _ h]; rfl
theorem set_heap {w : World} {g i : Nat} {cs : Array Value} {t : TypeId} {fr : Nat × Nat} (v : Value) (h : w.heap[g]? = some (.cells cs t fr)) : (w.setCell ⟨g, i, none⟩ v).heap[g]? = some (.cells (cs.setIfInBounds i v) t fr) := by
  have hlt : g < w.heap.size := (Array.getElem?_eq_some_iff.1 h).1
  have hv : w.heap[g] = .cells cs t fr := (Array.getElem?_eq_some_iff.1 h).2
  unfold World.setCell
  simp only
  rw [Array.getElem?_eq_getElem (by rw [Array.size_modify]; exact hlt), Array.getElem_modify_self, hv]
  simp

theorem recordOf_none (a b : Nat) (o : Option Addr) (cap : Nat) (w : World) :
    Calls Tryz.prog 49 #[.complex .f64 (flN a) (flN b), .slice o 0 cap] w fun e w' => e = .returned (.tuple #[recV 0 0 0 (.slice none 0 0), wrongV 23]) ∧ Below w.heap.size w w' := by
  go_enter Tryz.func49, Tryz.ntmps49
  go_wp2
  refine bodyPost_ret (v := .tuple #[recV 0 0 0 (.slice none 0 0), wrongV 23]) ?_ rfl ⟨rfl, (Below.refl _ _).alloc (Nat.le_refl _) _⟩
  exact results_cell_tmp rfl _ _ w.heap.size 31 (recC 0 0 0 (.slice none 0 0)) (0, 0) _ _ rfl rfl (heap_alloc_new _ _) Tryz.underlying31 rfl (by kernel_rfl)
theorem recordOf_many (a b : Nat) (o : Option Addr) (n cap : Nat) (hn : 20 < n) (w : World) :
    Calls Tryz.prog 49 #[.complex .f64 (flN a) (flN b), .slice o n cap] w fun e w' => e = .returned (.tuple #[recV 0 0 0 (.slice none 0 0), wrongV 23]) ∧ Below w.heap.size w w' := by
  have h0 : (((n : Nat) : Int) == 0) = false := by simp; omega
  have h1 : decide ((20 : Int) < ((n : Nat) : Int)) = true := decide_eq_true (by omega)
  go_enter Tryz.func49, Tryz.ntmps49
  go_wp2
  refine bodyPost_ret (v := .tuple #[recV 0 0 0 (.slice none 0 0), wrongV 23]) ?_ rfl ⟨rfl, (Below.refl _ _).alloc (Nat.le_refl _) _⟩
  exact results_cell_tmp rfl _ _ w.heap.size 31 (recC 0 0 0 (.slice none 0 0)) (0, 0) _ _ rfl rfl (heap_alloc_new _ _) Tryz.underlying31 rfl (by kernel_rfl)

theorem clone_any (s : ByteArray) (w : World) (hs : s.size ≤ 1000000) :
    Calls Tryz.prog 61 #[.string s] w fun e w' => e = .returned (.string s) ∧ Below w.heap.size w w' := by
  go_enter Tryz.func61, Tryz.ntmps61
  go_wp2_with fail
  refine (Tryz.stringslite_Clone s w (by omega)).mono ?_
  rintro e w' ⟨rfl, hB⟩
  go_wp2
  go_ret
  exact ⟨rfl, hB⟩

/-- A copy, and what comes of its being put behind a row of texts. -/
theorem clone_app (s : ByteArray) (hs : s.size ≤ 1000000) {W : World} {v : Value} {k base bx : Nat} {xs : List Value} {a b : Int} (hrow : W.heap[bx]? = some (recO 0 a b v)) (ho : W.ownsRow base 9 1 v k xs) (hbx : bx < base) (hbase : base ≤ W.heap.size) (hk : k ≤ 1000) :
    Calls Tryz.prog 61 #[.string s] W fun e w' => e = .returned (.string s) ∧ Below W.heap.size W w' ∧ ∃ o cap w6, (appSem #[29, 29] 29 #[v, .slice (some ⟨w'.heap.size, 0, none⟩) 1 1]).run Tryz.prog (w'.alloc (.cells #[.string s] 9)) = .ok (.slice o (k + 1) cap) w6 ∧
      w6.heap[bx]? = some (recO 0 a b v) ∧ w6.ownsRow base 9 1 (.slice o (k + 1) cap) (k + 1) (xs ++ [.string s]) ∧ Below base W w6 := by
  obtain ⟨i0, hi, hz0, hz1, hz2⟩ := info_parts infoString
  refine (clone_any s W hs).mono ?_
  rintro e w' ⟨rfl, hb⟩
  have hb2 : Below W.heap.size W (w'.alloc (.cells #[.string s] 9)) := hb.alloc hb.size _
  have hown := own_below ho hb2
  obtain ⟨v', w6, hr, h2, h3, h4⟩ := run_append_own (P := Tryz.prog) _ base 29 29 9 i0 (.string ⟨#[]⟩) 1 16 Tryz.underlying29 hi hz0 hz1 hz2 rfl (by decide) v k xs hown ⟨w'.heap.size, 0, none⟩ 1 1 [.string s] rfl
    (cell_one_new _ _ _) (by simp [Value.oneCell']) (by unfold maxLen; omega) (by omega) (by have := hb2.size; omega)
  obtain ⟨o, cap, rfl⟩ := own_form h2
  have hne : ∀ g, v.ownBlock = some g → base ≤ g := by
    intro g hg
    rcases ho.2 with ⟨rfl, _⟩ | ⟨g', cap', cur, rfl, hb', _⟩
    · simp [Value.ownBlock] at hg
    · obtain rfl : g' = g := by simpa [Value.ownBlock] using hg
      exact hb'
  have hlt : bx < W.heap.size := (Array.getElem?_eq_some_iff.1 hrow).1
  have hrow2 : (w'.alloc (.cells #[.string s] 9)).heap[bx]? = some (recO 0 a b v) := (hb2.block _ hlt).trans hrow
  refine ⟨rfl, hb, o, cap, w6, hr, ?_, h2, ?_⟩
  · refine (h3.block bx (Array.getElem?_eq_some_iff.1 hrow2).1 fun e => ?_).trans hrow2
    have := hne bx e.symm
    omega
  · exact Below.grown (hb2.mono hbase) h3 (by have := hb2.size; omega) (fun g hg => hne g hg)

theorem own_ge {w : World} {base : Nat} {e : TypeId} {size : Nat} {v : Value} {n : Nat} {xs : List Value} (h : w.ownsRow base e size v n xs) {g : Nat} (hg : v.ownBlock = some g) : base ≤ g := by
  rcases h.2 with ⟨rfl, _⟩ | ⟨g', cap', cur, rfl, hb', _⟩
  · simp [Value.ownBlock] at hg
  · obtain rfl : g' = g := by simpa [Value.ownBlock] using hg
    exact hb'
theorem grownBy_setAt (W : World) (a : Addr) (v : Value) : W.grownBy (W.setCell a v) (some a.block) :=
  ⟨rfl, rfl, rfl, (KeepsWalks.setCell W _ v).size, fun k _ hk => Below.heap_setCell _ _ _ k (fun e => hk (by rw [e]))⟩
theorem own_setRow {w : World} {base g : Nat} {e : TypeId} {size : Nat} {v : Value} {n : Nat} {xs : List Value} {cs : Array Value} (h : w.ownsRow base e size v n xs) (hg : g < base) : (w.setRow g cs).ownsRow base e size v n xs :=
  h.kept ⟨rfl, rfl, rfl, by simp, fun k _ hk => setRow_other _ _ _ _ (fun e => hk (by rw [e]))⟩ (.inr fun e => by have := own_ge h e; omega)
/-- A round's end: the record's fields one more, all else as it was. -/
theorem rec_close {w wr w1 w6 : World} {a b : Int} {v : Value} {o : Option Addr} {k cp : Nat} {xs : List Value} (hbw : Below w.heap.size w wr) (hrow : wr.heap[w.heap.size + 1]? = some (recO 0 a b v)) (hres : wr.heap[w.heap.size]? = some (recO 0 0 0 (.slice none 0 0))) (hb1 : Below wr.drew.heap.size wr.drew w1)
    (hb6 : Below (w.heap.size + 2) w1 w6) (hrow6 : w6.heap[w.heap.size + 1]? = some (recO 0 a b v)) (ho6 : w6.ownsRow (w.heap.size + 2) 9 1 (.slice o k cp) k xs) :
    (w6.setCell ⟨w.heap.size + 1, 3, none⟩ (.slice o k cp)).heap[w.heap.size + 1]? = some (recO 0 a b (.slice o k cp)) ∧ (w6.setCell ⟨w.heap.size + 1, 3, none⟩ (.slice o k cp)).heap[w.heap.size]? = some (recO 0 0 0 (.slice none 0 0)) ∧
      (w6.setCell ⟨w.heap.size + 1, 3, none⟩ (.slice o k cp)).ownsRow (w.heap.size + 2) 9 1 (.slice o k cp) k xs ∧ Below w.heap.size w (w6.setCell ⟨w.heap.size + 1, 3, none⟩ (.slice o k cp)) := by
  have hlt : w.heap.size + 1 < wr.heap.size := (Array.getElem?_eq_some_iff.1 hrow).1
  have h1 : wr.drew.heap.size = wr.heap.size := rfl
  refine ⟨set_heap _ hrow6, ?_, ?_, ?_⟩
  · refine (Below.heap_setCell w6 ⟨w.heap.size + 1, 3, none⟩ _ w.heap.size (by simp)).trans ?_
    exact (hb6.block _ (by omega)).trans ((hb1.block _ (by omega)).trans hres)
  · exact ho6.kept (grownBy_setAt w6 ⟨w.heap.size + 1, 3, none⟩ _) (.inr fun e => by have h : w.heap.size + 2 ≤ w.heap.size + 1 := own_ge ho6 e; omega)
  · have h2 : Below w.heap.size w w1 := (hbw.drew).trans (hb1.mono (by rw [h1]; exact hbw.size))
    exact (h2.trans (hb6.mono (by omega))).setCell (by simp) _
def trimV (s : ByteArray) : Value := strV (trimL s.data.toList)
theorem trimL_le (l : List UInt8) : (trimL l).length ≤ l.length := by
  unfold trimL Lib.trimS Lib.trimLeftS Lib.trimRightS
  refine Nat.le_trans (List.dropWhile_suffix _).length_le ?_
  rw [List.length_reverse]
  refine Nat.le_trans (List.dropWhile_suffix _).length_le ?_
  rw [List.length_reverse]
  exact Nat.le_refl _

set_option maxRecDepth 100000 in
set_option maxHeartbeats 2000000 in
theorem recordOf_go (a b : Nat) (ha : a < 16777216) (hb : b < 16777216) (ad : Addr) (fs : List ByteArray) (cap : Nat) (h1 : 1 ≤ fs.length) (h20 : fs.length ≤ 20) (hsz : ∀ s ∈ fs, s.size ≤ 1000000) (w : World)
    (hc : ∀ i, i < fs.length → w.cell? (ad.add i) = some (.string (fs.getD i ByteArray.empty))) :
    Calls Tryz.prog 49 #[.complex .f64 (flN a) (flN b), .slice (some ad) fs.length cap] w fun e w' => ∃ v, e = .returned (.tuple #[recV 0 a b v, .nilIface]) ∧ w'.ownsRow w.heap.size 9 1 v fs.length (fs.map trimV) ∧ Below w.heap.size w w' := by
  have hca := conv_back (n := a) (by omega)
  have hcb := conv_back (n := b) (by omega)
  have h0 : (((fs.length : Nat) : Int) == 0) = false := by simp; intro h; rw [h] at h1; simp at h1
  have h2 : decide ((20 : Int) < ((fs.length : Nat) : Int)) = false := decide_eq_false (by omega)
  obtain ⟨n, hn⟩ : ∃ n, fs.length = n := ⟨_, rfl⟩
  rw [hn] at h0 h2 h1 h20 hc ⊢
  have HN := Lib.hid hn
  have HC := Lib.hid hc
  have HSZ := Lib.hid hsz
  clear hn hc hsz
  go_enter Tryz.func49, Tryz.ntmps49
  go_wp2_with fail
  go_loopg [28] (n) (fun k i wr => ∃ (j : Nat) (v : Value), i = .int .i64 (j : Nat) ∧ j ≤ n ∧ n - j = k ∧ wr.heap[w.heap.size + 1]? = some (recO 0 a b v) ∧ wr.heap[w.heap.size]? = some (recO 0 0 0 (.slice none 0 0)) ∧ Hid (wr.ownsRow (w.heap.size + 2) 9 1 v j ((fs.take j).map trimV)) ∧ Below w.heap.size w wr)
  case atStart =>
    refine ⟨0, .slice none 0 0, rfl, Nat.zero_le _, rfl, ?_, ?_, Lib.hid (World.ownsRow_nil _ _ _ _), ((Below.refl _ _).alloc (Nat.le_refl _) _).alloc (by simp) _⟩
    · have := heap_alloc_new (w.alloc (recO 0 0 0 (.slice none 0 0))) (recO 0 a b (.slice none 0 0))
      rwa [World.size_alloc] at this
    · rw [Below.heap_alloc _ _ _ (by simp)]
      exact heap_alloc_new _ _
  case round =>
    obtain ⟨j, v, rfl, hj, rfl, hrow, hres, ho, hbw⟩ := hrel
    obtain ⟨c0, c1, c2, c3, c4⟩ := rec_cells hrow
    rcases Nat.lt_or_ge j n with hlt | hge
    · have hcell := cell_keep (hbw.mono (Nat.le_refl _)) (HC.out j hlt)
      have hmem : (fs.getD j ByteArray.empty).size ≤ 1000000 := HSZ.out _ (by rw [List.getD_eq_getElem?_getD, List.getElem?_eq_getElem (by rw [HN.out]; exact hlt)]; exact List.getElem_mem _)
      obtain ⟨s, hs⟩ : ∃ s, fs.getD j ByteArray.empty = s := ⟨_, rfl⟩
      rw [hs] at hcell hmem
      have hfs : fs.take (j + 1) = fs.take j ++ [s] := by
        rw [take_snoc' fs (by rw [HN.out]; exact hlt), ← hs, List.getD_eq_getElem?_getD, List.getElem?_eq_getElem (by rw [HN.out]; exact hlt)]
        rfl
      have hlt1 : w.heap.size + 1 < wr.heap.size := (Array.getElem?_eq_some_iff.1 hrow).1
      have hts : (⟨(trimL s.data.toList).toArray⟩ : ByteArray).size ≤ 1000000 := by
        have h := trimL_le s.data.toList
        have h5 : s.data.toList.length = s.size := Array.length_toList
        show (trimL s.data.toList).toArray.size ≤ _
        simp only [List.size_toArray]
        omega
      have HFS := Lib.hid hfs
      have HROW := Lib.hid hrow
      have HRES := Lib.hid hres
      have HMEM := Lib.hid hmem
      have HTS := Lib.hid hts
      have HBW := Lib.hid hbw
      obtain ⟨o, cp, rfl⟩ := own_form ho.out
      clear hs hfs hts hmem hbw hrow hres
      go_wp2
      go_region_with (first
          | (go_at_call 48; refine Calls.mono (trim_any s _ HMEM.out) ?_; rintro e w1 ⟨rfl, hb1⟩; have c31 : w1.cell? ⟨w.heap.size + 1, 3, none⟩ = some (.slice o j cp) := cell_keep hb1 c3; have hrow1 := row_below (show wr.drew.heap[w.heap.size + 1]? = _ from HROW.out) hb1; have ho1 := own_below (show wr.drew.ownsRow _ _ _ _ _ _ from ho.out) hb1; have hz1 := Below.size hb1)
          | (go_at_call 61; refine Calls.mono (clone_app ⟨(trimL s.data.toList).toArray⟩ HTS.out hrow1 ho1 (by omega) (by simp at hz1; omega) (by omega)) ?_; rintro e w2 ⟨rfl, hb2, o', cp', w6, hrun, hrow6, ho6, hb6⟩; have hlt2 : w.heap.size + 1 < w2.heap.size := World.block_lt_of_cell? w2 _ (cell_keep hb2 c31); have c32 : w2.cell? ⟨w.heap.size + 1, 3, none⟩ = some (.slice o j cp) := cell_keep hb2 c31; obtain ⟨d0, d1, d2, d3, d4⟩ := rec_cells hrow6))
      all_goals
        have HCL := Lib.hid (rec_close HBW.out HROW.out HRES.out hb1 hb6 hrow6 ho6)
        clear hb1 hb2 c31 hrow1 ho1 hz1 hrun hrow6 ho6 hb6 hlt2 c32 d0 d1 d2 d3 d4 c0 c1 c2 c3 c4 hcell
        go_wp2
        go_roundg (n - (j + 1))
        case measure => omega
        case rel =>
          obtain ⟨k1, k2, k3, k4⟩ := HCL.out
          refine ⟨j + 1, _, by simp, by omega, rfl, k1, k2, Lib.hid ?_, k4⟩
          rw [HFS.out, List.map_append]
          exact k3
    · obtain rfl : j = n := by omega
      have hall : fs.take j = fs := List.take_of_length_le (by rw [HN.out]; omega)
      obtain ⟨o, cp, rfl⟩ := own_form ho.out
      have HO := Lib.hid ho.out
      rw [hall] at HO
      have HRES := Lib.hid hres
      have HBW := Lib.hid hbw
      clear hall ho hres hbw hrow
      go_wp2_with (refine wpList_store_row rfl 31 (.tmp 4) (.tmp 41) rfl w.heap.size (recC 0 a b (.slice o j cp)) rfl rfl 31 _ HRES.out (by kernel_rfl) rfl (by simp [Value.oneCell']) ?_)
      refine bodyPost_ret (v := .tuple #[recV 0 a b (.slice o j cp), .nilIface]) ?_ rfl ⟨_, rfl, ?_, ?_⟩
      · exact results_cell_tmp rfl _ _ w.heap.size 31 (recC 0 a b (.slice o j cp)) (0, 0) _ _ rfl rfl (setRow_heap _ _ _ _ _ _ HRES.out) Tryz.underlying31 rfl (by kernel_rfl)
      · exact own_base (own_setRow HO.out (by omega)) (by omega)
      · exact below_setRow HBW.out (Nat.le_refl _) _
end Go.Proofs.YtapbedefahbilaaGreatDoor
