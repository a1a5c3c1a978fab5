/- sure, near: the place from which units are gone through. -/
import Derived.Test.YthnfekilmiodpaaDoorBunUBad
import Derived.Test.YthnfekilmiodpaaDoorBunUnit
import Derived.Test.YthnfekilmiodpaaDoorBunUSeq
import Derived.Test.YthnfekilmiodpaaDoorBunRef
import Derived.Deep.LoopGhost
namespace Go.Proofs.YthnfekilmiodpaaDoor
open Go.RowKit

theorem at_place {s : ByteArray} {i : Nat} (h : i < s.size) : At s (i : Nat) (s.data.toList.getD i 0).toNat := by
  refine at_of ?_
  rw [List.getElem?_eq_getElem (by simpa using h)]
  simp [List.getD, h]

set_option maxRecDepth 100000 in
set_option maxHeartbeats 1000000 in
theorem sure_any (s : ByteArray) (p : Nat) (hp : p < s.size) (a : Addr) (cap : Nat) (w : World) (hc : ∀ i, i < 4 → w.cell? (a.add i) = some (.int .i64 ((p : Nat) - (i : Nat)))) :
    Calls Tryd.prog 41 #[.agg #[.string s], .slice (some a) 4 cap] w fun e w' => (∃ r, e = .returned (.int .i64 (r : Nat)) ∧ SureAt s.data.toList p r) ∧ Below w.heap.size w w' := by
  have HC := Lib.hid hc
  have hlt0 := World.block_lt_of_cell? w _ (hc 0 (by omega))
  clear hc
  go_enter Tryd.func41, Tryd.ntmps41
  go_wp2_with fail
  go_loopg [9] (4) (fun k i wr => ∃ (j : Nat), i = .int .i64 (j : Nat) ∧ j ≤ 4 ∧ k = 4 - j ∧ Hid (∀ i, i < j → ¬ okAt s.data.toList p i) ∧ wr.heap[w.heap.size]? = some (.cells #[.string s] 38 (0, 0)) ∧ Below w.heap.size w wr)
  case atStart => exact ⟨0, rfl, by omega, rfl, Lib.hid fun i h => by omega, heap_alloc_new _ _, (Below.refl _ _).alloc (Nat.le_refl _) _⟩
  case round =>
    obtain ⟨j, rfl, hj, rfl, hno, hrow, hb⟩ := hrel
    have hz := hb.size
    have ctext : wr.cell? ⟨w.heap.size, 0, none⟩ = some (.string s) := by rw [cell_of_row _ _ 0 _ _ _ hrow]; rfl
    rcases Nat.lt_or_ge j 4 with hlt | hge
    · have hcell := (hb.cell (World.block_lt_of_cell? w _ (HC.out j hlt))).trans (HC.out j hlt)
      have hbt : Below wr.heap.size wr (wr.alloc (.cells #[.string s] 38)) := (Below.refl _ _).alloc (Nat.le_refl _) _
      have hb2 := hb.trans (hbt.mono hz)
      have hrow2 := row_below hrow hbt
      have ctext2 : (wr.alloc (.cells #[.string s] 38)).cell? ⟨w.heap.size, 0, none⟩ = some (.string s) := by rw [cell_of_row _ _ 0 _ _ _ hrow2]; rfl
      by_cases hjp : j ≤ p
      · have hd : decide (0 ≤ ((p : Nat) : Int) - (j : Nat) ∧ ((p : Nat) : Int) - (j : Nat) < (s.size : Nat)) = true := by simp; omega
        obtain ⟨q, hq⟩ : ∃ q : Nat, p - j = q := ⟨_, rfl⟩
        have hqi : ((p : Nat) : Int) - (j : Nat) = (q : Nat) := by omega
        have hat := at_place (s := s) (i := q) (by omega)
        obtain ⟨bt, hbt'⟩ : ∃ bt, (s.data.toList.getD q 0).toNat = bt := ⟨_, rfl⟩
        have htq : tailAt s.data.toList q ↔ (128 ≤ bt ∧ bt ≤ 191) := by unfold tailAt; rw [hbt']
        rw [hbt'] at hat
        clear hbt'
        have hat2 := hat.2
        have hat1 := hat.1
        have HD := Lib.hid hd
        rw [hqi] at hcell hd HD
        clear hat hd
        cases htl : decide (128 ≤ bt ∧ bt ≤ 191) with
        | true =>
          have hnot : ¬ okAt s.data.toList p j := fun h => h.2 (by rw [hq]; exact htq.2 (of_decide_eq_true htl))
          have HN := Lib.hid hnot
          have HT := Lib.hid htl
          clear hnot htl hqi hq htq
          go_wp2_with fail
          refine (thas_any s _ wr).mono ?_
          rintro e w' ⟨rfl, rfl⟩
          rw [HD.out]
          go_wp2_with fail
          refine (isTail_any _ hat1 _).mono ?_
          rintro e w' ⟨rfl, rfl⟩
          rw [HT.out]
          go_wp2
          go_roundg (4 - (j + 1))
          case measure => omega
          case rel => exact ⟨j + 1, by simp, by omega, rfl, Lib.hid fun i hi => by
            rcases Nat.lt_or_ge i j with h | h
            · exact hno.out i h
            · obtain rfl : i = j := by omega
              exact HN.out, hrow2, hb2⟩
        | false =>
          have hok : okAt s.data.toList p j := ⟨hjp, by rw [hq, htq]; exact of_decide_eq_false htl⟩
          have HP : Hid (SureAt s.data.toList p q) := Lib.hid (.inl ⟨j, hlt, hok, hq.symm⟩)
          have HT := Lib.hid htl
          clear hok htl hqi hq htq
          go_wp2_with fail
          refine (thas_any s _ wr).mono ?_
          rintro e w' ⟨rfl, rfl⟩
          rw [HD.out]
          go_wp2_with fail
          refine (isTail_any _ hat1 _).mono ?_
          rintro e w' ⟨rfl, rfl⟩
          rw [HT.out]
          go_wp2
          go_ret
          exact ⟨⟨q, rfl, HP.out⟩, hb2⟩
      · have hd : decide (0 ≤ ((p : Nat) : Int) - (j : Nat) ∧ ((p : Nat) : Int) - (j : Nat) < (s.size : Nat)) = false := by simp; omega
        have HD := Lib.hid hd
        clear hd
        go_wp2_with fail
        refine (thas_any s _ wr).mono ?_
        rintro e w' ⟨rfl, rfl⟩
        rw [HD.out]
        go_wp2
        go_roundg (4 - (j + 1))
        case measure => omega
        case rel => exact ⟨j + 1, by simp, by omega, rfl, Lib.hid fun i hi => by
          rcases Nat.lt_or_ge i j with h | h
          · exact hno.out i h
          · obtain rfl : i = j := by omega
            exact fun h => hjp h.1, hrow2, hb2⟩
    · have hd : j = 4 := by omega
      subst hd
      have hcell := (hb.cell (World.block_lt_of_cell? w _ (HC.out 0 (by omega)))).trans (HC.out 0 (by omega))
      have hcell0 : wr.cell? (a.add 0) = some (.int .i64 (p : Nat)) := by simpa using hcell
      have HP : Hid (SureAt s.data.toList p p) := Lib.hid (.inr ⟨hno.out, rfl⟩)
      have hcellA : wr.cell? a = some (.int .i64 (p : Nat)) := by
        have : a.add 0 = a := by unfold Addr.add; split <;> simp_all
        rwa [this] at hcell0
      clear hcell
      go_wp2
      go_ret
      exact ⟨⟨p, rfl, HP.out⟩, hb⟩

/-- The cells of the four places. -/
theorem four_cells (w : World) (p : Nat) (t : TypeId) : ∀ i, i < 4 → (w.alloc (.cells #[.int .i64 (p : Nat), .int .i64 ((p : Nat) - 1), .int .i64 ((p : Nat) - 2), .int .i64 ((p : Nat) - 3)] t)).cell? ((⟨w.heap.size, 0, none⟩ : Addr).add i) = some (.int .i64 ((p : Nat) - (i : Nat))) := by
  intro i hi
  have hadd : (⟨w.heap.size, 0, none⟩ : Addr).add i = ⟨w.heap.size, i, none⟩ := by unfold Addr.add; split <;> simp_all
  rw [hadd, cell_of_row _ _ i _ _ _ (heap_alloc_new _ _)]
  have : i = 0 ∨ i = 1 ∨ i = 2 ∨ i = 3 := by omega
  rcases this with rfl | rfl | rfl | rfl <;> simp
set_option maxRecDepth 100000 in
set_option maxHeartbeats 1000000 in
theorem near_any (s : ByteArray) (p : Nat) (hp : p < s.size) (hs : s.size ≤ 50000) (w : World) :
    Calls Tryd.prog 34 #[.string s, .int .i64 (p : Nat)] w fun e w' => (∃ r, e = .returned (.agg (menderC s r)) ∧ SureAt s.data.toList p r) ∧ Below w.heap.size w w' := by
  have w1 : IntKind.i64.wrap (((p : Nat) : Int) - 1) = (p : Nat) - 1 := wrap_id (by omega) (by omega)
  have w2 : IntKind.i64.wrap (((p : Nat) : Int) - 2) = (p : Nat) - 2 := wrap_id (by omega) (by omega)
  have w3 : IntKind.i64.wrap (((p : Nat) : Int) - 3) = (p : Nat) - 3 := wrap_id (by omega) (by omega)
  have HM : Hid (((((w.alloc (.cells #[.string ⟨#[]⟩, .int .i64 0] 54)).alloc (.cells #[.string s] 38)).alloc (.cells #[.int .i64 (p : Nat), .int .i64 ((p : Nat) - 1), .int .i64 ((p : Nat) - 2), .int .i64 ((p : Nat) - 3)] 3)).drew).heap[w.heap.size]? = some (.cells #[.string ⟨#[]⟩, .int .i64 0] 54 (0, 0))) :=
    Lib.hid ((Below.heap_alloc _ _ _ (by simp; omega)).trans ((Below.heap_alloc _ _ _ (by simp)).trans (heap_alloc_new _ _)))
  have HT : Hid (((((w.alloc (.cells #[.string ⟨#[]⟩, .int .i64 0] 54)).alloc (.cells #[.string s] 38)).alloc (.cells #[.int .i64 (p : Nat), .int .i64 ((p : Nat) - 1), .int .i64 ((p : Nat) - 2), .int .i64 ((p : Nat) - 3)] 3)).drew).heap[w.heap.size + 1]? = some (.cells #[.string s] 38 (0, 0))) :=
    Lib.hid ((Below.heap_alloc _ _ _ (by simp)).trans (by have := heap_alloc_new (w.alloc (.cells #[.string ⟨#[]⟩, .int .i64 0] 54)) (.cells #[.string s] 38); rwa [World.size_alloc] at this))
  have HC : Hid (∀ i, i < 4 → ((((w.alloc (.cells #[.string ⟨#[]⟩, .int .i64 0] 54)).alloc (.cells #[.string s] 38)).alloc (.cells #[.int .i64 (p : Nat), .int .i64 ((p : Nat) - 1), .int .i64 ((p : Nat) - 2), .int .i64 ((p : Nat) - 3)] 3)).drew).cell? ((⟨w.heap.size + 1 + 1, 0, none⟩ : Addr).add i) = some (.int .i64 ((p : Nat) - (i : Nat)))) :=
    Lib.hid fun i hi => (cell_drew_own _ _).trans (by have := four_cells ((w.alloc (.cells #[.string ⟨#[]⟩, .int .i64 0] 54)).alloc (.cells #[.string s] 38)) p 3 i hi; simpa only [World.size_alloc] using this)
  have HB : Hid (Below w.heap.size w ((((w.alloc (.cells #[.string ⟨#[]⟩, .int .i64 0] 54)).alloc (.cells #[.string s] 38)).alloc (.cells #[.int .i64 (p : Nat), .int .i64 ((p : Nat) - 1), .int .i64 ((p : Nat) - 2), .int .i64 ((p : Nat) - 3)] 3)).drew)) :=
    Lib.hid ((((Below.refl _ _).alloc (Nat.le_refl _) _).alloc (by simp) _).alloc (by simp; omega) _).drew
  go_enter Tryd.func34, Tryd.ntmps34
  go_wp2_with fail
  go_region_with (go_at_call 41; refine Calls.mono (sure_any s p hp ⟨w.heap.size + 1 + 1, 0, none⟩ 4 _ HC.out) ?_; rintro e w' ⟨⟨r, rfl, hr⟩, hb⟩; have hM := row_below HM.out hb; have hT := row_below HT.out hb; have HM' := Lib.hid hM; obtain ⟨m0, m1⟩ := row_cells hM; have f0 := frozen_of_row w' w.heap.size 0 _ _ hM; have f1 := frozen_of_row w' w.heap.size 1 _ _ hM; have t0 : w'.cell? ⟨w.heap.size + 1, 0, none⟩ = some (.string s) := (by rw [cell_of_row _ _ 0 _ _ _ hT]; rfl); clear hM hT)
  all_goals
    go_wp2
    have h1 := heap_setCell_same w' w.heap.size 0 _ _ (.string s) HM'.out
    have h2 := heap_setCell_same _ w.heap.size 1 _ _ (.int .i64 (r : Nat)) h1
    refine bodyPost_ret (v := .agg (menderC s r)) ?_ rfl ⟨⟨r, rfl, hr⟩, ?_⟩
    · exact results_cell_row rfl _ _ w.heap.size 54 (menderC s r) (0, 0) _ rfl (by rw [h2]; rfl) Tryd.underlying54 rfl (by kernel_rfl)
    · exact ((HB.out.trans (hb.mono HB.out.size)).setCell (p := ⟨w.heap.size, 0, none⟩) (Nat.le_refl _) _).setCell (p := ⟨w.heap.size, 1, none⟩) (Nat.le_refl _) _
end Go.Proofs.YthnfekilmiodpaaDoor

