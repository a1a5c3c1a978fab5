/- Shaken by bunq.py. -/
import Derived.Test.YtaoooocalpkhjaaGreatDoorBuq14
import Derived.Test.YtaoooocalpkhjaaGreatDoorBuq6
import Derived.Test.YtaoooocalpkhjaaGreatDoorBuq7
import Derived.Test.YtaoooocalpkhjaaGreatDoorBuq11
import Derived.Sort.OwnSortedInts
import Derived.Test.YtaoooocalpkhjaaGreatDoorBuq8
import Derived.Test.YtaoooocalpkhjaaGreatDoorBuq13
import Derived.Test.YtaoooocalpkhjaaGreatDoorBuq12
import Derived.Test.YtaoooocalpkhjaaGreatDoorBuq2
namespace Go.Proofs.YtaoooocalpkhjaaGreatDoor
open Go.RowKit Go.Shelf Go.Maps
attribute [local go_sem] Oper.semAt_some
attribute [local go_sem ↓] app_hide lk_hideN mu_hideN

set_option maxRecDepth 100000 in
set_option maxHeartbeats 2000000 in
theorem number_metN (base G M ac : Nat) (ao : Option Addr) (A : List Nat) (t : Nat) (ht : t ≤ 1000000) (hm : t ∈ A) (w : World) (hM : MetN w base G M ao ac A) :
    Calls Tryz.prog 87 #[.pointer (some ⟨G, 0, none⟩), .int .i64 ((t : Nat) : Int)] w fun e w' => (∃ v, e = .returned (.int .i64 v)) ∧ w = w' := by
  obtain ⟨D, n, hown, hn, hhas⟩ := hM.pl
  obtain ⟨v, ps, hlk, hv⟩ := hown.look_ok keyIntD Tryz.underlying117 (zeroIntD _) (plainElem_int Tryz.underlying3 (q := .i64) (by decide)) (key_natD ht)
  obtain ⟨d, rfl, hd, _⟩ := plainElem_int_inv Tryz.underlying3 hv
  rw [hhas, decide_eq_true hm] at hlk
  replace hlk : (lkN (.map (some M)) (.int .i64 ((t : Nat) : Int))).run Tryz.prog w = .ok (.tuple #[.int .i64 d, .bool true]) w := hlk
  obtain ⟨c0, c1⟩ := two_cells hM.row
  have hG := World.block_lt_of_cell? w _ c0
  clear hM hown hhas hv hd hm
  go_enter Tryz.func87, Tryz.ntmps87
  go_wp2_with fail
  go_ret
  exact ⟨⟨_, rfl⟩, rfl⟩
def NumN (w : World) (base G M : Nat) (ao : Option Addr) (ac : Nat) (A A' : List Nat) (e : Ending) (w' : World) : Prop :=
  (∃ v, e = .returned (.int .i64 v)) ∧ ∃ ao' ac', MetN w' base G M ao' ac' A' ∧ Moves (NumS G M (.slice ao A.length ac)) w w' ∧ ∀ k, (Value.slice ao' A'.length ac').ownBlock = some k → (Value.slice ao A.length ac).ownBlock = some k ∨ w.heap.size ≤ k
set_option maxRecDepth 100000 in
set_option maxHeartbeats 4000000 in
theorem number_newN (base G M ac : Nat) (ao : Option Addr) (A : List Nat) (t : Nat) (ht : t ≤ 1000000) (hm : t ∉ A) (hA : A.length ≤ 100000) (w : World) (hM : MetN w base G M ao ac A) :
    Calls Tryz.prog 87 #[.pointer (some ⟨G, 0, none⟩), .int .i64 ((t : Nat) : Int)] w (NumN w base G M ao ac A (A ++ [t])) := by
  obtain ⟨P, hP⟩ : ∃ P, NumN w base G M ao ac A (A ++ [t]) = P := ⟨_, rfl⟩
  have HP := Lib.hid hP
  rw [hP]
  have hne := hM.ne
  have hsep := hM.sep
  have hMl := hM.pl.lt
  have hGl := (Array.getElem?_eq_some_iff.1 hM.row).1
  obtain ⟨D, n, hown, hn, hhas⟩ := hM.pl
  have hT := hown.tidy keyIntD
  obtain ⟨v, ps, hlk, hv⟩ := hown.look_ok keyIntD Tryz.underlying117 (zeroIntD _) (plainElem_int Tryz.underlying3 (q := .i64) (by decide)) (key_natD ht)
  obtain ⟨d, rfl, hd, _⟩ := plainElem_int_inv Tryz.underlying3 hv
  rw [hhas, decide_eq_false hm] at hlk
  replace hlk : (lkN (.map (some M)) (.int .i64 ((t : Nat) : Int))).run Tryz.prog w = .ok (.tuple #[.int .i64 d, .bool false]) w := hlk
  obtain ⟨wm, hst, hown2, hturn⟩ := hown.store keyIntD Tryz.underlying117 (by unfold maxLen; omega) (val := .int .i64 (A.length : Nat)) (key_natD ht) (plainElem_int Tryz.underlying3 (WalkArith.wf_i64 (by omega)))
  replace hst : (muN (.map (some M)) (.int .i64 ((t : Nat) : Int)) (.int .i64 (A.length : Nat))).run Tryz.prog w = .ok () wm := hst
  obtain ⟨c0, c1⟩ := two_cells hM.row
  have mv : Moves (fun k => k = M) w wm := ⟨hturn.grown.os, hturn.grown.tape, hturn.grown.output, hturn.grown.size, fun k hk hn => hturn.grown.block k hk (fun e => hn (Option.some.inj e))⟩
  have rGm := row_keep hM.row mv hne.1
  obtain ⟨d0, d1⟩ := two_cells rGm
  have hallm := own_movesH hM.all mv (fun k hk e => (hsep k hk).2 e)
  have hplm : PlacesN wm M (A ++ [t]) := PlacesN.more hT hn hhas hown2
  have zm := mv.size
  obtain ⟨g, cp, w6, k1, k2, k3, k4⟩ := app_int wm base A.length (.slice ao A.length ac) (A.map fun s => .int .i64 ((s : Nat) : Int)) (.int .i64 ((t : Nat) : Int)) ⟨_, rfl⟩ hallm (by omega) (by have := hne.2; omega)
  have a1 : Below wm.heap.size wm (wm.alloc (.cells #[.int .i64 ((t : Nat) : Int)] 3)) := (Below.refl _ _).alloc (Nat.le_refl _) _
  have m6 : Moves (fun k => (Value.slice ao A.length ac).ownBlock = some k) wm w6 := (Moves.of_below a1).trans ⟨k3.os, k3.tape, k3.output, k3.size, fun q hq hn => k3.block q hq (fun e => hn e.symm)⟩
  have rG6 := row_keep rGm m6 (fun h => (hsep _ h).1 rfl)
  have k5 := (two_cells rG6).2
  have f5 : w6.frozen? ⟨G, 1, none⟩ = false := frozen_of_row _ _ _ _ _ rG6
  have l6 : G < w6.heap.size := (Array.getElem?_eq_some_iff.1 rG6).1
  have lG : G < wm.heap.size := (Array.getElem?_eq_some_iff.1 rGm).1
  have hg : (Value.slice ao A.length ac).ownBlock = some g ∨ wm.heap.size < g := k4
  have ms : Moves (fun k => k = G) w6 (w6.setCell ⟨G, 1, none⟩ (.slice (some ⟨g, 0, none⟩) (A.length + 1) cp)) := Moves.setCell rfl
  have hl1 : (A ++ [t]).length = A.length + 1 := by rw [List.length_append]; rfl
  have hgG : g ≠ G ∧ g ≠ M := by
    rcases hg with h | h
    · exact hsep g h
    · exact ⟨by omega, by omega⟩
  have mall : Moves (NumS G M (.slice ao A.length ac)) w (w6.setCell ⟨G, 1, none⟩ (.slice (some ⟨g, 0, none⟩) (A.length + 1) cp)) := ((mv.mono fun q h => .inr (.inl h)).trans (m6.mono fun q h => .inr (.inr h))).trans (ms.mono fun q h => .inl h)
  have HPP : Hid (∀ v, P (.returned (.int .i64 v)) (w6.setCell ⟨G, 1, none⟩ (.slice (some ⟨g, 0, none⟩) (A.length + 1) cp))) := Lib.hid (by
    rw [← HP.out]
    refine fun v => ⟨⟨v, rfl⟩, some ⟨g, 0, none⟩, cp, ⟨⟨hne.1, Nat.le_trans hne.2 mall.size⟩, ?_, ?_, ?_, ?_⟩, mall, ?_⟩
    · rw [heap_setCell_same _ _ _ _ _ _ rG6, hl1]
      rfl
    · refine hplm.row ?_
      rw [heap_setCell_other _ _ _ _ (fun e => hne.1 e.symm)]
      exact m6.block M (by omega) (fun h => (hsep _ h).2 rfl)
    · rw [hl1, List.map_append]
      exact own_movesH k2 ms fun k hk e => by
        have : g = k := by simpa [Value.ownBlock] using hk
        exact hgG.1 (this.trans e)
    · rw [hl1]
      intro k hk
      have : g = k := by simpa [Value.ownBlock] using hk
      rw [← this]
      exact hgG
    · rw [hl1]
      intro k hk
      have : g = k := by simpa [Value.ownBlock] using hk
      rw [← this]
      rcases hg with h | h
      · exact .inl h
      · exact .inr (by omega))
  have hG := World.block_lt_of_cell? w _ c0
  clear hM hown hhas hv hd hm hT hn hown2 hturn mv rGm hallm hplm k2 k3 k4 a1 m6 rG6 hg ms hl1 hgG mall HP hsep hne
  go_enter Tryz.func87, Tryz.ntmps87
  go_wp2_with fail
  exact HPP.out _
theorem number_anyN (base G M ac : Nat) (ao : Option Addr) (A : List Nat) (t : Nat) (ht : t ≤ 1000000) (hA : A.length ≤ 100000) (w : World) (hM : MetN w base G M ao ac A) :
    Calls Tryz.prog 87 #[.pointer (some ⟨G, 0, none⟩), .int .i64 ((t : Nat) : Int)] w (NumN w base G M ao ac A (if t ∈ A then A else A ++ [t])) := by
  by_cases hm : t ∈ A
  · rw [if_pos hm]
    refine (number_metN base G M ac ao A t ht hm w hM).mono ?_
    rintro e w' ⟨h1, rfl⟩
    exact ⟨h1, ao, ac, hM, Moves.refl _ _, fun k hk => .inl hk⟩
  · rw [if_neg hm]
    exact number_newN base G M ac ao A t ht hm hA w hM
def MetRN (w : World) (e : Ending) (w' : World) : Prop := ∃ M B, e = .returned (.agg #[.map (some M), .slice (some ⟨B, 0, none⟩) 1 1]) ∧ w.heap.size ≤ M ∧ w.heap.size ≤ B ∧ M ≠ B ∧ PlacesN w' M [0] ∧ w'.heap[B]? = some (.cells #[.int .i64 0] 3 (0, 0)) ∧ Below w.heap.size w w'
theorem eachN_any (G : Nat) (w : World) : Calls Tryz.prog 86 #[.pointer (some ⟨G, 0, none⟩)] w fun e w' => e = .returned (.func (.func 123) #[] #[.pointer (some ⟨w.heap.size, 0, none⟩)]) ∧ w.alloc (.cells #[.pointer (some ⟨G, 0, none⟩)] 163) = w' := by
  go_enter Tryz.func86, Tryz.ntmps86
  go_wp2
  go_ret
  exact ⟨rfl, rfl⟩
end Go.Proofs.YtaoooocalpkhjaaGreatDoor
namespace Go.Proofs.YtaoooocalpkhjaaGreatDoor
open Go.RowKit Go.Shelf Go.Maps
attribute [local go_sem] Oper.semAt_some
attribute [local go_sem ↓] app_hide lk_hideN mu_hideN

def ViewN (G : Nat) (all xs : List Nat) (W : World) : Prop := ∃ ao al ac, W.cell? ⟨G, 1, none⟩ = some (.slice ao al ac) ∧ al ≤ 100000 ∧
  ((xs.length = al ∧ xs = all) ∨ (xs.length < al ∧ ∃ g s, ao = some ⟨g, 0, none⟩ ∧ all[xs.length]? = some s ∧ W.cell? ⟨g, xs.length, none⟩ = some (.int .i64 ((s : Nat) : Int))))
theorem MetN.view {w : World} {base G M ac : Nat} {ao : Option Addr} {A all xs : List Nat} (h : MetN w base G M ao ac A) (hA : A.length ≤ 100000) (hx : (xs.length = A.length ∧ xs = all) ∨ (xs.length < A.length ∧ A <+: all)) : ViewN G all xs w := by
  refine ⟨ao, A.length, ac, (two_cells h.row).2, hA, hx.imp id fun ⟨h1, h2⟩ => ?_⟩
  obtain ⟨s, hs⟩ : ∃ s, A[xs.length]? = some s := ⟨_, List.getElem?_eq_getElem h1⟩
  obtain ⟨g, rfl, hc⟩ := row_placeK h.all (by omega)
  obtain ⟨r, hr⟩ := h2
  refine ⟨h1, g, s, rfl, by rw [← hr, List.getElem?_append_left h1]; exact hs, ?_⟩
  exact hc _ _ (by rw [List.getElem?_map, hs]; rfl)
set_option maxRecDepth 100000 in
set_option maxHeartbeats 2000000 in
theorem seqNumsN {cb G : Nat} {all : List Nat} {w : World} (hall : all.length ≤ 100000) (hc : w.heap[cb]? = some (.cells #[.pointer (some ⟨G, 0, none⟩)] 163 (0, 0))) :
    SeqOfV Tryz.prog 5 123 #[.pointer (some ⟨cb, 0, none⟩)] (fun s : Nat => #[.int .i64 ((s : Nat) : Int)]) (fun _ => False) (fun k => k = cb) all (ViewN G all) w := by
  intro W lp J Jx hm hJ hJx hV hY h0
  have h1 : 1 ≤ 5 := by omega
  have rc := row_keep hc hm id
  have HRC := Lib.hid rc
  refine callsIn_of_wp Tryz.func123 rfl trivial ?_ rfl
  simp only [Tryz.ntmps123, List.size_toArray, List.length_cons, List.length_nil, Nat.reduceAdd, Nat.reduceSub, Array.replicate_succ, Array.replicate_zero, List.push_toArray, List.append_toArray, List.nil_append, List.cons_append]
  have HJ := Lib.hid hJ
  have HY := Lib.hid hY
  have HV := Lib.hid hV
  clear hJ hJx hY hV hm hc rc
  gi_wp2
  gi_loopg [3] (all.length + 1) (fun k v wr => ∃ (i : Nat), v = .int .i64 (i : Nat) ∧ i ≤ all.length ∧ k = all.length + 1 - i ∧ Hid (wr.heap[cb]? = some (.cells #[.pointer (some ⟨G, 0, none⟩)] 163 (0, 0))) ∧ J (fun _ => False) (all.take i) wr)
  case atStart => exact ⟨0, rfl, Nat.zero_le _, rfl, HRC, by simpa using h0⟩
  case round =>
    obtain ⟨i, rfl, hi, rfl, HC, hJ'⟩ := hrel
    obtain ⟨ao, al, ac, c5, hal, hv⟩ := HV.out _ _ _ hJ'
    have hlt0 : (all.take i).length = i := by rw [List.length_take]; omega
    rw [hlt0] at hv
    have c0 : wr.cell? ⟨cb, 0, none⟩ = some (.pointer (some ⟨G, 0, none⟩)) := by rw [cell_of_row _ _ 0 _ _ _ HC.out]; rfl
    have him : i < 1000000 := by omega
    rcases hv with ⟨rfl, hall2⟩ | ⟨hlt, g, s, rfl, hS, hcs⟩
    · have d1 : decide (((i : Nat) : Int) < ((i : Nat) : Int)) = false := decide_eq_false (by omega)
      rw [hall2] at hJ'
      gi_wp2
      go_end0
      exact ⟨⟨_, rfl⟩, _, .inl hJ'⟩
    · have d1 : decide (((i : Nat) : Int) < ((al : Nat) : Int)) = true := decide_eq_true (by omega)
      have hlt3 := (List.getElem?_eq_some_iff.1 hS).1
      have hpx : all.take i ++ [s] = all.take (i + 1) := by rw [List.take_add_one, hS]; rfl
      obtain ⟨fn, tmps, assign, body, hy, hR⟩ := HY.out _ _ _ _ (by rw [hpx]; exact List.take_prefix _ _) hJ'
      have HPX := Lib.hid hpx
      clear hpx hS
      gi_wp2
      refine hR.mono ?_
      rintro e w3 (⟨rfl, hJ4, hk4⟩ | ⟨rfl, hJx4, _⟩)
      · gi_wp2
        gi_roundg (all.length + 1 - (i + 1))
        case measure => omega
        case rel => exact ⟨i + 1, by simp, by omega, rfl, Lib.hid (row_keep HC.out hk4 (fun h => h.2 rfl)), by rw [← HPX.out]; exact hJ4⟩
      · gi_wp2
        refine bodyPost_ret (results_none rfl _ _ _) rfl ?_
        exact ⟨⟨_, rfl⟩, _, .inr ⟨_, by rw [HPX.out]; exact List.take_prefix _ _, hJx4⟩⟩
set_option maxRecDepth 100000 in
set_option maxHeartbeats 2000000 in
theorem metWith_anyN (w : World) : Calls Tryz.prog 85 #[.int .i64 0] w (MetRN w) := by
  obtain ⟨P, hP⟩ : ∃ P, MetRN w = P := ⟨_, rfl⟩
  have HP := Lib.hid hP
  rw [hP]
  obtain ⟨W0, hW0⟩ : ∃ W0, w.alloc (.cells #[.map none, .slice none 0 0] 119) = W0 := ⟨_, rfl⟩
  have z0 : W0.heap.size = w.heap.size + 1 := by rw [← hW0]; simp
  have B0 : Below w.heap.size w W0 := by rw [← hW0]; exact (Below.refl _ _).alloc (Nat.le_refl _) _
  have g0 : W0.heap[w.heap.size]? = some (.cells #[.map none, .slice none 0 0] 119 (0, 0)) := by rw [← hW0]; exact heap_alloc_new _ _
  obtain ⟨W1, hW1⟩ : ∃ W1, W0.alloc (.map #[] 0) = W1 := ⟨_, rfl⟩
  have z1 : W1.heap.size = w.heap.size + 2 := by rw [← hW1]; simp; omega
  have b1 : Below W0.heap.size W0 W1 := by rw [← hW1]; exact (Below.refl _ _).alloc (Nat.le_refl _) _
  have o1 : W1.ownsMap Tryz.prog 3 (plainElem (H := Unit) Tryz.prog 3) (w.heap.size + 1) 0 (.map []) := by rw [← hW1, ← z0]; exact World.ownsMap_made _ _ _ _
  have hT := o1.tidy keyIntD
  obtain ⟨wm, hst, hown2, hturn⟩ := o1.store keyIntD Tryz.underlying117 (by unfold maxLen; omega) (val := .int .i64 0) (key_natD (c := 0) (by omega)) (plainElem_int Tryz.underlying3 (WalkArith.wf_i64 (by omega)))
  have mv : Moves (fun k => k = w.heap.size + 1) W1 wm := ⟨hturn.grown.os, hturn.grown.tape, hturn.grown.output, hturn.grown.size, fun k hk hn => hturn.grown.block k hk (fun e => hn (Option.some.inj e))⟩
  replace hst : (muN (.map (some (w.heap.size + 1))) (.int .i64 0) (.int .i64 0)).run Tryz.prog W1 = .ok () wm := hst
  have pm : PlacesN wm (w.heap.size + 1) [0] := PlacesN.more (bs := []) hT (Nat.le_refl _) (fun c => rfl) hown2
  have gm := row_keep (row_below g0 b1) mv (by omega)
  have zm := mv.size
  obtain ⟨h, hh⟩ : ∃ h, wm.heap.size = h := ⟨_, rfl⟩
  obtain ⟨W3, hW3⟩ : ∃ W3, wm.alloc (.cells #[.int .i64 0] 3) = W3 := ⟨_, rfl⟩
  have b3 : Below wm.heap.size wm W3 := by rw [← hW3]; exact (Below.refl _ _).alloc (Nat.le_refl _) _
  have r3 : W3.heap[h]? = some (.cells #[.int .i64 0] 3 (0, 0)) := by rw [← hW3, ← hh]; exact heap_alloc_new _ _
  have g3 := row_below gm b3
  obtain ⟨q1, q2⟩ := two_setD (.map (some (w.heap.size + 1))) (.slice (some ⟨h, 0, none⟩) 1 1) g3
  obtain ⟨W7, hW7⟩ : ∃ W7, (W3.setCell ⟨w.heap.size, 0, none⟩ (.map (some (w.heap.size + 1)))).setCell ⟨w.heap.size, 1, none⟩ (.slice (some ⟨h, 0, none⟩) 1 1) = W7 := ⟨_, rfl⟩
  rw [hW7] at q1 q2
  have c0 := (two_cells g3).1
  have c1 := (two_cells g3).2
  have f0 : W3.frozen? ⟨w.heap.size, 0, none⟩ = false := frozen_of_row _ _ _ _ _ g3
  have f1 : W3.frozen? ⟨w.heap.size, 1, none⟩ = false := frozen_of_row _ _ _ _ _ g3
  have l3 : w.heap.size < W3.heap.size := (Array.getElem?_eq_some_iff.1 g3).1
  have HPP : Hid (P (.returned (.agg #[.map (some (w.heap.size + 1)), .slice (some ⟨h, 0, none⟩) 1 1])) W7) := Lib.hid (by
    rw [← HP.out]
    refine ⟨w.heap.size + 1, h, rfl, by omega, by omega, by omega, (pm.below b3).row (q2.block _ (by have := pm.lt; have := b3.size; omega) (by omega)), row_keep r3 q2 (by omega), ?_⟩
    have bw1 := B0.trans (b1.mono B0.size)
    have bm := Moves.below bw1 bw1.size mv (fun k hk => by omega)
    have b33 := bm.trans (b3.mono bm.size)
    exact Moves.below b33 b33.size q2 (fun k hk => by omega))
  have HR7 := Lib.hid q1
  have HW7 := Lib.hid hW7
  have HW0 := Lib.hid hW0
  have HW1 := Lib.hid hW1
  have hmk : (Instr.makeMap 117 none).run Tryz.prog (w.alloc (.cells #[.map none, .slice none 0 0] 119)) = .ok (.map (some (w.heap.size + 1))) W1 := by
    have := run_makeMap (P := Tryz.prog) 117 (w.alloc (.cells #[.map none, .slice none 0 0] 119))
    rw [World.size_alloc, hW0, hW1] at this
    rw [hW0]
    exact this
  clear hP HP hW0 B0 g0 hW1 b1 o1 hT hown2 hturn mv pm gm zm b3 r3 g3 q1 q2 hW7 z1
  go_enter Tryz.func85, Tryz.ntmps85
  go_wp2_with fail
  rw [HW7.out]
  exact bodyPost_ret (v := .agg #[.map (some (w.heap.size + 1)), .slice (some ⟨h, 0, none⟩) 1 1]) (results_cellD rfl _ _ w.heap.size _ _ _ _ rfl HR7.out Tryz.underlying119 rfl (by kernel_rfl)) rfl HPP.out
end Go.Proofs.YtaoooocalpkhjaaGreatDoor
namespace Go.Proofs.YtaoooocalpkhjaaGreatDoor
open Go.RowKit Go.Shelf Go.Maps
attribute [local go_sem] Oper.semAt_some

theorem sort_ownD {base g cap : Nat} {zs : List Int} {w : World} (h : w.ownsRow base 3 1 (.slice (some ⟨g, 0, none⟩) zs.length cap) zs.length (zs.map (Value.int .i64))) (hz : zs.length ≤ 1000000) :
    Calls Tryz.prog 88 #[.slice (some ⟨g, 0, none⟩) zs.length cap] w fun e w' => e = .returned (.tuple #[]) ∧ w'.ownsRow base 3 1 (.slice (some ⟨g, 0, none⟩) zs.length cap) zs.length ((zs.mergeSort fun x y => decide (x ≤ y)).map (Value.int .i64)) ∧ Moves (fun k => k = g) w w' := by
  obtain ⟨g2, cp, cur, hv, hb, hc, h1, h2, h3, h4⟩ : ∃ g2 cp cur, Value.slice (some ⟨g, 0, none⟩) zs.length cap = .slice (some ⟨g2, 0, none⟩) zs.length cp ∧ base ≤ g2 ∧ w.heap[g2]? = some (.cells cur 3 (0, 0)) ∧ zs.length ≤ cp ∧ cp ≤ maxLen ∧ cur.size = cp * 1 ∧ cur.toList.take (zs.length * 1) = zs.map (Value.int .i64) := by
    rcases h.2 with ⟨h0, _⟩ | ⟨g2, cp, cur, h0⟩
    · cases h0
    · exact ⟨g2, cp, cur, h0⟩
  obtain ⟨rfl, rfl⟩ : g = g2 ∧ cap = cp := by
    injection hv with e1 e2 e3
    injection e1 with e1
    injection e1 with e1
    exact ⟨e1, e3⟩
  rw [Nat.mul_one] at h4
  have hl : (zs.mergeSort fun x y => decide (x ≤ y)).length = zs.length := List.length_mergeSort zs
  refine (Tryz.slices_Sort_int g 0 cap zs w (Go.holds_of_blockI hc h4) (Array.getElem?_eq_some_iff.1 hc).1 (by omega)).mono ?_
  rintro e w' ⟨rfl, n, os, rfl⟩
  refine ⟨rfl, Go.ownsRow_sortedI hl hb hc h1 h2 h3, ?_⟩
  have hg := Go.grownBy_sortedI (w := w) (g := g) (n := n) (os := os) (zs.mergeSort fun x y => decide (x ≤ y)).toArray
  exact ⟨hg.os, hg.tape, hg.output, hg.size, fun k hk hn => hg.block k hk (fun e => hn (Option.some.inj e))⟩
theorem view_runN {R : List (List Int)} {n i : Nat} {xs : List Nat} (hx : xs <+: finN R n) (hi : xs.length = i) (hi3 : i ≤ 300) (hle : i ≤ (metN R n (i * (n + 1))).length) :
    (i = (metN R n (i * (n + 1))).length ∧ xs = finN R n) ∨ (i < (metN R n (i * (n + 1))).length ∧ metN R n (i * (n + 1)) <+: finN R n) := by
  have hQ : i * (n + 1) ≤ 300 * (n + 1) := Nat.mul_le_mul_right _ hi3
  rcases Nat.lt_or_ge i (metN R n (i * (n + 1))).length with h | h
  · exact .inr ⟨h, met_prefix R n hQ⟩
  · refine .inl ⟨by omega, ?_⟩
    have hnl : ¬ liveN R n (i * (n + 1)) := by
      unfold liveN
      rw [Nat.mul_div_cancel _ (by omega)]
      omega
    have hT : finN R n = metN R n (i * (n + 1)) := by
      unfold finN
      rw [met_stop hnl hQ]
    obtain ⟨r, hr⟩ := hx
    have hl := congrArg List.length hr
    rw [List.length_append, hT] at hl
    have : r = [] := List.eq_nil_of_length_eq_zero (by omega)
    rw [← hr, this, List.append_nil]
theorem view_atN {R : List (List Int)} {n i : Nat} {xs : List Nat} {x : Nat} (hx : xs ++ [x] <+: finN R n) (hi : xs.length = i) (hi3 : i ≤ 300) (hle : i ≤ (metN R n (i * (n + 1))).length) : (metN R n (i * (n + 1)))[i]? = some x ∧ i < (metN R n (i * (n + 1))).length := by
  have hx1 : xs <+: finN R n := (List.prefix_append _ _).trans hx
  have hT : (finN R n)[i]? = some x := by
    refine prefix_get hx ?_
    rw [List.getElem?_append_right (by omega), hi, Nat.sub_self]
    rfl
  rcases view_runN hx1 hi hi3 hle with ⟨h1, h2⟩ | ⟨h1, h2⟩
  · have := (List.getElem?_eq_some_iff.1 hT).1
    rw [← h2] at this
    omega
  · refine ⟨?_, h1⟩
    obtain ⟨y, hy⟩ : ∃ y, (metN R n (i * (n + 1)))[i]? = some y := ⟨_, List.getElem?_eq_getElem h1⟩
    rw [prefix_get h2 hy] at hT
    rw [hy, hT]
theorem int_wlkD : (3 : TypeId) ≠ 77 := by decide
theorem int_pmetD : (3 : TypeId) ≠ 163 := by decide
theorem wlk_metD : (77 : TypeId) ≠ 119 := by decide
theorem pmet_metD : (163 : TypeId) ≠ 119 := by decide
structure RchQ (w0 : World) (m : MachX) (n : Int) (G M wb eb : Nat) (A : List Nat) (ao : Option Addr) (ac : Nat) (X : Nat → Prop) (W : World) : Prop where
  met : MetN W w0.heap.size G M ao ac A
  wk : W.heap[wb]? = some (wkrO m n)
  ev : W.heap[eb]? = some (.cells #[.pointer (some ⟨G, 0, none⟩)] 163 (0, 0))
  bel : Below w0.heap.size w0 W
  lo : w0.heap.size ≤ G ∧ w0.heap.size ≤ M
  nX : ¬ X G ∧ ¬ X M ∧ ¬ X wb ∧ ¬ X eb
  sX : ∀ k, (Value.slice ao A.length ac).ownBlock = some k → ¬ X k
  loX : ∀ k, X k → w0.heap.size ≤ k
  ltX : ∀ k, X k → k < W.heap.size
theorem RchQ.moves {w0 A B : World} {m : MachX} {n : Int} {G M wb eb ac : Nat} {L : List Nat} {ao : Option Addr} {X X' : Nat → Prop} (h : RchQ w0 m n G M wb eb L ao ac X A) (hm : Moves X A B) (hX : ∀ k, X' k → (X k ∨ A.heap.size ≤ k) ∧ k < B.heap.size) : RchQ w0 m n G M wb eb L ao ac X' B := by
  have lG := (Array.getElem?_eq_some_iff.1 h.met.row).1
  have lM := h.met.pl.lt
  have lw := (Array.getElem?_eq_some_iff.1 h.wk).1
  have le := (Array.getElem?_eq_some_iff.1 h.ev).1
  have hz := hm.size
  have hb := h.bel.size
  have old : ∀ k, k < A.heap.size → ¬ X k → ¬ X' k := fun k hk hn hy => by
    rcases (hX k hy).1 with h5 | h5
    · exact hn h5
    · omega
  exact ⟨h.met.keep hm h.nX.1 h.nX.2.1 h.sX, row_keep h.wk hm h.nX.2.2.1, row_keep h.ev hm h.nX.2.2.2, Moves.below h.bel hb hm h.loX, h.lo, ⟨old _ lG h.nX.1, old _ lM h.nX.2.1, old _ lw h.nX.2.2.1, old _ le h.nX.2.2.2⟩, fun k hk => old k (h.met.all.lt k hk).2 (h.sX k hk), fun k hk => by
    rcases (hX k hk).1 with h5 | h5
    · exact h.loX k h5
    · omega, fun k hk => (hX k hk).2⟩
theorem RchQ.below {w0 A B : World} {m : MachX} {n : Int} {G M wb eb ac : Nat} {L : List Nat} {ao : Option Addr} {X : Nat → Prop} (h : RchQ w0 m n G M wb eb L ao ac X A) (hb : Below A.heap.size A B) : RchQ w0 m n G M wb eb L ao ac X B :=
  h.moves (Moves.of_below hb) (fun k hk => ⟨.inl hk, by have := h.ltX k hk; have := hb.size; omega⟩)
theorem RchQ.num {w0 A B : World} {m : MachX} {n : Int} {G M wb eb ac : Nat} {L L' : List Nat} {ao : Option Addr} {X : Nat → Prop} {e : Ending} (h : RchQ w0 m n G M wb eb L ao ac X A) (hN : NumN A w0.heap.size G M ao ac L L' e B) :
    (∃ v, e = .returned (.int .i64 v)) ∧ ∃ ao' ac', RchQ w0 m n G M wb eb L' ao' ac' X B ∧ Moves (fun k => ¬ X k ∧ ¬ k = eb) A B := by
  obtain ⟨he, ao', ac', h1, h2, h3⟩ := hN
  obtain ⟨D, q, ⟨es, clock, q1, _⟩, _⟩ := h.met.pl
  have nW : ¬ NumS G M (.slice ao L.length ac) wb := by
    rintro (hs | hs | hs)
    · exact other_type h.wk h.met.row wlk_metD hs
    · have := h.wk
      rw [hs, q1] at this
      cases this
    · obtain ⟨cur, e1, _⟩ := own_rowD h.met.all hs
      exact other_type e1 h.wk int_wlkD rfl
  have nE : ¬ NumS G M (.slice ao L.length ac) eb := by
    rintro (hs | hs | hs)
    · exact other_type h.ev h.met.row pmet_metD hs
    · have := h.ev
      rw [hs, q1] at this
      cases this
    · obtain ⟨cur, e1, _⟩ := own_rowD h.met.all hs
      exact other_type e1 h.ev int_pmetD rfl
  have low : ∀ k, NumS G M (.slice ao L.length ac) k → w0.heap.size ≤ k := by
    rintro k (rfl | rfl | hk)
    · exact h.lo.1
    · exact h.lo.2
    · exact own_rowD' h.met.all hk
  have hb := h.bel.size
  refine ⟨he, ao', ac', ⟨h1, row_keep h.wk h2 nW, row_keep h.ev h2 nE, Moves.below h.bel hb h2 low, h.lo, h.nX, fun k hk hx => ?_, h.loX, fun k hk => by have := h.ltX k hk; have := h2.size; omega⟩, h2.mono ?_⟩
  · rcases h3 k hk with h5 | h5
    · exact h.sX k h5 hx
    · have := h.ltX k hx; omega
  · rintro k (rfl | rfl | hk)
    · exact ⟨h.nX.1, fun he => nE (.inl he.symm)⟩
    · exact ⟨h.nX.2.1, fun he => nE (.inr (.inl he.symm))⟩
    · exact ⟨h.sX k hk, fun he => nE (.inr (.inr (he ▸ hk)))⟩
theorem reach_sort {R : List (List Int)} {F : List Int} {n : Nat} (h : machB R F ((n : Nat) : Int) = true) : ((natsZ (finN R n)).mergeSort fun x y => decide (x ≤ y)) = natsZ (reachL R n) := by
  refine sorted_same ?_ (reach_sorted R n) ?_
  · have hs := List.pairwise_mergeSort (le := fun (x y : Int) => decide (x ≤ y)) (fun a b c h1 h2 => by simp at *; omega) (fun a b => by simp; omega) (natsZ (finN R n))
    exact hs.imp fun h => by simpa using h
  · exact (List.mergeSort_perm _ _).trans ((reach_perm h).map _)
end Go.Proofs.YtaoooocalpkhjaaGreatDoor
namespace Go.Proofs.YtaoooocalpkhjaaGreatDoor
open Go.RowKit Go.Shelf Go.Maps
attribute [local go_sem] Oper.semAt_some

theorem clip_any (g n cap : Nat) (hn : n ≤ cap) (w : World) : Calls Tryz.prog 89 #[.slice (some ⟨g, 0, none⟩) n cap] w fun e w' => e = .returned (.slice (some ⟨g, 0, none⟩) n n) ∧ w = w' := by
  go_enter Tryz.func89, Tryz.ntmps89
  go_wp2
  go_ret
  exact ⟨rfl, rfl⟩
theorem row_keepO {S : Nat → Prop} {A B : World} {k : Nat} {o : Obj} (h : A.heap[k]? = some o) (hm : Moves S A B) (hn : ¬ S k) : B.heap[k]? = some o := (hm.block _ (Array.getElem?_eq_some_iff.1 h).1 hn).trans h
def RchdQ (L : List Nat) (er : Value) (w : World) (e : Ending) (w' : World) : Prop := ∃ o' cap', e = .returned (.tuple #[.slice o' L.length cap', er]) ∧ NumsAt w' o' (natsZ L) ∧ Below w.heap.size w w'
theorem met_startN {W3 W4 W6 : World} {m : MachX} {n : Int} {M B wb : Nat} (hM : W3.heap.size ≤ M) (hB : W3.heap.size ≤ B) (hMB : M ≠ B) (hp : PlacesN W4 M [0]) (hr : W4.heap[B]? = some (.cells #[.int .i64 0] 3 (0, 0))) (b4 : Below W3.heap.size W3 W4)
    (hwk : W3.heap[wb]? = some (wkrO m n)) (hW : ((W4.alloc (.cells #[.map (some M), .slice (some ⟨B, 0, none⟩) 1 1] 119)).alloc (.cells #[.pointer (some ⟨W4.heap.size, 0, none⟩)] 163)) = W6) :
    RchQ W3 m n W4.heap.size M wb (W4.heap.size + 1) [0] (some ⟨B, 0, none⟩) 1 (fun _ => False) W6 := by
  obtain ⟨W5, hW5⟩ : ∃ W5, W4.alloc (.cells #[.map (some M), .slice (some ⟨B, 0, none⟩) 1 1] 119) = W5 := ⟨_, rfl⟩
  rw [hW5] at hW
  have b5 : Below W4.heap.size W4 W5 := by rw [← hW5]; exact (Below.refl _ _).alloc (Nat.le_refl _) _
  have z5 : W5.heap.size = W4.heap.size + 1 := by rw [← hW5]; simp
  have r5 : W5.heap[W4.heap.size]? = some (.cells #[.map (some M), .slice (some ⟨B, 0, none⟩) 1 1] 119 (0, 0)) := by rw [← hW5]; exact heap_alloc_new _ _
  have b6 : Below W5.heap.size W5 W6 := by rw [← hW]; exact (Below.refl _ _).alloc (Nat.le_refl _) _
  have r6 : W6.heap[W4.heap.size + 1]? = some (.cells #[.pointer (some ⟨W4.heap.size, 0, none⟩)] 163 (0, 0)) := by rw [← hW, ← z5]; exact heap_alloc_new _ _
  have b46 := b5.trans (b6.mono b5.size)
  have lM := hp.lt
  have lB := (Array.getElem?_eq_some_iff.1 hr).1
  have z4 := b4.size
  refine ⟨⟨⟨by omega, by have := b46.size; omega⟩, row_below r5 b6, hp.below b46, ⟨rfl, .inr ⟨B, 1, #[.int .i64 0], rfl, hB, row_below hr b46, Nat.le_refl _, by decide, rfl, rfl⟩⟩, fun k hk => ?_⟩, row_below hwk (b4.trans (b46.mono z4)), r6, b4.trans (b46.mono z4), ⟨by omega, hM⟩, ⟨id, id, id, id⟩, fun _ _ => id, fun _ h => h.elim, fun _ h => h.elim⟩
  have : B = k := by simpa [Value.ownBlock] using hk
  exact ⟨by omega, by omega⟩
set_option maxRecDepth 100000 in
set_option maxHeartbeats 4000000 in
theorem reached_right (m : MachX) (N : Nat) (hB : m.B (N : Nat) = true) (w : World) (aR aM : Addr) (hG : GlobD w aR aM) (hM : MachD w m) :
    Calls Tryz.prog 57 #[m.v, .int .i64 (N : Nat)] w (RchdQ (reachL (m.rows.map (·.2.1)) N) .nilIface w) := by
  have hB' : machB (m.rows.map (·.2.1)) m.fits ((N : Nat) : Int) = true := hB
  obtain ⟨h1n, h32n, h1r, h300, hrf, _, _⟩ := machB_parts hB'
  rw [List.length_map] at h1r h300 hrf
  obtain ⟨no, rows, nc, fo, fits, fc⟩ := m
  simp only at h1r h300 hrf hB' ⊢
  refine (callsIn_wide (n := 6)).1 ?_
  have h1 : 1 ≤ 6 := by omega
  refine callsIn_of_wp_marks Tryz.func57 rfl trivial ?_ rfl
  simp only [Tryz.ntmps57, List.size_toArray, List.length_cons, List.length_nil, Nat.reduceAdd, Nat.reduceSub, Array.replicate_succ, Array.replicate_zero, List.push_toArray, List.append_toArray, List.nil_append, List.cons_append]
  obtain ⟨R, hR⟩ : ∃ R, rows.map (·.2.1) = R := ⟨_, rfl⟩
  rw [hR] at hB' ⊢
  obtain ⟨LL, hLL⟩ : ∃ L, reachL R N = L := ⟨_, rfl⟩
  have HLL := Lib.hid hLL
  rw [hLL]
  obtain ⟨P, hP⟩ : ∃ P, RchdQ LL .nilIface w = P := ⟨_, rfl⟩
  have HP := Lib.hid hP
  rw [hP]
  have hRl : R.length = rows.length := by rw [← hR, List.length_map]
  obtain ⟨w1, hw1⟩ : ∃ w1, w.alloc (.cells #[.slice no rows.length nc, .slice fo fits.length fc] 28 (0, 0)) = w1 := ⟨_, rfl⟩
  have b1 : Below w.heap.size w w1 := by rw [← hw1]; exact (Below.refl _ _).alloc (Nat.le_refl _) _
  have r1 : w1.heap[w.heap.size]? = some (.cells #[.slice no rows.length nc, .slice fo fits.length fc] 28 (0, 0)) := by rw [← hw1]; exact heap_alloc_new _ _
  obtain ⟨c0, c1⟩ := mac_cells r1
  have l1 := World.block_lt_of_cell? w1 _ c0
  have HR0 := walkerOf_any ⟨no, rows, nc, fo, fits, fc⟩ ((N : Nat) : Int) w1 aR aM (hG.below b1) (hM.below b1) (by show rows.length ≤ _; omega) (by show fits.length ≤ _; omega)
  unfold WlkR at HR0
  rw [if_pos hB] at HR0
  have HMD := Lib.hid hM
  have HB1 := Lib.hid b1
  have HBB := Lib.hid hB'
  have HRR := Lib.hid hR
  have HRL := Lib.hid hRl
  have HNN : Hid (1 ≤ rows.length ∧ rows.length ≤ 300 ∧ N ≤ 32) := Lib.hid ⟨h1r, h300, by omega⟩
  have HW1 := Lib.hid hw1
  obtain ⟨q, hq⟩ : ∃ q, rows.length = q := ⟨_, rfl⟩
  obtain ⟨f, hf⟩ : ∃ f, fits.length = f := ⟨_, rfl⟩
  have HQ := Lib.hid hq
  have HF := Lib.hid hf
  rw [hq] at c0 HW1 HNN
  rw [hf] at c1 HW1
  have HR : Hid (Calls Tryz.prog 83 #[.agg #[.slice no q nc, .slice fo f fc], .int .i64 (N : Nat)] w1 fun e w' => e = .returned (.tuple #[.agg #[.slice no q nc, .slice fo f fc, .int .i64 (N : Nat)], .nilIface]) ∧ Below w1.heap.size w1 w') := Lib.hid (by rw [← hq, ← hf]; exact HR0)
  have hall : (finN R N).length ≤ 100000 := by
    have := met_le hB' (300 * (N + 1))
    show (metN R N (300 * (N + 1))).length ≤ _
    omega
  have HALL := Lib.hid hall
  show Code.wpIn _ _ _ _ _ { tmps := #[.agg #[.slice no rows.length nc, .slice fo fits.length fc], _, _, _, _, _, _, _, _, _, _, _, _, _, _, _, _, _, _, _, _, _, _, _, _, _, _, _, _, _, _, _, _, _, _, _, _, _, _, _, _, _, _, _], defers := _ } _
  rw [hq, hf]
  clear hP hLL hw1 b1 r1 hB hB' hG hM hR hRl hq hf HR0 h1n h32n h1r h300 hrf hall
  gi_wp2_with fail
  rw [HW1.out]
  refine ⟨trivial, (callsIn_wide.2 HR.out).mono ?_⟩
  rintro e W2 ⟨rfl, b2⟩
  obtain ⟨W3, hW3⟩ : ∃ W3, W2.alloc (.cells #[.slice no q nc, .slice fo f fc, .int .i64 (N : Nat)] 77) = W3 := ⟨_, rfl⟩
  have b3 : Below W2.heap.size W2 W3 := by rw [← hW3]; exact (Below.refl _ _).alloc (Nat.le_refl _) _
  have z3 : W3.heap.size = W2.heap.size + 1 := by rw [← hW3]; simp
  have r3 : W3.heap[W2.heap.size]? = some (.cells #[.slice no q nc, .slice fo f fc, .int .i64 (N : Nat)] 77 (0, 0)) := by rw [← hW3]; exact heap_alloc_new _ _
  have B2 := HB1.out.trans (b2.mono HB1.out.size)
  have HB3 := Lib.hid (B2.trans (b3.mono B2.size))
  have HMW := Lib.hid (metWith_anyN W3)
  unfold MetRN at HMW
  have HW3 := Lib.hid hW3
  have HR3 := Lib.hid r3
  have HZ3 := Lib.hid z3
  clear b2 hW3 b3 z3 r3 B2 c0 c1 l1
  gi_wp2_with fail
  rw [HW3.out]
  refine ⟨trivial, (callsIn_wide.2 HMW.out).mono ?_⟩
  rintro e W4 ⟨M, B, rfl, hM4, hB4, hMB, hpl, hrow, b4⟩
  obtain ⟨W5, hW5⟩ : ∃ W5, W4.alloc (.cells #[.map (some M), .slice (some ⟨B, 0, none⟩) 1 1] 119) = W5 := ⟨_, rfl⟩
  have z5 : W5.heap.size = W4.heap.size + 1 := by rw [← hW5]; simp
  obtain ⟨W6, hW6⟩ : ∃ W6, W5.alloc (.cells #[.pointer (some ⟨W4.heap.size, 0, none⟩)] 163) = W6 := ⟨_, rfl⟩
  have hS := met_startN (m := ⟨no, rows, nc, fo, fits, fc⟩) (n := ((N : Nat) : Int)) (W6 := W6) hM4 hB4 hMB hpl hrow b4 (by rw [HR3.out, ← HQ.out, ← HF.out]) (by rw [hW5, hW6])
  have HSQ := Lib.hid (seqNumsN (cb := W4.heap.size + 1) (G := W4.heap.size) (all := finN R N) HALL.out hS.ev)
  have HEA := Lib.hid (eachN_any W4.heap.size W5)
  rw [z5] at HEA
  have z6 : W6.heap.size = W4.heap.size + 2 := by rw [← hW6]; simp; omega
  have HS := Lib.hid hS
  have HW5 := Lib.hid hW5
  have HW6 := Lib.hid hW6
  have HZ6 := Lib.hid z6
  have HZ4 : Hid (W3.heap.size ≤ W4.heap.size) := Lib.hid b4.size
  clear hM4 hB4 hMB hpl hrow b4 hW5 z5 hW6 z6 hS
  gi_wp2_with fail
  rw [HW5.out]
  gi_wp2_with fail
  refine ⟨trivial, (callsIn_wide.2 HEA.out).mono ?_⟩
  rintro e W6' ⟨rfl, hW6'⟩
  rw [HW6.out] at hW6'
  subst hW6'
  gi_wp2_with fail
  have hz6 := HZ6.out
  refine wpIn_seqV (n := 6) (Ow := fun _ => False) (Dep := fun k => k = W4.heap.size + 1) (encs := fun s : Nat => #[.int .i64 ((s : Nat) : Int)]) (all := finN R N) (by omega) rfl (enters_of Tryz.func123 (by kernel_rfl) rfl) (fun x => rfl) HSQ.out
    (fun k h => h.elim) (fun k h => by omega)
    (fun X pre W => ∃ ao ac, RchQ W3 ⟨no, rows, nc, fo, fits, fc⟩ ((N : Nat) : Int) W4.heap.size M W2.heap.size (W4.heap.size + 1) (metN R N (pre.length * (N + 1))) ao ac X W ∧ pre <+: finN R N ∧ pre.length ≤ (metN R N (pre.length * (N + 1))).length) ?hV
    (fun _ _ _ _ => False) ?hI (fun _ _ _ _ _ _ h _ _ => h) ⟨_, _, by simpa [metN] using HS.out, List.nil_prefix, Nat.zero_le _⟩
    (fun _ x => { tmps := #[.agg #[.slice no q nc, .slice fo f fc], .int .i64 (N : Nat), .pointer (some ⟨w.heap.size, 0, none⟩), undef, .slice none 0 0, .nilIface, .pointer (some ⟨W2.heap.size, 0, none⟩), .nilIface, .pointer (some ⟨W4.heap.size, 0, none⟩), .int .i64 (x : Nat), undef, undef, .tuple #[.agg #[.slice no q nc, .slice fo f fc, .int .i64 (N : Nat)], .nilIface], .agg #[.slice no q nc, .slice fo f fc], .int .i64 (N : Nat), .tuple #[.agg #[.slice no q nc, .slice fo f fc, .int .i64 (N : Nat)], .nilIface], .agg #[.slice no q nc, .slice fo f fc, .int .i64 (N : Nat)], .nilIface, .nilIface, .bool false, undef, .agg #[.map (some M), .slice (some ⟨B, 0, none⟩) 1 1], .func (.func 123) #[] #[.pointer (some ⟨W4.heap.size + 1, 0, none⟩)], .int .i64 (x : Nat), undef, undef, undef, undef, undef, undef, undef, undef, undef, undef, undef, undef, undef, undef, undef, undef, undef, undef, undef, undef], defers := [] })
    (fun A _ B => A = B) (fun A x B h => by rw [h]; exact Moves.refl _ _) ?assign ?body ?done ?stop
  case hV =>
    rintro X xs A ⟨ao, ac, h1, h2, h3⟩
    have h4 := met_le HBB.out (xs.length * (N + 1))
    have h5 := HRL.out
    have h6 := HNN.out
    have h7 := HQ.out
    exact h1.met.view (by omega) (view_runN h2 rfl (by omega) h3)
  case hI =>
    rintro X X' ys A C ⟨ao, ac, h1, h2, h3⟩ hm hX
    exact ⟨ao, ac, h1.moves hm hX, h2, h3⟩
  case assign =>
    rintro l2 x A K hK
    clear hz6
    gi_wp2
    first | exact hK _ rfl | rfl
  case body =>
    rintro lp X pre s Aw A' W1 hA1 hpx rfl hm hXn hXn1 hXlt _ ⟨ao, ac, hI, hp2, hge⟩
    obtain ⟨i, hi⟩ : ∃ i, pre.length = i := ⟨_, rfl⟩
    rw [hi] at hI hge
    have hle := met_le HBB.out (i * (N + 1))
    have hrl := HRL.out
    have hnn := HNN.out
    have hqq := HQ.out
    obtain ⟨hat, hiA⟩ := view_atN hpx hi (by omega) hge
    have hsR : s < R.length := met_lt HBB.out _ s (List.mem_of_getElem? hat)
    obtain ⟨x, hx⟩ : ∃ x, rows[s]? = some x := ⟨_, List.getElem?_eq_getElem (by omega)⟩
    have hRx : R[s]? = some x.2.1 := by rw [← HRR.out, List.getElem?_map, hx]; rfl
    have hxl : x.2.1.length = N + 1 := by
      obtain ⟨r, v, e1, e2, _⟩ := way_ltN HBB.out hsR (Nat.zero_le N)
      rw [hRx] at e1
      rw [Option.some.inj e1]
      exact e2
    have hMW := HMD.out.below HB3.out
    obtain ⟨rg, roff, hro, hrc⟩ := hMW.rows (by show 0 < rows.length; omega)
    have k1 := cell_keepQ hI.bel (hrc s x hx)
    obtain ⟨xg, xoff, hxo, hxc⟩ := hMW.row x (List.mem_of_getElem? hx) (by omega)
    obtain ⟨e0, e1, e2⟩ := wkr_cells hI.wk
    have hXW : ∀ k, X k → k < W1.heap.size := fun k hk => by have := hXlt k hk; have := hm.size; omega
    obtain ⟨q0, hq0⟩ : ∃ q0, i * (N + 1) = q0 := ⟨_, rfl⟩
    rw [hq0] at hI hat
    have HXC : Hid (∀ c, c < N + 1 → ∃ v : Nat, (∀ W, Below W3.heap.size W3 W → W.cell? ⟨xg, xoff + c, none⟩ = some (.int .i64 ((v : Nat) : Int))) ∧ v ≤ 1000 ∧ metN R N (q0 + (c + 1)) = if v ∈ metN R N (q0 + c) then metN R N (q0 + c) else metN R N (q0 + c) ++ [v]) := Lib.hid fun c hc => by
      obtain ⟨r, v, e1, e2, e3, e4, e5⟩ := way_ltN HBB.out hsR (c := c) (by omega)
      rw [hRx] at e1
      obtain rfl := Option.some.inj e1
      have hcell := hxc c _ e3
      refine ⟨v, fun W hb => cell_keepQ hb hcell, by omega, ?_⟩
      obtain ⟨d1, d2⟩ := place_div (n := N) (i := i) (c := c) (by omega)
      rw [hq0] at d1 d2
      have := met_next (R := R) (n := N) (q := q0 + c) (s := s) (by rw [d1]; exact prefix_get (met_prefix R N (by omega)) hat)
      rw [d2, e4] at this
      exact this
    have HME : Hid (∀ c, (metN R N (q0 + c)).length ≤ 300) := Lib.hid fun c => by have := met_le HBB.out (q0 + c); omega
    have HEND : Hid (∀ ao' ac' w7, RchQ W3 ⟨no, rows, nc, fo, fits, fc⟩ ((N : Nat) : Int) W4.heap.size M W2.heap.size (W4.heap.size + 1) (metN R N (q0 + (N + 1))) ao' ac' X w7 → ∃ ao ac, RchQ W3 ⟨no, rows, nc, fo, fits, fc⟩ ((N : Nat) : Int) W4.heap.size M W2.heap.size (W4.heap.size + 1) (metN R N ((pre ++ [s]).length * (N + 1))) ao ac X w7 ∧ pre ++ [s] <+: finN R N ∧ (pre ++ [s]).length ≤ (metN R N ((pre ++ [s]).length * (N + 1))).length) := Lib.hid fun ao' ac' w7 h7 => by
      have hln : (pre ++ [s]).length * (N + 1) = q0 + (N + 1) := by rw [List.length_append, List.length_singleton, hi, Nat.succ_mul, hq0]
      rw [hln]
      refine ⟨ao', ac', h7, hpx, ?_⟩
      have := met_len R N (show q0 ≤ q0 + (N + 1) by omega)
      rw [List.length_append, List.length_singleton, hi]
      rw [hq0] at hiA
      omega
    obtain ⟨xo, xs, xc⟩ := x
    simp only at hxo hxl k1
    rw [hxl] at k1
    subst hxo
    rw [hro] at e0
    rw [hqq] at e0
    have hHI := Lib.hid hI
    have hsq : s < q := by omega
    have hs6 : s < 1000000 := by omega
    have lk1 := World.block_lt_of_cell? W1 _ k1
    have le0 := World.block_lt_of_cell? W1 _ e0
    clear hA1 hpx hm hXn hXn1 hXlt hI hp2 hge hi hle hrl hnn hqq hat hiA hsR hx hRx hxl hMW hrc hxc hq0 hXW hz6 HSQ HS hro e1 e2
    gi_wp2_with fail
    clear e0 k1 lk1 le0
    gi_loopg [31] (N + 1) (fun k v wr => ∃ (c : Nat) (ao : Option Addr) (ac : Nat), v = .int .i64 (c : Nat) ∧ c ≤ N + 1 ∧ k = N + 1 - c ∧ Hid (RchQ W3 ⟨no, rows, nc, fo, fits, fc⟩ ((N : Nat) : Int) W4.heap.size M W2.heap.size (W4.heap.size + 1) (metN R N (q0 + c)) ao ac X wr) ∧ Hid (Moves (fun k => ¬ X k ∧ ¬ k = W4.heap.size + 1) W1 wr))
    case atStart => exact ⟨0, ao, ac, rfl, Nat.zero_le _, rfl, hHI, Lib.hid (Moves.refl _ _)⟩
    case round =>
      obtain ⟨c, ao2, ac2, rfl, hc, rfl, HI2, HM2⟩ := hrel
      rcases Nat.lt_or_ge c (N + 1) with hlt | hge
      · have d1 : decide (((c : Nat) : Int) < ((N : Nat) : Int) + 1) = true := decide_eq_true (by omega)
        obtain ⟨v, hv, hv1, hmt⟩ := HXC.out c hlt
        have k2 := hv wr HI2.out.bel
        have lk2 := World.block_lt_of_cell? wr _ k2
        have HNM := number_anyN _ _ M ac2 ao2 (metN R N (q0 + c)) v (by omega) (by have := HME.out c; omega) wr HI2.out.met
        rw [← hmt] at HNM
        have HNM := Lib.hid HNM
        have hcm : c < 1000000 := by have := HNN.out; omega
        clear hv hmt
        gi_wp2_with fail
        refine ⟨trivial, CallsIn.inRound lp ((callsIn_wide.2 HNM.out).mono ?_)⟩
        rintro e w5 hN5
        obtain ⟨⟨u, rfl⟩, ao3, ac3, hI5, hm5⟩ := HI2.out.num hN5
        have HI5 := Lib.hid hI5
        have HM5 := Lib.hid (HM2.out.trans hm5)
        clear hN5 hI5 hm5
        gi_wp2_with fail
        gi_roundg (N + 1 - (c + 1))
        case measure => omega
        case rel => exact ⟨c + 1, ao3, ac3, by simp, by omega, rfl, HI5, HM5⟩
      · obtain rfl : c = N + 1 := by omega
        have d1 : decide (((N : Nat) : Int) + 1 < ((N : Nat) : Int) + 1) = false := decide_eq_false (by omega)
        have HX := Lib.hid (HEND.out ao2 ac2 wr HI2.out)
        gi_wp2
        exact ⟨HM2.out, HX.out⟩
  case done =>
    rintro X D W hD hXD ⟨ao, ac, hI, _, hge⟩ hX hK
    have hle := met_le HBB.out ((finN R N).length * (N + 1))
    have hrl := HRL.out
    have hnn := HNN.out
    have hqq := HQ.out
    have hend := (finN_end HBB.out).2.2
    rw [hend] at hI hge
    have hMZ : (finN R N).map (fun s : Nat => (Value.int .i64 ((s : Nat) : Int))) = (natsZ (finN R N)).map (Value.int .i64) := by simp only [natsZ, List.map_map, Function.comp_def]
    have hall := hI.met.all
    rw [hMZ] at hall
    obtain ⟨k, hk⟩ : ∃ k, (finN R N).length = k := ⟨_, rfl⟩
    have hk2 : (natsZ (finN R N)).length = k := by rw [List.length_map, hk]
    have hk1 : 1 ≤ k := by rw [← hk]; exact met_pos R N _
    have hkr : LL.length = k := by rw [← hk, ← HLL.out]; exact (reach_perm HBB.out).length_eq.symm
    have hk300 : k ≤ 300 := by rw [hend, hk] at hle; omega
    rw [hk] at hall
    obtain ⟨g, rfl⟩ : ∃ g, ao = some ⟨g, 0, none⟩ := by
      obtain ⟨g, hg, _⟩ := row_placeK hall (by omega)
      exact ⟨g, hg⟩
    have hcap : k ≤ ac := by
      rcases hall.2 with ⟨h0, _⟩ | ⟨g2, cp2, cu2, h0, _, _, h3, _⟩
      · cases h0
      · have e2 : ac = cp2 := by injection h0
        omega
    have hsrt := sort_ownD (zs := natsZ (finN R N)) (cap := ac) (g := g) (w := W) (base := W3.heap.size) (by rw [hk2]; exact hall) (by omega)
    rw [reach_sort HBB.out, hk2, HLL.out] at hsrt
    have d1 := (two_cells hI.met.row).2
    rw [hk] at d1
    have lG := World.block_lt_of_cell? W _ d1
    have hgG := (hI.met.sep g rfl).1
    have hrow := hI.met.row
    rw [hk] at hrow
    have hgD : g ≠ D := fun e => hI.sX g rfl (e ▸ hXD)
    have hDlo := hI.loX D hXD
    have hbW := hI.bel
    have hgl : W3.heap.size ≤ g := own_rowD' hall rfl
    have HSRT := Lib.hid hsrt
    have HROW := Lib.hid hrow
    have FIN : Hid (∀ W7, W7.ownsRow W3.heap.size 3 1 (.slice (some ⟨g, 0, none⟩) k ac) k ((natsZ LL).map (Value.int .i64)) → Moves (fun q => q = g) W W7 → P (.returned (.tuple #[.slice (some ⟨g, 0, none⟩) k k, .nilIface])) (W7.putObj D (.deferred none))) := Lib.hid fun W7 h7 m7 => by
      have mp : Moves (fun q => q = D) W7 (W7.putObj D (.deferred none)) := Moves.putObj rfl
      have hb7 := Moves.below hbW hbW.size m7 (fun q hq => by omega)
      have hb8 := Moves.below hb7 hb7.size mp (fun q hq => by omega)
      rw [← HP.out]
      refine ⟨some ⟨g, 0, none⟩, k, by rw [hkr], ?_, HB3.out.trans (hb8.mono HB3.out.size)⟩
      · intro _
        obtain ⟨g2, hg2, hcs⟩ := row_placeK h7 (by omega)
        cases hg2
        refine ⟨g, 0, rfl, fun j x hx => ?_⟩
        rw [Nat.zero_add]
        have hcell := hcs j (.int .i64 x) (by rw [List.getElem?_map, hx]; rfl)
        have hgW := (h7.lt g rfl).2
        exact (World.cell?_of_block (w := W7) (mp.block g hgW hgD)).trans hcell
    have HK := Lib.hid hK
    have HDW : Hid (∀ W7, Moves (fun q => q = g) W W7 → W7.heap[D]? = some (.deferred (some []))) := Lib.hid fun W7 m7 => row_keepO hK m7 (fun e => hgD e.symm)
    clear hI hge hX hK hXD hD hle hrl hnn hqq hend hMZ hall hk hk2 hkr hsrt hrow hgD hDlo hbW hgl hz6 HSQ HS
    gi_wp2_with fail
    refine ⟨trivial, (callsIn_wide.2 HSRT.out).mono ?_⟩
    rintro e W7 ⟨rfl, h7, m7⟩
    have r7 := row_keep HROW.out m7 (fun e => hgG e.symm)
    have d7 := (two_cells r7).2
    have lG7 := World.block_lt_of_cell? W7 _ d7
    have HF7 := Lib.hid (FIN.out W7 h7 m7)
    have HK7 := Lib.hid (HDW.out W7 m7)
    have HCL := Lib.hid (clip_any g k ac hcap W7)
    clear h7 m7 r7 d1 lG
    gi_wp2_with fail
    refine ⟨trivial, (callsIn_wide.2 HCL.out).mono ?_⟩
    rintro e _ ⟨rfl, rfl⟩
    gi_wp2
    refine ⟨by simp, .inl ⟨_, _, rfl, run_takeDeferred HK7.out, ?_⟩⟩
    exact ⟨_, results_tmp2 (t := 4) (u := 5) rfl _ _ _, HF7.out⟩
  case stop =>
    rintro X D c pre W _ _ _ h
    exact h.elim
end Go.Proofs.YtaoooocalpkhjaaGreatDoor
namespace Go.Proofs.YtaoooocalpkhjaaGreatDoor
open Go.RowKit Go.Shelf Go.Maps

theorem place_next {i n c : Nat} (hc : c ≤ n) : (i * (n + 1) + c) / (n + 1) = i ∧ (i * (n + 1) + c) % (n + 1) = c := by
  have h := place_div (n := n) (i := i) hc
  exact h
end Go.Proofs.YtaoooocalpkhjaaGreatDoor
namespace Go.Proofs.YtaoooocalpkhjaaGreatDoor
open Go.RowKit Go.Shelf Go.Maps

theorem int_ownB {W : World} {base k : Nat} {v : Value} {xs : List Value} (q : Int) (ho : W.ownsRow base 3 1 v k xs) (hk : k ≤ 2000000) (hbase : base ≤ W.heap.size) :
    ∃ g cap w6, (appSem #[34, 34] 34 #[v, .slice (some ⟨W.heap.size, 0, none⟩) 1 1]).run Tryz.prog (W.alloc (.cells #[.int .i64 q] 3)) = .ok (.slice (some ⟨g, 0, none⟩) (k + 1) cap) w6 ∧
      w6.ownsRow base 3 1 (.slice (some ⟨g, 0, none⟩) (k + 1) cap) (k + 1) (xs ++ [.int .i64 q]) ∧ (W.alloc (.cells #[.int .i64 q] 3)).grownBy w6 v.ownBlock := by
  obtain ⟨i0, hi, hz0, hz1, hz2⟩ := info_parts infoIntH
  have hb : Below W.heap.size W (W.alloc (.cells #[.int .i64 q] 3)) := (Below.refl _ _).alloc (Nat.le_refl _) _
  obtain ⟨v', w6, hr, h2, h3, h4, h5⟩ := run_append_own_at (P := Tryz.prog) _ base 34 34 3 i0 (.int .i64 0) 1 8 Tryz.underlying34 hi hz0 hz1 hz2 rfl (by decide) v k xs (own_below ho hb) ⟨W.heap.size, 0, none⟩ 1 1 [.int .i64 q] rfl
    (cell_one_new _ _ _) (by simp [Value.oneCell']) (by unfold maxLen; omega) (by omega) (by simp; omega)
  obtain ⟨g, cap, rfl⟩ := ownsRow_succ h2
  exact ⟨g, cap, w6, hr, h2, h3⟩
end Go.Proofs.YtaoooocalpkhjaaGreatDoor
namespace Go.Proofs.YtaoooocalpkhjaaGreatDoor
open Go.RowKit Go.Shelf Go.Maps
attribute [local go_sem] Oper.semAt_some
attribute [local go_sem ↓] app_hide

theorem own_oneD {w : World} {e : TypeId} (u : Value) {base : Nat} (hb : base ≤ w.heap.size) : (w.alloc (.cells #[u] e)).ownsRow base e 1 (.slice (some ⟨w.heap.size, 0, none⟩) 1 1) 1 [u] :=
  ⟨rfl, .inr ⟨w.heap.size, 1, #[u], rfl, hb, heap_alloc_new _ _, Nat.le_refl _, by unfold maxLen; omega, rfl, rfl⟩⟩
theorem all_takeD {R : List (List Int)} {n : Int} {L : List Int} {j : Nat} {c : Int} {v : Nat} (h : L[j]? = some c) (hv : nextD R n (stD' R n (L.take j)) c = v) :
    ((allD R n L).take (j + 2)).map (fun s : Nat => Value.int .i64 ((s : Nat) : Int)) = ((allD R n L).take (j + 1)).map (fun s : Nat => Value.int .i64 ((s : Nat) : Int)) ++ [.int .i64 ((v : Nat) : Int)] := by
  have hj := (List.getElem?_eq_some_iff.1 h).1
  rw [List.take_add_one, allD_at R n L (show j + 1 ≤ L.length by omega), stD'_snoc h, hv, List.map_append]
  rfl
set_option maxRecDepth 100000 in
set_option maxHeartbeats 4000000 in
theorem refGo_right (m : MachX) (n : Nat) (lo : Option Addr) (L : List Int) (lcap : Nat) (hB : m.B (n : Nat) = true) (hll : L.length ≤ 1000) (w : World) (hM : MachD w m) (hL : NumsAt w lo L)
    (HR : ∀ W, Below w.heap.size w W → Calls Tryz.prog 23 #[m.v, .int .i64 (n : Nat)] W fun e w' => e = .returned (.bool (m.B (n : Nat))) ∧ Below W.heap.size W w') :
    Calls Tryz.prog 17 #[m.v, .int .i64 (n : Nat), .slice lo L.length lcap] w fun e w' => ∃ o' cap', e = .returned (.tuple #[.slice o' (L.length + 1) cap', .int .i64 0]) ∧ w'.ownsRow (w.heap.size + 1) 3 1 (.slice o' (L.length + 1) cap') (L.length + 1) ((allD (m.rows.map (·.2.1)) ((n : Nat) : Int) L).map (fun s : Nat => Value.int .i64 ((s : Nat) : Int))) ∧ Below w.heap.size w w' := by
  obtain ⟨P, hP⟩ : ∃ P, (fun (e : Ending) (w' : World) => ∃ o' cap', e = .returned (.tuple #[.slice o' (L.length + 1) cap', .int .i64 0]) ∧ w'.ownsRow (w.heap.size + 1) 3 1 (.slice o' (L.length + 1) cap') (L.length + 1) ((allD (m.rows.map (·.2.1)) ((n : Nat) : Int) L).map (fun s : Nat => Value.int .i64 ((s : Nat) : Int))) ∧ Below w.heap.size w w') = P := ⟨_, rfl⟩
  have HP := Lib.hid hP
  rw [hP]
  obtain ⟨w1, hw1⟩ : ∃ w1, w.alloc (.cells #[.slice m.no m.rows.length m.nc, .slice m.fo m.fits.length m.fc] 28) = w1 := ⟨_, rfl⟩
  have b1 : Below w.heap.size w w1 := by rw [← hw1]; exact (Below.refl _ _).alloc (Nat.le_refl _) _
  have r1 : w1.heap[w.heap.size]? = some (.cells #[.slice m.no m.rows.length m.nc, .slice m.fo m.fits.length m.fc] 28 (0, 0)) := by rw [← hw1]; exact heap_alloc_new _ _
  have HR1 := HR w1 b1
  rw [hB] at HR1
  have HRG := Lib.hid HR1
  have HROW := Lib.hid hM.rows
  have HNUM := Lib.hid hM.row
  have HBB : Hid (machB (m.rows.map (·.2.1)) m.fits ((n : Nat) : Int) = true) := Lib.hid hB
  have HR1 := Lib.hid r1
  have HB1 := Lib.hid b1
  have HLN := Lib.hid hL
  obtain ⟨no, rows, nc, fo, fits, fc⟩ := m
  obtain ⟨RR, hRR⟩ : ∃ RR, rows.map (·.2.1) = RR := ⟨_, rfl⟩
  simp only at HP HRG HROW HNUM HBB HR1 hw1 ⊢
  have HRR := Lib.hid hRR
  rw [hRR] at HP HBB
  have HL1 : Hid (w.heap.size < w1.heap.size) := Lib.hid (by rw [← hw1]; simp)
  obtain ⟨q, hq⟩ : ∃ q, rows.length = q := ⟨_, rfl⟩
  obtain ⟨f, hf⟩ : ∃ q, fits.length = q := ⟨_, rfl⟩
  obtain ⟨k, hk⟩ : ∃ q, L.length = q := ⟨_, rfl⟩
  have HQ := Lib.hid hq
  have HK := Lib.hid hk
  have hRl : RR.length = q := by rw [← hRR, List.length_map, hq]
  have HRL := Lib.hid hRl
  simp only [MachX.v, hq, hf] at HRG HR1 hw1 ⊢
  rw [hk] at HP hll ⊢
  have HW1 := Lib.hid hw1
  clear hP hB hM hL HR hRR hq hf hk hw1 b1 r1 hRl
  obtain ⟨c0, c1⟩ := mac_cells HR1.out
  have l1 := World.block_lt_of_cell? w1 _ c0
  go_enter Tryz.func17, Tryz.ntmps17
  go_wp2_with fail
  rw [HW1.out]
  refine HRG.out.mono ?_
  rintro e w2 ⟨rfl, b2⟩
  have HB2 := Lib.hid (HB1.out.trans (b2.mono HB1.out.size))
  obtain ⟨w3, hw3⟩ : ∃ w3, w2.alloc (.cells #[.int .i64 0] 3) = w3 := ⟨_, rfl⟩
  have b3 : Below w2.heap.size w2 w3 := by rw [← hw3]; exact (Below.refl _ _).alloc (Nat.le_refl _) _
  have HO3 : Hid (w3.ownsRow (w.heap.size + 1) 3 1 (.slice (some ⟨w2.heap.size, 0, none⟩) 1 1) 1 [.int .i64 0]) := Lib.hid (by rw [← hw3]; exact own_oneD _ (by have h1 := b2.size; have h2 := HL1.out; omega))
  have HB3 := Lib.hid (HB2.out.trans (b3.mono HB2.out.size))
  have HW3 := Lib.hid hw3
  have HM4 : Hid (w3.heap[w.heap.size]? = some (.cells #[.slice no q nc, .slice fo f fc] 28 (0, 0))) := Lib.hid (row_below HR1.out (b2.trans (b3.mono b2.size)))
  have hz3 : w.heap.size < w3.heap.size := by have h1 := b2.size; have h2 := b3.size; omega
  clear b2 b3 hw3 c0 c1 l1 HRG
  go_wp2_with fail
  rw [HW3.out]
  go_loopg [8, 9, 10] k (fun d v8 v9 v10 wr => ∃ (j : Nat) (ro : Option Addr) (rc : Nat), v10 = .int .i64 (j : Nat) ∧ v8 = .slice ro (j + 1) rc ∧ v9 = .int .i64 ((stD' RR n (L.take j) : Nat) : Int) ∧ j ≤ k ∧ d = k - j ∧ Hid (wr.ownsRow (w.heap.size + 1) 3 1 (.slice ro (j + 1) rc) (j + 1) (((allD RR n L).take (j + 1)).map (fun s : Nat => Value.int .i64 ((s : Nat) : Int)))) ∧ Hid (Below (w.heap.size + 1) w3 wr))
  case atStart =>
    have h0 : ((allD RR n L).take (0 + 1)).map (fun s : Nat => Value.int .i64 ((s : Nat) : Int)) = [.int .i64 0] := by
      rw [List.take_add_one, allD_at RR n L (Nat.zero_le _)]
      rfl
    exact ⟨0, _, _, rfl, rfl, rfl, Nat.zero_le _, rfl, Lib.hid (by rw [h0]; exact HO3.out), Lib.hid (Below.refl _ _)⟩
  case round =>
    obtain ⟨j, ro, rc, rfl, rfl, rfl, hj, rfl, HO, HB⟩ := hrel
    have hsz := HB.out.size
    have hbw : Below w.heap.size w wr := HB3.out.trans (HB.out.mono (by omega))
    rcases Nat.lt_or_ge j k with hlt | hge
    · have hj1 : j < 1000000 := by omega
      obtain ⟨c, hc⟩ : ∃ c, L[j]? = some c := ⟨_, List.getElem?_eq_getElem (by rw [HK.out]; exact hlt)⟩
      obtain ⟨h1n, h32n, h1q, h300, _, _, _⟩ := machB_parts HBB.out
      rw [HRL.out] at h1q h300
      obtain ⟨s, hs⟩ : ∃ s, stD' RR ((n : Nat) : Int) (L.take j) = s := ⟨_, rfl⟩
      have hsq : s < q := by rw [← hs, ← HRL.out]; exact st_lt HBB.out (L.take j) 0 (by rw [HRL.out]; omega)
      obtain ⟨x, hx⟩ : ∃ x, rows[s]? = some x := ⟨_, List.getElem?_eq_getElem (by rw [HQ.out]; exact hsq)⟩
      have hr : RR[s]? = some x.2.1 := by rw [← HRR.out, List.getElem?_map, hx]; rfl
      obtain ⟨i, hi, hin⟩ := classD_nat (n := ((n : Nat) : Int)) (c := c) (by omega)
      obtain ⟨v, hv, hnv, hvl⟩ := next_at HBB.out hr hi hin
      rw [HRL.out] at hvl
      have HTK := Lib.hid (all_takeD (R := RR) (n := ((n : Nat) : Int)) (v := v) hc (by rw [hs]; exact hnv))
      have HST : Hid (stD' RR ((n : Nat) : Int) (L.take (j + 1)) = v) := Lib.hid (by rw [stD'_snoc hc, hs]; exact hnv)
      obtain ⟨gl, ol, rfl, hcl⟩ := (HLN.out.below hbw) (by rw [HK.out]; omega)
      have k0 := hcl j c hc
      have lgl := World.block_lt_of_cell? _ _ k0
      obtain ⟨g, off, rfl, hcr⟩ := HROW.out (by rw [HQ.out]; omega)
      have k1 := cell_keepQ hbw (hcr s x hx)
      have lg := World.block_lt_of_cell? _ _ k1
      obtain ⟨xo, xl, xc⟩ := x
      have hil : i < xl.length := (List.getElem?_eq_some_iff.1 hv).1
      obtain ⟨g2, off2, he2, hc2⟩ := (HNUM.out _ (List.mem_of_getElem? hx)) (by show 0 < xl.length; omega)
      have he2 : xo = some ⟨g2, off2, none⟩ := he2
      subst he2
      have k2 := cell_keepQ hbw (hc2 i _ hv)
      have lg2 := World.block_lt_of_cell? _ _ k2
      obtain ⟨p0, p1⟩ := mac_cells ((HB.out.block _ (by omega)).trans HM4.out)
      have lp := World.block_lt_of_cell? _ _ p0
      obtain ⟨xn, hxn⟩ : ∃ xn, xl.length = xn := ⟨_, rfl⟩
      simp only [hxn] at k1 hil
      obtain ⟨g', cap', w6, hrun, hown', hgrow⟩ := int_ownB ((v : Nat) : Int) HO.out (by omega) (by omega)
      rw [← HTK.out] at hown'
      have HO6 := Lib.hid hown'
      have HB6 : Hid (Below (w.heap.size + 1) w3 w6) := Lib.hid ((HB.out.alloc (by omega) _).grown hgrow (by rw [World.size_alloc]; omega) (fun k hk => own_rowD' HO.out hk))
      rw [hs]
      have hin2 : i ≤ n := by omega
      have hn40 : n ≤ 32 := by omega
      have hs300 : s < 1000 := by omega
      clear hcl hc hcr hc2 hx hr hv hnv hown' hgrow hbw hs hin h1n h32n h1q h300 hxn HTK HO HNUM HROW HLN HB
      by_cases hc0 : c < 0
      · have hk : classD ((n : Nat) : Int) c = ((n : Nat) : Int) := by unfold classD; rw [if_neg (by omega)]
        obtain rfl : i = n := by rw [hk] at hi; omega
        have d1 : decide (c < 0) = true := decide_eq_true hc0
        clear hk hi
        go_wp2_with fail
        go_roundg (k - (j + 1))
        case measure => omega
        case rel => exact ⟨j + 1, _, _, by simp, rfl, by rw [HST.out], by omega, rfl, HO6, HB6⟩
      · by_cases hcn : ((n : Nat) : Int) ≤ c
        · have hk : classD ((n : Nat) : Int) c = ((n : Nat) : Int) := by unfold classD; rw [if_neg (by omega)]
          obtain rfl : i = n := by rw [hk] at hi; omega
          have d1 : decide (c < 0) = false := decide_eq_false hc0
          have d2 : decide (((i : Nat) : Int) ≤ c) = true := decide_eq_true hcn
          clear hk hi
          go_wp2_with fail
          go_roundg (k - (j + 1))
          case measure => omega
          case rel => exact ⟨j + 1, _, _, by simp, rfl, by rw [HST.out], by omega, rfl, HO6, HB6⟩
        · have hk : classD ((n : Nat) : Int) c = c := by unfold classD; rw [if_pos (by omega)]
          obtain rfl : c = ((i : Nat) : Int) := by rw [hk] at hi; exact hi
          have d1 : decide (((i : Nat) : Int) < 0) = false := decide_eq_false hc0
          have d2 : decide (((n : Nat) : Int) ≤ ((i : Nat) : Int)) = false := decide_eq_false hcn
          clear hk hi
          go_wp2_with fail
          go_roundg (k - (j + 1))
          case measure => omega
          case rel => exact ⟨j + 1, _, _, by simp, rfl, by rw [HST.out], by omega, rfl, HO6, HB6⟩
    · obtain rfl : j = k := by omega
      have ho := HO.out
      rw [List.take_of_length_le (by rw [allD_len, HK.out]; exact Nat.le_refl _)] at ho
      have HPP : Hid (P (.returned (.tuple #[.slice ro (j + 1) rc, .int .i64 0])) wr) := Lib.hid (by rw [← HP.out]; exact ⟨ro, rc, rfl, ho, hbw⟩)
      clear ho HO HNUM HROW HLN HB
      go_wp2_with fail
      first | exact HPP.out | (go_ret; exact HPP.out)
end Go.Proofs.YtaoooocalpkhjaaGreatDoor
