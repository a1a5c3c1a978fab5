/- place where a block was not met. place, in one. draw: a row of a map. drawn: the rows of a map, one by one. rows: the rows of a trie that is right, one by one. The builder between two rounds: a number more in Index. -/
import Derived.Test.YtcnbcaljpgdcpaaDoorBunA8
import Derived.Maps.AppendAt
import Derived.Laws.Cells
import Derived.Test.YtcnbcaljpgdcpaaDoorBunN5
namespace Go.Proofs.YtcnbcaljpgdcpaaDoor
open Go.RowKit Go.Shelf Go.Maps
attribute [local go_sem] Oper.semAt_some

def muB (m k v : Value) : Sem Unit := Instr.mapUpdate 136 m k v
theorem mu_hide (m k v : Value) : Instr.mapUpdate 136 m k v = muB m k v := rfl
attribute [local go_sem ↓] app_hide ld_hide lk_hide mu_hide
set_option maxRecDepth 100000 in
set_option maxHeartbeats 4000000 in
theorem place_new (base : Nat) (X : Nat → Prop) (G M : Nat) (io bo : Option Addr) (ic bc : Nat) (t : TrieD) (b : List Int) (hb : fitsL b) (hi : idxT t.2 b = none) (hl2 : t.2.length ≤ 1000000) (w : World) (hB : BldT w base X G M io ic bo bc t) (hbase : base ≤ w.heap.size) (hX : ∀ k, X k → k < w.heap.size) :
    Calls Tryd.prog 80 #[.pointer (some ⟨G, 0, none⟩), .agg (cellsI b)] w fun e w' => e = .returned (.int .i64 (t.2.length : Nat)) ∧ ∃ bo' bc', BldT w' base X G M io ic bo' bc' (t.1, t.2 ++ [b]) ∧ Moves (PlaceS G M (.slice bo t.2.length bc)) w w' := by
  have hG := hB.row
  have hM := hB.pl
  obtain ⟨cs, hcs, hbc⟩ := hB.bl
  obtain ⟨bl, hbl⟩ : ∃ n, t.2.length = n := ⟨_, rfl⟩
  obtain ⟨il, hil⟩ : ∃ n, t.1.length = n := ⟨_, rfl⟩
  obtain ⟨P, hP⟩ : ∃ P, (fun (e : Ending) (w' : World) => e = .returned (.int .i64 (t.2.length : Nat)) ∧ ∃ bo' bc', BldT w' base X G M io ic bo' bc' (t.1, t.2 ++ [b]) ∧ Moves (PlaceS G M (.slice bo t.2.length bc)) w w') = P := ⟨_, rfl⟩
  have HP := Lib.hid hP
  rw [hP]
  have hlt := hB.lt
  obtain ⟨W, hW⟩ : ∃ W, w.alloc (.cells (cellsI b) 139) = W := ⟨_, rfl⟩
  have A1 : Below w.heap.size w W := by rw [← hW]; exact (Below.refl _ _).alloc (Nat.le_refl _) _
  have z1 : W.heap.size = w.heap.size + 1 := by rw [← hW]; simp
  have r1 : W.heap[w.heap.size]? = some (blkO b) := by rw [← hW]; exact heap_alloc_new _ _
  have rG : W.heap[G]? = some (bldO io il ic bo bl bc M) := by
    have := (A1.block _ (Array.getElem?_eq_some_iff.1 hG).1).trans hG
    rwa [hil, hbl] at this
  have rM := hM.below A1
  obtain ⟨D, n, hown, hn, hhas, hat⟩ := rM
  have hT := hown.tidy keyBlk
  obtain ⟨v, ps, hlk, hv⟩ := (show W.drew.ownsMap Tryd.prog 139 (plainElem Tryd.prog 3) M n D from hown).look_ok keyBlk Tryd.underlying136 (zeroIntT _) (plainElem_int Tryd.underlying3 (q := .i64) (by decide)) (key_blk hb)
  obtain ⟨c, rfl, hc, _⟩ := plainElem_int_inv Tryd.underlying3 hv
  rw [hhas b hb, hi, show (none : Option Nat).isSome = false from rfl] at hlk
  have hlk2 : (lkB (.map (some M)) (.agg (cellsI b))).run Tryd.prog W.drew = .ok (.tuple #[.int .i64 c, .bool false]) W.drew := hlk
  have hsz : (Tryd.prog.info? 139).map (·.size) = some (cellsI b).size := by rw [cellsI_size, hb.2]; exact blk_info
  have hld : (ldB ⟨w.heap.size, 0, none⟩).run Tryd.prog W.drew = .ok (.agg (cellsI b)) W.drew := run_loadVar_row W.drew w.heap.size 139 139 (cellsI b) (0, 0) _ r1 Tryd.underlying139 rfl hsz
  have hld2 : (ldB ⟨w.heap.size, 0, none⟩).run Tryd.prog W.drew.drew = .ok (.agg (cellsI b)) W.drew.drew := run_loadVar_row W.drew.drew w.heap.size 139 139 (cellsI b) (0, 0) _ r1 Tryd.underlying139 rfl hsz
  obtain ⟨wm, hst, hown2, hturn⟩ := (show W.drew.drew.ownsMap Tryd.prog 139 (plainElem Tryd.prog 3) M n D from hown).store keyBlk Tryd.underlying136 (by unfold maxLen; omega) (val := .int .i64 (bl : Nat)) (key_blk hb) (plainElem_int Tryd.underlying3 (WalkArith.wf_i64 (by omega)))
  have hst2 : (muB (.map (some M)) (.agg (cellsI b)) (.int .i64 (bl : Nat))).run Tryd.prog W.drew.drew = .ok () wm := hst
  have g1 : W.cell? ⟨G, 1, none⟩ = some (.slice bo bl bc) := by rw [cell_of_row _ _ 1 _ _ _ rG]; rfl
  have g2 : W.cell? ⟨G, 2, none⟩ = some (.map (some M)) := by rw [cell_of_row _ _ 2 _ _ _ rG]; rfl
  have hGw : G < w.heap.size := by omega
  have hMw : M < w.heap.size := by omega
  have mv : Moves (fun k => k = M) w wm := (Moves.of_below A1).trans ((Moves.of_below (show Below W.heap.size W W.drew.drew from (Below.refl W.heap.size W).drew.drew)).trans ((Moves.of_grownN hturn.grown).mono fun k h => Option.some.inj h))
  have zm : w.heap.size < wm.heap.size := Nat.lt_of_lt_of_le (show w.heap.size < W.drew.drew.heap.size by show w.heap.size < W.heap.size; omega) hturn.grown.size
  have rX : wm.heap[w.heap.size]? = some (blkO b) := by
    rw [hturn.grown.block _ (show w.heap.size < W.drew.drew.heap.size from (Array.getElem?_eq_some_iff.1 r1).1) (by simp; omega)]
    exact r1
  have rGm : wm.heap[G]? = some (bldO io il ic bo bl bc M) := by
    have := (mv.block G hGw hlt.2.2).trans hG
    rwa [hil, hbl] at this
  have h1 : wm.cell? ⟨G, 1, none⟩ = some (.slice bo bl bc) := by rw [cell_of_row _ _ 1 _ _ _ rGm]; rfl
  have hcsm : wm.ownsRow base 22 1 (.slice bo bl bc) bl cs := by
    rw [hbl] at hcs
    refine own_moves1N hcs mv fun k hk e => ?_
    obtain ⟨_, _, h⟩ := own_rowT hcs hk
    omega
  have hplm : PlacesOf wm M (t.2 ++ [b]) := PlacesOf.more hb hT hn hhas hat hi (by rw [hbl]; exact hown2)
  have CL : Hid (Calls Tryd.prog 91 #[.slice (some ⟨w.heap.size, 0, none⟩) 256 256] wm.drew fun e w8 => ∃ gq cap' g9 c9 w9, e = .returned (.slice (some ⟨gq, 0, none⟩) 256 cap') ∧ w8.cell? ⟨G, 1, none⟩ = some (.slice bo bl bc) ∧ G < w8.heap.size ∧ (appSem #[23, 23] 23 #[.slice bo bl bc, .slice (some ⟨w8.heap.size, 0, none⟩) 1 1]).run Tryd.prog (w8.alloc (.cells #[.slice (some ⟨gq, 0, none⟩) 256 cap'] 22)) = .ok (.slice (some ⟨g9, 0, none⟩) (bl + 1) c9) w9 ∧ w9.cell? ⟨G, 1, none⟩ = some (.slice bo bl bc) ∧ w9.frozen? ⟨G, 1, none⟩ = false ∧ G < w9.heap.size ∧ P (.returned (.int .i64 (bl : Nat))) (w9.setCell ⟨G, 1, none⟩ (.slice (some ⟨g9, 0, none⟩) (bl + 1) c9))) := by
    refine Lib.hid ((cloneT_any w.heap.size b hb.2 wm.drew rX).mono ?_)
    rintro e w8 ⟨gq, cap', cur, rfl, h256, hgq, hcr, hcur, hb8⟩
    have hb8' : Below wm.heap.size wm w8 := (Below.refl wm.heap.size wm).drew.trans hb8
    have rG8 : w8.heap[G]? = some (bldO io il ic bo bl bc M) := (hb8'.block _ (Array.getElem?_eq_some_iff.1 rGm).1).trans rGm
    have a8 : Below w8.heap.size w8 (w8.alloc (.cells #[.slice (some ⟨gq, 0, none⟩) 256 cap'] 22)) := (Below.refl _ _).alloc (Nat.le_refl _) _
    have hcs8 := own_below (own_below hcsm hb8') a8
    obtain ⟨i0, hi0, hz0, hz1, hz2⟩ := info_parts infoIntsT
    have hwm : w.heap.size ≤ wm.heap.size := by omega
    have hw8 := hb8'.size
    obtain ⟨v', w9, hr, h2, h3, h4, hat⟩ := run_append_own_at (P := Tryd.prog) (w8.alloc (.cells #[.slice (some ⟨gq, 0, none⟩) 256 cap'] 22)) base 23 23 22 i0 (.slice none 0 0) 1 24 Tryd.underlying23 hi0 hz0 hz1 hz2 rfl (by decide) _ bl cs hcs8 ⟨w8.heap.size, 0, none⟩ 1 1 [.slice (some ⟨gq, 0, none⟩) 256 cap'] rfl
      (cell_one_new _ _ _) (by simp [Value.oneCell']) (by unfold maxLen; omega) (by omega) (by simp; omega)
    obtain ⟨o9, c9, rfl⟩ := own_form h2
    have hne9 : ∃ g9, o9 = some ⟨g9, 0, none⟩ := by
      rcases h2.2 with ⟨_, h0⟩ | ⟨g, cap, cu, h', _⟩
      · omega
      · exact ⟨g, by injection h'⟩
    obtain ⟨g9, rfl⟩ := hne9
    have hGb : (Value.slice bo bl bc).ownBlock ≠ some G := fun h => by
      obtain ⟨_, _, h⟩ := own_rowT hcsm h
      omega
    have rG9 : w9.heap[G]? = some (bldO io il ic bo bl bc M) := by
      rw [h3.block G (by simp; omega) (fun e => hGb e.symm), (a8.block G (by omega))]
      exact rG8
    have hMb : (Value.slice bo bl bc).ownBlock ≠ some M := fun h => by
      obtain ⟨_, _, h⟩ := own_rowT hcsm h
      omega
    refine ⟨gq, cap', g9, c9, w9, rfl, by rw [cell_of_row _ _ 1 _ _ _ rG8]; rfl, by omega, hr, by rw [cell_of_row _ _ 1 _ _ _ rG9]; rfl, frozen_of_row _ _ _ _ _ rG9, (Array.getElem?_eq_some_iff.1 rG9).1, ?_⟩
    have m9 : Moves (PlaceS G M (.slice bo t.2.length bc)) w w9 := (mv.mono fun k h => .inr (.inl h)).trans ((Moves.of_below (hb8'.trans (a8.mono hw8))).trans ((Moves.of_grownN h3).mono fun k h => .inr (.inr (by rw [hbl]; exact h.symm))))
    have m10 : Moves (PlaceS G M (.slice bo t.2.length bc)) w (w9.setCell ⟨G, 1, none⟩ (.slice (some ⟨g9, 0, none⟩) (bl + 1) c9)) := m9.trans (Moves.setCell (.inl rfl))
    have hMm : w9.heap[M]? = wm.heap[M]? := by
      rw [h3.block M (by simp; omega) (fun e => hMb e.symm), a8.block M (by omega), hb8'.block M (by omega)]
    have hgqn : (Value.slice bo bl bc).ownBlock ≠ some gq := fun h => by
      obtain ⟨_, h, _⟩ := own_rowT hcsm h
      have := (Array.getElem?_eq_some_iff.1 h).1
      have : wm.drew.heap.size = wm.heap.size := rfl
      omega
    have hgq8 := (Array.getElem?_eq_some_iff.1 hcr).1
    have hcr9 : w9.heap[gq]? = some (.cells cur 3 (0, 0)) := by
      rw [h3.block gq (by simp; omega) (fun e => hgqn e.symm), a8.block gq (by omega)]
      exact hcr
    have hgqw : w.heap.size ≤ gq := by have : wm.drew.heap.size = wm.heap.size := rfl; omega
    rw [← HP.out]
    refine ⟨by rw [hbl], some ⟨g9, 0, none⟩, c9, hB.after hbase hX hcs hbc m10 ?_ ?_ ?_ hgqw ?_ h256 hcur ?_, m10⟩
    · rw [heap_setCell_same _ _ _ _ _ _ rG9, hbl, hil]; rfl
    · exact hplm.row (by rw [heap_setCell_other _ _ _ _ (fun e => hlt.2.2 e.symm)]; exact hMm)
    · rw [hbl]
      refine own_moves1N h2 (Moves.setCell (S := fun k => k = G) rfl) fun k hk e => ?_
      obtain ⟨_, _, h⟩ := own_rowT h2 hk
      omega
    · rw [heap_setCell_other _ _ _ _ (by show gq ≠ G; omega)]; exact hcr9
    · rintro k ⟨a, ha, rfl⟩ hx
      cases ha
      rcases hat with e | e
      · have e2 : (Value.slice bo bl bc).ownBlock = some g9 := by rw [← e]; rfl
        cases bo with
        | none => simp [Value.ownBlock] at e2
        | some a => exact hB.nx.2 g9 ⟨a, rfl, by simpa [Value.ownBlock] using e2⟩ hx
      · have e2 : g9 = w8.heap.size + 1 := by simpa [Value.ownBlock] using e
        have : g9 < w.heap.size := hX _ hx
        omega
  have hGl : G < wm.heap.size := World.block_lt_of_cell? _ _ h1
  have HW := Lib.hid hW
  clear hG hM hown hat hhas hv hc A1 hW hlk hst hcs hbc hB hown2 hturn mv zm rX rGm hcsm hplm rG r1 hT hsz
  go_enter Tryd.func80, Tryd.ntmps80
  go_wp2_with fail
  rw [HW.out]
  go_region
  go_wp2_with fail
  go_region
  go_wp2_with fail
  clear hlk2 hld hld2 hst2 g1 g2
  go_region_with (go_at_call 91; refine CL.out.mono ?_; rintro e w8 ⟨gq, cap', g9, c9, w9, rfl, h18, hG8, hr9, hf9, hz9, hG9, hPP⟩)
  all_goals
    go_simp
    go_wp2
    exact hPP
end Go.Proofs.YtcnbcaljpgdcpaaDoor

namespace Go.Proofs.YtcnbcaljpgdcpaaDoor
open Go.RowKit Go.Shelf Go.Maps

theorem BldT.below {w w' : World} {base : Nat} {X : Nat → Prop} {G M : Nat} {io bo : Option Addr} {ic bc : Nat} {t : TrieD} (h : BldT w base X G M io ic bo bc t) (hb : Below w.heap.size w w') : BldT w' base X G M io ic bo bc t := by
  obtain ⟨cs, h1, h2⟩ := h.bl
  refine ⟨h.lt, (hb.block _ (Array.getElem?_eq_some_iff.1 h.row).1).trans h.row, h.pl.below hb, own_below h.ix hb, ⟨cs, own_below h1 hb, fun j b hj => ?_⟩, h.nx⟩
  obtain ⟨g, sc, cur, k1, k2, k3, k4, k5, k6⟩ := h2 j b hj
  exact ⟨g, sc, cur, k1, k2, k3, (hb.block _ (Array.getElem?_eq_some_iff.1 k4).1).trans k4, k5, k6⟩
/-- The blocks behind a block's place, and the place. -/
def atT (bs : List (List Int)) (b : List Int) : Nat × List (List Int) := match idxT bs b with
  | some i => (i, bs)
  | none => (bs.length, bs ++ [b])
theorem putT_at (t : TrieD) (b : List Int) : putT t b = (t.1 ++ [(((atT t.2 b).1 : Nat) : Int)], (atT t.2 b).2) := by
  unfold putT atT
  split
  · rename_i i h; rw [h]
  · rename_i h; rw [h]
theorem place_any (base : Nat) (X : Nat → Prop) (G M : Nat) (io bo : Option Addr) (ic bc : Nat) (t : TrieD) (b : List Int) (hb : fitsL b) (hl2 : t.2.length ≤ 1000000) (w : World) (hB : BldT w base X G M io ic bo bc t) (hbase : base ≤ w.heap.size) (hX : ∀ k, X k → k < w.heap.size) :
    Calls Tryd.prog 80 #[.pointer (some ⟨G, 0, none⟩), .agg (cellsI b)] w fun e w' => e = .returned (.int .i64 ((atT t.2 b).1 : Nat)) ∧ ∃ bo' bc', BldT w' base X G M io ic bo' bc' (t.1, (atT t.2 b).2) ∧ Moves (PlaceS G M (.slice bo t.2.length bc)) w w' := by
  cases hi : idxT t.2 b with
  | some i =>
    have e : atT t.2 b = (i, t.2) := by unfold atT; rw [hi]
    rw [e]
    exact (place_met G M io bo t.1.length ic t.2.length bc t.2 b i hb hi w hB.row hB.pl).mono fun e w' ⟨h1, h2⟩ => ⟨h1, bo, bc, hB.below h2, Moves.of_below h2⟩
  | none =>
    have e : atT t.2 b = (t.2.length, t.2 ++ [b]) := by unfold atT; rw [hi]
    rw [e]
    exact place_new base X G M io bo ic bc t b hb hi hl2 w hB hbase hX
end Go.Proofs.YtcnbcaljpgdcpaaDoor

namespace Go.Proofs.YtcnbcaljpgdcpaaDoor
open Go.RowKit Go.Shelf Go.Maps
attribute [local go_sem] Oper.semAt_some

section
variable {P : Program}
theorem results_cell_tmpT {fn : Func} {p q : Tmp} {ty : TypeId} (h : fn.results = #[.cell p ty, .tmp q]) (tmps : Array Value) (w : World) (g : Nat) (t : TypeId) (cs : Array Value) (fr : Nat × Nat) (d : TypeDesc) (v : Value)
    (hp : tmps.getD p undef = .pointer (some ⟨g, 0, none⟩)) (hq : tmps.getD q undef = v) (hg : w.heap[g]? = some (.cells cs t fr))
    (hu : P.underlying ty = some d) (hd : (match d with | .struct _ | .array _ _ => true | _ => false) = true) (hi : (P.info? ty).map (·.size) = some cs.size) :
    (results fn tmps).run P w = .ok (.tuple #[.agg cs, v]) w := by
  have hp' : tmps[p]?.getD undef = .pointer (some ⟨g, 0, none⟩) := by simpa using hp
  have hq' : tmps[q]?.getD undef = v := by simpa using hq
  simp [results, h, hp', hq', asAddr, run_loadVar_row w g t ty cs fr d hg hu hd hi]
end
/-- What draw answers: the row, and the ranges that are left. -/
def DrawP (o : Option Addr) (l : List Rng) (f : Nat) (w : World) (e : Ending) (w' : World) : Prop :=
  ∃ k o' cap', e = .returned (.tuple #[.agg (cellsI (rowF (hitG l f))), .slice o' (l.length - k) cap']) ∧ k ≤ l.length ∧ AtR w' o' (l.drop k) ∧ l.length - k ≤ cap' ∧ (∀ y ∈ l.take k, y.2.1 ≤ ((f : Nat) : Int) + 255) ∧ (∀ b, inB o' b → inB o b) ∧ Below w.heap.size w w'
set_option maxRecDepth 100000 in
set_option maxHeartbeats 4000000 in
theorem draw_any (f : Nat) (hf : f ≤ 1113856) (o : Option Addr) (l : List Rng) (cap : Nat) (hm : mapL l) (hl : l.length ≤ 1000) (hc : l.length ≤ cap) (w : World) (hA : AtR w o l) :
    Calls Tryd.prog 82 #[.int .i64 (f : Nat), .slice o l.length cap] w (DrawP o l f w) := by
  obtain ⟨P, hP⟩ : ∃ P, DrawP o l f w = P := ⟨_, rfl⟩
  have HP := Lib.hid hP
  rw [hP]
  obtain ⟨n, hnn⟩ : ∃ n, l.length = n := ⟨_, rfl⟩
  have HN := Lib.hid hnn
  have HM := Lib.hid hm
  have HA := Lib.hid hA
  rw [hnn] at hl hc ⊢
  obtain ⟨W0, hW0⟩ : ∃ W0, (w.alloc (.cells Tryd.zeroCells139 139)).alloc (.cells Tryd.zeroCells139 139) = W0 := ⟨_, rfl⟩
  have A0 : Below w.heap.size w W0 := by rw [← hW0]; exact ((Below.refl _ _).alloc (Nat.le_refl _) _).alloc (by simp) _
  have hB0 : Hid (∃ old, old.size = 256 ∧ W0.heap[w.heap.size]? = some (.cells old 139 (0, 0))) := Lib.hid ⟨Tryd.zeroCells139, by rw [zero_row, cellsI_size, rowF_len], by
    rw [← hW0]
    have b : Below (w.alloc (.cells Tryd.zeroCells139 139)).heap.size (w.alloc (.cells Tryd.zeroCells139 139)) ((w.alloc (.cells Tryd.zeroCells139 139)).alloc (.cells Tryd.zeroCells139 139)) := (Below.refl _ _).alloc (Nat.le_refl _) _
    exact (b.block _ (by simp)).trans (heap_alloc_new _ _)⟩
  have hB1 : Hid (W0.heap[w.heap.size + 1]? = some (blkO (rowF fun _ => 0))) := Lib.hid (by
    rw [← hW0]
    have := heap_alloc_new (w.alloc (.cells Tryd.zeroCells139 139)) (.cells Tryd.zeroCells139 139)
    rw [World.size_alloc, zero_row] at this
    rw [zero_row]
    exact this)
  have HA0 := Lib.hid A0
  have HW0 := Lib.hid hW0
  clear hP hnn hm hA A0 hW0
  go_enter Tryd.func82, Tryd.ntmps82
  go_wp2_with fail
  rw [HW0.out]
  go_loopg [1] n (fun d v1 wr => ∃ k o' cap', v1 = .slice o' (n - k) cap' ∧ k ≤ n ∧ n - k = d ∧ n - k ≤ cap' ∧ Hid (AtR w o' (l.drop k)) ∧ Hid (∀ y ∈ l.take k, y.2.1 ≤ ((f : Nat) : Int) + 255) ∧ Hid (∀ b, inB o' b → inB o b) ∧ Hid (∃ old, old.size = 256 ∧ wr.heap[w.heap.size]? = some (.cells old 139 (0, 0))) ∧ Hid (wr.heap[w.heap.size + 1]? = some (blkO (rowF (hitG (l.take k) f)))) ∧ Hid (Below w.heap.size w wr))
  case atStart => exact ⟨0, o, cap, rfl, Nat.zero_le _, rfl, hc, HA, Lib.hid fun y h => by simp at h, Lib.hid fun b h => h, hB0, hB1, HA0⟩
  case round =>
    clear hB0 hB1 HA0 HA
    obtain ⟨k, o', cap', rfl, hk, rfl, hcap, HAK, HTK, HIN, hB0, hB1, HB⟩ := hrel
    have hwl : IntKind.i64.wrap (((f : Nat) : Int) + 256) = (f : Nat) + 256 := wrap_id (by omega) (by omega)
    rcases Nat.lt_or_ge k n with hlt | hge
    · obtain ⟨q, hq⟩ : ∃ q, n - k = q + 1 := ⟨n - k - 1, by omega⟩
      have HQQ := Lib.hid hq
      obtain ⟨x, hx⟩ : ∃ x, l[k]? = some x := ⟨_, List.getElem?_eq_getElem (by rw [HN.out]; exact hlt)⟩
      have hok := HM.out.1 x (List.mem_of_getElem? hx)
      obtain ⟨g, off, rfl, hcc⟩ := HAK.out (by rw [List.length_drop, HN.out]; omega)
      have hx0 : (l.drop k)[0]? = some x := by rw [List.getElem?_drop]; exact hx
      obtain ⟨d0, d1, d2⟩ := hcc 0 x hx0
      rw [Nat.zero_mul, Nat.add_zero] at d0 d1 d2
      have HD0 := Lib.hid d0
      have HD1 := Lib.hid d1
      have HD2 := Lib.hid d2
      have HX := Lib.hid hx
      obtain ⟨xa', xb', xv⟩ := x
      unfold okR at hok
      simp only at hok HD0 HD1 HD2 d0 d1 d2
      obtain ⟨xa, rfl⟩ := Int.eq_ofNat_of_zero_le hok.1
      obtain ⟨xb, rfl⟩ := Int.eq_ofNat_of_zero_le (show 0 ≤ xb' by omega)
      have hxx : xa ≤ xb := by omega
      have hxt : xb ≤ 1114111 := by omega
      have e0 := cell_keepT HB.out d0
      have hgg := World.block_lt_of_cell? _ _ e0
      rw [hq] at hcap ⊢
      clear hcc hx0 d0 d1 d2 hx hok
      have HC : Hid (∀ C, cellsI (rowF (hitG l f)) = C → (Tryd.prog.info? 139).map (·.size) = some C.size ∧ C.size = 256 ∧ C.all (·.oneCell') = true) := Lib.hid fun C h => by
        subst h
        exact ⟨blk_size _, by rw [cellsI_size, rowF_len], cellsI_one _⟩
      by_cases hfar : ((xa : Nat) : Int) ≤ ((f : Nat) : Int) + 256 - 1
      · have e0 := cell_keepT HB.out HD0.out
        by_cases hmn : ((f : Nat) : Int) + 256 - 1 < ((xb : Nat) : Int)
        ·
          go_wp2_with fail
          all_goals
            go_loopg [8] (min xb (f + 255) + 1 - max xa f) (fun d v8 wr2 => ∃ r : Nat, v8 = .int .i64 (r : Nat) ∧ max xa f ≤ r ∧ r ≤ max (max xa f) (min xb (f + 255) + 1) ∧ (min xb (f + 255) + 1 - r) = d ∧ Hid (∃ old, old.size = 256 ∧ wr2.heap[w.heap.size]? = some (.cells old 139 (0, 0))) ∧ Hid (wr2.heap[w.heap.size + 1]? = some (blkO (rowF (midG (((xa : Nat) : Int), ((xb : Nat) : Int), xv) f r (hitG (l.take k) f))))) ∧ Hid (Below w.heap.size w wr2))
            case atStart => exact ⟨max xa f, by congr 1; omega, Nat.le_refl _, by omega, rfl, hB0, by rw [mid_start _ _ _ _ (fun p => by simp only; omega)]; exact hB1, HB⟩
            case round =>
              clear hB0 hB1 HB e0 hgg
              obtain ⟨r, rfl, hr0, hr1, rfl, hB0, hB1, HB⟩ := hrel
              have e0 := cell_keepT HB.out HD0.out
              have e1 := cell_keepT HB.out HD1.out
              have e2 := cell_keepT HB.out HD2.out
              have hgg := World.block_lt_of_cell? _ _ e0
              by_cases hrm : r ≤ min xb (f + 255)
              · have hc1 : ((r : Nat) : Int) ≤ ((f : Nat) : Int) + 256 - 1 := by omega
                have hc2 : ((r : Nat) : Int) ≤ ((xb : Nat) : Int) := by omega
                have hp : r - f < 256 := by omega
                have k0 := blk_cell hB1.out hp
                have fz : wr.frozen? ⟨w.heap.size + 1, r - f, none⟩ = false := frozen_of_row _ _ _ _ _ hB1.out
                have hlt2 : w.heap.size + 1 < wr.heap.size := (Array.getElem?_eq_some_iff.1 hB1.out).1
                have HB1N : Hid ((wr.setCell ⟨w.heap.size + 1, r - f, none⟩ (.int .i64 xv)).heap[w.heap.size + 1]? = some (blkO (rowF (midG (((xa : Nat) : Int), ((xb : Nat) : Int), xv) f (r + 1) (hitG (l.take k) f))))) := Lib.hid (by
                  rw [blk_set xv hB1.out hp, ← mid_step _ f r (r - f) _ (by omega) (by simp only; omega)])
                have HB0N : Hid (∃ old, old.size = 256 ∧ (wr.setCell ⟨w.heap.size + 1, r - f, none⟩ (.int .i64 xv)).heap[w.heap.size]? = some (.cells old 139 (0, 0))) := Lib.hid (by
                  obtain ⟨old, h1, h2⟩ := hB0.out
                  exact ⟨old, h1, by rw [heap_setCell_other _ _ _ _ (by simp)]; exact h2⟩)
                have HBN : Hid (Below w.heap.size w (wr.setCell ⟨w.heap.size + 1, r - f, none⟩ (.int .i64 xv))) := Lib.hid (HB.out.setCell (by simp) _)
                have hs1 : ((r : Nat) : Int) - ((f : Nat) : Int) = ((r - f : Nat) : Int) := by omega
                clear hB0 hB1 e1
                have e1 := cell_keepT HB.out HD1.out
                go_wp2
                go_roundg (min xb (f + 255) + 1 - (r + 1))
                case measure => omega
                case rel => exact ⟨r + 1, by simp, by omega, by omega, rfl, HB0N, HB1N, HBN⟩
              · have HROW : Hid (wr.heap[w.heap.size + 1]? = some (blkO (rowF (hitG (l.take (k + 1)) f)))) := Lib.hid (by
                  rw [hB1.out, mid_end HM.out HX.out f r (fun p hp => by simp only; omega)])
                have HROWL : Hid (wr.heap[w.heap.size + 1]? = some (blkO (rowF (hitG l f)))) := Lib.hid (by
                  rw [HROW.out, hit_all (k + 1) f (behind_more HM.out HX.out (by simp only; omega))])
                have hge8 : ((xb : Nat) : Int) > ((f : Nat) : Int) + 256 - 1 := hmn
                have hrx : ¬ ((r : Nat) : Int) ≤ ((f : Nat) : Int) + 256 - 1 := by omega
                clear HROW hB1
                obtain ⟨C, hC⟩ : ∃ C, cellsI (rowF (hitG l f)) = C := ⟨_, rfl⟩
                obtain ⟨hi1, hi2, hi3⟩ := HC.out C hC
                have HI := Lib.hid hi1
                have HONE := Lib.hid hi3
                obtain ⟨old, hold, hrow0⟩ := hB0.out
                have HR0 := Lib.hid hrow0
                have HOLD : Hid (old.size = C.size) := Lib.hid (by rw [hold, hi2])
                have HR1 : Hid (wr.heap[w.heap.size + 1]? = some (.cells C 139 (0, 0))) := Lib.hid (by rw [HROWL.out, ← hC])
                have HSR : Hid ((wr.setRow w.heap.size C).heap[w.heap.size]? = some (.cells C 139 (0, 0))) := Lib.hid (setRow_heap _ _ _ _ _ _ hrow0)
                have HQ : Hid (P (.returned (.tuple #[.agg C, .slice (some ⟨g, off, none⟩) (q + 1) cap'])) (wr.setRow w.heap.size C)) := by
                  rw [← HP.out]
                  exact Lib.hid ⟨k, _, cap', by rw [hC, HN.out, HQQ.out], by rw [HN.out]; exact hk, HAK.out.below (below_setRow HB.out (Nat.le_refl _) _), by rw [HN.out]; omega, HTK.out, HIN.out, below_setRow HB.out (Nat.le_refl _) _⟩
                clear hC hi1 hi2 hi3 hold hrow0
                go_wp2_with (first | (refine wpList_load_row rfl 139 (.tmp 6) rfl (w.heap.size + 1) rfl 139 C (0, 0) _ HR1.out Tryd.underlying139 rfl HI.out ?_) | (refine wpList_store_row rfl 139 (.tmp 4) (.tmp 59) rfl w.heap.size C rfl rfl 139 old HR0.out HI.out HOLD.out HONE.out ?_) | fail)
                exact bodyPost_ret (v := .tuple #[.agg C, .slice (some ⟨g, off, none⟩) (q + 1) cap']) (results_cell_tmpT rfl _ _ w.heap.size 139 C (0, 0) _ _ rfl rfl HSR.out Tryd.underlying139 rfl HI.out) rfl HQ.out
        ·
          go_wp2_with fail
          all_goals
            go_loopg [8] (min xb (f + 255) + 1 - max xa f) (fun d v8 wr2 => ∃ r : Nat, v8 = .int .i64 (r : Nat) ∧ max xa f ≤ r ∧ r ≤ max (max xa f) (min xb (f + 255) + 1) ∧ (min xb (f + 255) + 1 - r) = d ∧ Hid (∃ old, old.size = 256 ∧ wr2.heap[w.heap.size]? = some (.cells old 139 (0, 0))) ∧ Hid (wr2.heap[w.heap.size + 1]? = some (blkO (rowF (midG (((xa : Nat) : Int), ((xb : Nat) : Int), xv) f r (hitG (l.take k) f))))) ∧ Hid (Below w.heap.size w wr2))
            case atStart => exact ⟨max xa f, by congr 1; omega, Nat.le_refl _, by omega, rfl, hB0, by rw [mid_start _ _ _ _ (fun p => by simp only; omega)]; exact hB1, HB⟩
            case round =>
              clear hB0 hB1 HB e0 hgg
              obtain ⟨r, rfl, hr0, hr1, rfl, hB0, hB1, HB⟩ := hrel
              have e0 := cell_keepT HB.out HD0.out
              have e1 := cell_keepT HB.out HD1.out
              have e2 := cell_keepT HB.out HD2.out
              have hgg := World.block_lt_of_cell? _ _ e0
              by_cases hrm : r ≤ min xb (f + 255)
              · have hc1 : ((r : Nat) : Int) ≤ ((f : Nat) : Int) + 256 - 1 := by omega
                have hc2 : ((r : Nat) : Int) ≤ ((xb : Nat) : Int) := by omega
                have hp : r - f < 256 := by omega
                have k0 := blk_cell hB1.out hp
                have fz : wr.frozen? ⟨w.heap.size + 1, r - f, none⟩ = false := frozen_of_row _ _ _ _ _ hB1.out
                have hlt2 : w.heap.size + 1 < wr.heap.size := (Array.getElem?_eq_some_iff.1 hB1.out).1
                have HB1N : Hid ((wr.setCell ⟨w.heap.size + 1, r - f, none⟩ (.int .i64 xv)).heap[w.heap.size + 1]? = some (blkO (rowF (midG (((xa : Nat) : Int), ((xb : Nat) : Int), xv) f (r + 1) (hitG (l.take k) f))))) := Lib.hid (by
                  rw [blk_set xv hB1.out hp, ← mid_step _ f r (r - f) _ (by omega) (by simp only; omega)])
                have HB0N : Hid (∃ old, old.size = 256 ∧ (wr.setCell ⟨w.heap.size + 1, r - f, none⟩ (.int .i64 xv)).heap[w.heap.size]? = some (.cells old 139 (0, 0))) := Lib.hid (by
                  obtain ⟨old, h1, h2⟩ := hB0.out
                  exact ⟨old, h1, by rw [heap_setCell_other _ _ _ _ (by simp)]; exact h2⟩)
                have HBN : Hid (Below w.heap.size w (wr.setCell ⟨w.heap.size + 1, r - f, none⟩ (.int .i64 xv))) := Lib.hid (HB.out.setCell (by simp) _)
                have hs1 : ((r : Nat) : Int) - ((f : Nat) : Int) = ((r - f : Nat) : Int) := by omega
                clear hB0 hB1 e1
                have e1 := cell_keepT HB.out HD1.out
                go_wp2
                go_roundg (min xb (f + 255) + 1 - (r + 1))
                case measure => omega
                case rel => exact ⟨r + 1, by simp, by omega, by omega, rfl, HB0N, HB1N, HBN⟩
              · have HROW : Hid (wr.heap[w.heap.size + 1]? = some (blkO (rowF (hitG (l.take (k + 1)) f)))) := Lib.hid (by
                  rw [hB1.out, mid_end HM.out HX.out f r (fun p hp => by simp only; omega)])
                have hrx : ¬ ((r : Nat) : Int) ≤ ((xb : Nat) : Int) := by omega
                have hle8 : ¬ ((xb : Nat) : Int) > ((f : Nat) : Int) + 256 - 1 := by omega
                have hnext : n - (k + 1) = q := by have := HQQ.out; omega
                have HTK2 : Hid (∀ y ∈ l.take (k + 1), y.2.1 ≤ ((f : Nat) : Int) + 255) := Lib.hid fun y hy => by
                  rw [List.take_add_one, HX.out] at hy
                  rcases List.mem_append.1 hy with h1 | h1
                  · exact HTK.out y h1
                  · simp at h1; rw [h1]; simp only; omega
                have HAK2 : Hid (AtR w (some ⟨g, off + 3, none⟩) (l.drop (k + 1))) := Lib.hid fun hn => by
                  obtain ⟨g', off', e', hc'⟩ := HAK.out (by rw [List.length_drop, HN.out]; omega)
                  cases e'
                  refine ⟨g, off + 3, rfl, fun i y hy => ?_⟩
                  rw [List.getElem?_drop] at hy
                  have := hc' (i + 1) y (by rw [List.getElem?_drop, show k + (i + 1) = k + 1 + i from by omega]; exact hy)
                  rw [show off + (i + 1) * 3 = off + 3 + i * 3 from by omega] at this
                  exact this
                by_cases hq0 : q = 0
                · have HAK3 : Hid (AtR w (some ⟨g, off, none⟩) (l.drop (k + 1))) := Lib.hid fun hn => by rw [List.length_drop, HN.out] at hn; omega
                  subst hq0
                  go_wp2
                  go_roundg 0
                  case measure => omega
                  case rel => exact ⟨k + 1, _, 0, by rw [hnext], by omega, hnext, by omega, HAK3, HTK2, Lib.hid fun b ⟨a, h1, h2⟩ => HIN.out b ⟨_, rfl, by cases h1; exact h2⟩, hB0, HROW, HB⟩
                · go_wp2
                  go_roundg q
                  case measure => omega
                  case rel => exact ⟨k + 1, _, q, by rw [hnext], by omega, hnext, by omega, HAK2, HTK2, Lib.hid fun b ⟨a, h1, h2⟩ => HIN.out b ⟨_, rfl, by cases h1; exact h2⟩, hB0, HROW, HB⟩
      · have hrest := behind_all HM.out HX.out (n := ((f : Nat) : Int) + 255) (by simp only; omega)
        have HROWL : Hid (wr.heap[w.heap.size + 1]? = some (blkO (rowF (hitG l f)))) := Lib.hid (by rw [hB1.out, hit_all k f hrest])
        clear hrest hB1
        obtain ⟨C, hC⟩ : ∃ C, cellsI (rowF (hitG l f)) = C := ⟨_, rfl⟩
        obtain ⟨hi1, hi2, hi3⟩ := HC.out C hC
        have HI := Lib.hid hi1
        have HONE := Lib.hid hi3
        obtain ⟨old, hold, hrow0⟩ := hB0.out
        have HR0 := Lib.hid hrow0
        have HOLD : Hid (old.size = C.size) := Lib.hid (by rw [hold, hi2])
        have HR1 : Hid (wr.heap[w.heap.size + 1]? = some (.cells C 139 (0, 0))) := Lib.hid (by rw [HROWL.out, ← hC])
        have HSR : Hid ((wr.setRow w.heap.size C).heap[w.heap.size]? = some (.cells C 139 (0, 0))) := Lib.hid (setRow_heap _ _ _ _ _ _ hrow0)
        have HQ : Hid (P (.returned (.tuple #[.agg C, .slice (some ⟨g, off, none⟩) (q + 1) cap'])) (wr.setRow w.heap.size C)) := by
          rw [← HP.out]
          exact Lib.hid ⟨k, _, cap', by rw [hC, HN.out, HQQ.out], by rw [HN.out]; exact hk, HAK.out.below (below_setRow HB.out (Nat.le_refl _) _), by rw [HN.out]; omega, HTK.out, HIN.out, below_setRow HB.out (Nat.le_refl _) _⟩
        clear hC hi1 hi2 hi3 hold hrow0
        go_wp2_with (first | (refine wpList_load_row rfl 139 (.tmp 6) rfl (w.heap.size + 1) rfl 139 C (0, 0) _ HR1.out Tryd.underlying139 rfl HI.out ?_) | (refine wpList_store_row rfl 139 (.tmp 4) (.tmp 59) rfl w.heap.size C rfl rfl 139 old HR0.out HI.out HOLD.out HONE.out ?_) | fail)
        exact bodyPost_ret (v := .tuple #[.agg C, .slice (some ⟨g, off, none⟩) (q + 1) cap']) (results_cell_tmpT rfl _ _ w.heap.size 139 C (0, 0) _ _ rfl rfl HSR.out Tryd.underlying139 rfl HI.out) rfl HQ.out
    · obtain rfl : k = n := by omega
      have HROWL : Hid (wr.heap[w.heap.size + 1]? = some (blkO (rowF (hitG l f)))) := Lib.hid (by rw [hB1.out, List.take_of_length_le (by rw [HN.out]; exact Nat.le_refl _)])
      rw [Nat.sub_self] at hcap ⊢
      have HC : Hid (∀ C, cellsI (rowF (hitG l f)) = C → (Tryd.prog.info? 139).map (·.size) = some C.size ∧ C.size = 256 ∧ C.all (·.oneCell') = true) := Lib.hid fun C h => by
        subst h
        exact ⟨blk_size _, by rw [cellsI_size, rowF_len], cellsI_one _⟩
      clear hB1
      obtain ⟨C, hC⟩ : ∃ C, cellsI (rowF (hitG l f)) = C := ⟨_, rfl⟩
      obtain ⟨hi1, hi2, hi3⟩ := HC.out C hC
      have HI := Lib.hid hi1
      have HONE := Lib.hid hi3
      obtain ⟨old, hold, hrow0⟩ := hB0.out
      have HR0 := Lib.hid hrow0
      have HOLD : Hid (old.size = C.size) := Lib.hid (by rw [hold, hi2])
      have HR1 : Hid (wr.heap[w.heap.size + 1]? = some (.cells C 139 (0, 0))) := Lib.hid (by rw [HROWL.out, ← hC])
      have HSR : Hid ((wr.setRow w.heap.size C).heap[w.heap.size]? = some (.cells C 139 (0, 0))) := Lib.hid (setRow_heap _ _ _ _ _ _ hrow0)
      have HQ : Hid (P (.returned (.tuple #[.agg C, .slice o' 0 cap'])) (wr.setRow w.heap.size C)) := by
        rw [← HP.out]
        exact Lib.hid ⟨k, _, cap', by rw [hC, HN.out, Nat.sub_self], by rw [HN.out]; exact hk, HAK.out.below (below_setRow HB.out (Nat.le_refl _) _), by rw [HN.out]; omega, HTK.out, HIN.out, below_setRow HB.out (Nat.le_refl _) _⟩
      clear hC hi1 hi2 hi3 hold hrow0
      go_wp2_with (first | (refine wpList_load_row rfl 139 (.tmp 6) rfl (w.heap.size + 1) rfl 139 C (0, 0) _ HR1.out Tryd.underlying139 rfl HI.out ?_) | (refine wpList_store_row rfl 139 (.tmp 4) (.tmp 59) rfl w.heap.size C rfl rfl 139 old HR0.out HI.out HOLD.out HONE.out ?_) | fail)
      exact bodyPost_ret (v := .tuple #[.agg C, .slice o' 0 cap']) (results_cell_tmpT rfl _ _ w.heap.size 139 C (0, 0) _ _ rfl rfl HSR.out Tryd.underlying139 rfl HI.out) rfl HQ.out
end Go.Proofs.YtcnbcaljpgdcpaaDoor

namespace Go.Proofs.YtcnbcaljpgdcpaaDoor
open Go.RowKit Go.Shelf Go.Maps
attribute [local go_sem] Oper.semAt_some

theorem wpListIn_storeT {P : Program} {F : Fence} {n' : Nat} {ops : Array Oper} {rest : List Oper} {o : Oper} {a : Act} {w : World} {Q : Exit → Act → World → Prop} (hgd : o.guard = none) (ty : TypeId) (x y : Operand) (ho : o.op = .store ty x y)
    (g : Nat) (cells : Array Value) (hx : a.eval x = .pointer (some ⟨g, 0, none⟩)) (hy : a.eval y = .agg cells)
    (t : TypeId) (old : Array Value) (hg : w.heap[g]? = some (.cells old t (0, 0))) (hi : (P.info? ty).map (·.size) = some cells.size)
    (hold : old.size = cells.size) (h1 : cells.all (·.oneCell') = true) {w3 : World} (hw : w.setRow g cells = w3)
    (h : wpListIn F n' P ops Q rest (a.put o.dst undef) w3) : wpListIn F n' P ops Q (o :: rest) a w := by
  subst hw
  refine wpListIn_plain hgd fun K hK => ?_
  unfold Oper.wpIn
  refine ⟨?_, ?_⟩
  · simp [Oper.about, ho]
  · rw [Oper.semAt_plain F _ _ (by rw [ho]; intro c hc'; cases hc')]
    unfold execOp
    simp only [ho, hx, hy, Instr.storeAt, Instr.sureAddr, Sem.run_bind, Sem.run_pure, Result.andThen_ok, run_storeVar_row w g t ty old cells hg hi hold h1]
    exact hK _ _ h
theorem wpListIn_loadT {P : Program} {F : Fence} {n' : Nat} {ops : Array Oper} {rest : List Oper} {o : Oper} {a : Act} {w : World} {Q : Exit → Act → World → Prop} (hgd : o.guard = none) (ty : TypeId) (x : Operand) (ho : o.op = .load ty x)
    (g : Nat) (hx : a.eval x = .pointer (some ⟨g, 0, none⟩)) (t : TypeId) (cs : Array Value) (fr : Nat × Nat) (d : TypeDesc) (hg : w.heap[g]? = some (.cells cs t fr))
    (hu : P.underlying ty = some d) (hd : (match d with | .struct _ | .array _ _ => true | _ => false) = true) (hi : (P.info? ty).map (·.size) = some cs.size)
    (h : wpListIn F n' P ops Q rest (a.put o.dst (.agg cs)) w) : wpListIn F n' P ops Q (o :: rest) a w := by
  refine wpListIn_plain hgd fun K hK => ?_
  unfold Oper.wpIn
  refine ⟨?_, ?_⟩
  · simp [Oper.about, ho]
  · rw [Oper.semAt_plain F _ _ (by rw [ho]; intro c hc'; cases hc')]
    unfold execOp
    simp only [ho, hx, Instr.loadAt, Instr.sureAddr, Sem.run_bind, Sem.run_pure, Result.andThen_ok, run_loadVar_row w g t ty cs fr d hg hu hd hi]
    exact hK _ _ h
/-- What an iterator over rows yields: the row's first number, and what is said of all. -/
abbrev encB (x : Nat × List Int) : Array Value := #[.int .i64 ((256 * x.1 : Nat) : Int), .agg (cellsI x.2)]
/-- The rows of a map, numbered. -/
def rowsN (l : List Rng) : List (Nat × List Int) := (List.range 4352).map fun i => (i, rowM l i)
theorem rowsN_get (l : List Rng) {i : Nat} (h : i < 4352) : (rowsN l)[i]? = some (i, rowM l i) := by
  unfold rowsN
  rw [List.getElem?_map, List.getElem?_range h]
  rfl
theorem rowsN_len (l : List Rng) : (rowsN l).length = 4352 := by unfold rowsN; simp
theorem take_row {α : Type} {l : List α} {i : Nat} {x : α} (h : l[i]? = some x) : l.take i ++ [x] = l.take (i + 1) := by
  rw [List.take_add_one, h]; rfl
theorem mapL_drop {l : List Rng} : ∀ k, mapL l → mapL (l.drop k) := fun k => by
  induction k generalizing l with
  | zero => exact fun h => by simpa using h
  | succ k ih => cases l with
    | nil => exact fun h => by simpa using h
    | cons x l => exact fun h => by rw [List.drop_succ_cons]; exact ih (mapL_tail h).1
/-- Ranges that end ahead of a row say nothing of it. -/
theorem row_drop (l : List Rng) (k i : Nat) (h : ∀ y ∈ l.take k, y.2.1 < ((256 * i : Nat) : Int)) : rowF (hitG (l.drop k) (256 * i)) = rowM l i := by
  rw [rowM_hit]
  refine rowF_congr fun p hp => ?_
  unfold hitG
  conv => rhs; rw [← List.take_append_drop k l]
  have e : findL (l.take k ++ l.drop k) ((256 * i + p : Nat) : Int) = findL (l.drop k) ((256 * i + p : Nat) : Int) := by
    generalize l.take k = m at h
    induction m with
    | nil => rfl
    | cons x m ih =>
      have hx := h x (by simp)
      rw [List.cons_append, findL, if_neg (by omega)]
      exact ih fun y hy => h y (by simp [hy])
  rw [e]
set_option maxRecDepth 100000 in
set_option maxHeartbeats 2000000 in
theorem seqDrawn {cb : Nat} {o : Option Addr} {l : List Rng} {cap : Nat} {w : World} (hm : mapL l) (hn : l.length ≤ 1000) (hc : l.length ≤ cap) (hC : w.heap[cb]? = some (.cells #[.slice o l.length cap] 44 (0, 0))) (hA : AtR w o l) :
    SeqOfX Tryd.prog 5 81 #[.pointer (some ⟨cb, 0, none⟩)] encB (fun _ => False) (fun k => inB o k ∧ 0 < l.length) (rowsN l) w := by
  intro W lp J Jx hmv hJ hJx hY h0
  have h1 : 1 ≤ 5 := by omega
  have c0 := row_keep hC hmv id
  have A0 : AtR W o l := hA.moves hmv (fun _ _ _ => id)
  obtain ⟨n, hnn⟩ : ∃ n, l.length = n := ⟨_, rfl⟩
  rw [hnn] at c0 hn hc
  have cc : W.cell? ⟨cb, 0, none⟩ = some (.slice o n cap) := by rw [cell_of_row _ _ 0 _ _ _ c0]; rfl
  refine callsIn_of_wp Tryd.func81 rfl trivial ?_ rfl
  simp only [Tryd.ntmps81, List.size_toArray, List.length_cons, List.length_nil, Nat.reduceAdd, Nat.reduceSub, Array.replicate_succ, Array.replicate_zero, List.push_toArray, List.append_toArray, List.nil_append, List.cons_append]
  have HJ := Lib.hid hJ
  have HY := Lib.hid hY
  have HN := Lib.hid hnn
  have HM := Lib.hid hm
  have HA0 := Lib.hid A0
  have HH0 := Lib.hid h0
  clear hJ hJx hY hmv hnn c0 A0 hC hA h0 hm
  gi_wp2_with fail
  gi_loopg [3, 8] 4352 (fun m v3 v8 wr => ∃ (i k : Nat) (o' : Option Addr) (cap' : Nat), i + m = 4352 ∧ v8 = .int .i64 (i : Nat) ∧ v3 = .slice o' (n - k) cap' ∧ k ≤ n ∧ n - k ≤ cap' ∧ Hid (AtR wr o' (l.drop k)) ∧ Hid (∀ y ∈ l.take k, y.2.1 < ((256 * i : Nat) : Int)) ∧ Hid (∀ b, inB o' b → inB o b) ∧ J (fun _ => False) ((rowsN l).take i) wr)
  case atStart => exact ⟨0, 0, o, cap, rfl, rfl, rfl, Nat.zero_le _, hc, HA0, Lib.hid fun y h => by simp at h, Lib.hid fun b h => h, by simpa using HH0.out⟩
  case round =>
    obtain ⟨i, k, o', cap', him, rfl, rfl, hk, hcap, hA, hT, hI, hJ'⟩ := hrel
    cases gk with
    | zero =>
      obtain rfl : i = 4352 := by omega
      have hall : (rowsN l).take 4352 = rowsN l := List.take_of_length_le (by rw [rowsN_len]; exact Nat.le_refl _)
      rw [hall] at hJ'
      have HJ3 := Lib.hid hJ'
      clear hJ' hall
      gi_wp2
      go_end0
      exact ⟨⟨_, rfl⟩, _, .inl HJ3.out⟩
    | succ m =>
      have hi1 : i < 4352 := by omega
      have hi2 : ((i : Nat) : Int) < 4352 := by omega
      have hw1 : IntKind.i64.wrap (((i : Nat) : Int) * 256) = ((256 * i : Nat) : Int) := by rw [show ((i : Nat) : Int) * 256 = ((256 * i : Nat) : Int) from by omega]; exact wrap_id (by omega) (by omega)
      have hw2 : IntKind.i64.wrap (((i : Nat) : Int) + 1) = ((i + 1 : Nat) : Int) := by rw [show ((i : Nat) : Int) + 1 = ((i + 1 : Nat) : Int) from by omega]; exact wrap_id (by omega) (by omega)
      obtain ⟨f, hf⟩ : ∃ f, 256 * i = f := ⟨_, rfl⟩
      rw [hf] at hw1
      have hff : f ≤ 1113856 := by omega
      have hld : (l.drop k).length = n - k := by rw [List.length_drop, HN.out]
      have HF := Lib.hid hf
      obtain ⟨W1, hW1⟩ : ∃ W1, wr.alloc (.cells Tryd.zeroCells139 139) = W1 := ⟨_, rfl⟩
      have B1 : Below wr.heap.size wr W1 := by rw [← hW1]; exact (Below.refl _ _).alloc (Nat.le_refl _) _
      have hR1 : W1.heap[wr.heap.size]? = some (.cells Tryd.zeroCells139 139 (0, 0)) := by rw [← hW1]; exact heap_alloc_new _ _
      have CALL := draw_any f hff o' (l.drop k) cap' (mapL_drop k HM.out) (by rw [hld]; omega) (by rw [hld]; omega) W1 (hA.out.below B1)
      rw [hld] at CALL
      have HC := Lib.hid CALL
      have HB1 := Lib.hid B1
      have HR1 := Lib.hid hR1
      have HW1 := Lib.hid hW1
      have HJ' := Lib.hid hJ'
      clear CALL B1 hR1 hW1 hJ' hf hld
      gi_wp2_with fail
      rw [HW1.out]
      refine ⟨trivial, (callsIn_wide.2 HC.out).mono ?_⟩
      rintro e w' ⟨k2, o2, cap2, rfl, hk2, hA2, hcap2, hT2, hI2, hB2⟩
      rw [List.length_drop, HN.out] at hk2 hcap2
      rw [List.length_drop, HN.out]
      have hrow := row_drop l k i hT.out
      rw [HF.out] at hrow
      rw [hrow]
      obtain ⟨C, hC⟩ : ∃ C, cellsI (rowM l i) = C := ⟨_, rfl⟩
      rw [hC]
      have hCs : C.size = 256 := by rw [← hC, cellsI_size, rowM_length]
      have HI : Hid ((Tryd.prog.info? 139).map (·.size) = some C.size) := Lib.hid (by rw [hCs]; exact blk_info)
      have HOLD : Hid ((Tryd.zeroCells139).size = C.size) := Lib.hid (by rw [hCs, zero_row, cellsI_size, rowF_len])
      have HONE : Hid (C.all (·.oneCell') = true) := Lib.hid (by rw [← hC]; exact cellsI_one _)
      have r2 : w'.heap[wr.heap.size]? = some (.cells Tryd.zeroCells139 139 (0, 0)) := (hB2.block _ (Array.getElem?_eq_some_iff.1 HR1.out).1).trans HR1.out
      have HR2 := Lib.hid r2
      have B3 : Below wr.heap.size wr (w'.setRow wr.heap.size C) := below_setRow ((HB1.out.trans (hB2.mono HB1.out.size))) (Nat.le_refl _) _
      have HR3 : Hid ((w'.setRow wr.heap.size C).heap[wr.heap.size]? = some (.cells C 139 (0, 0))) := Lib.hid (setRow_heap _ _ _ _ _ _ r2)
      have HA3 : Hid (AtR (w'.setRow wr.heap.size C) o2 (l.drop (k + k2))) := Lib.hid (by
        rw [← List.drop_drop]
        have hb : Below wr.heap.size w' (w'.setRow wr.heap.size C) := below_setRow (Below.refl _ _) (Nat.le_refl _) _
        refine hA2.moves (S := fun b => wr.heap.size ≤ b) ⟨hb.os, hb.tape, hb.output, hb.size, fun b _ hb' => hb.block b (by omega)⟩ fun h b hb' => ?_
        have := hA.out.lt (by rw [List.length_drop] at h; omega) (hI2 b hb')
        omega)
      have HT3 : Hid (∀ y ∈ l.take (k + k2), y.2.1 < ((256 * (i + 1) : Nat) : Int)) := Lib.hid fun y hy => by
        rw [List.take_add] at hy
        rcases List.mem_append.1 hy with h | h
        · have := hT.out y h; omega
        · have := hT2 y h; have := HF.out; omega
      have HI3 : Hid (∀ b, inB o2 b → inB o b) := Lib.hid fun b h => hI.out b (hI2 b h)
      obtain ⟨fn, tmps, assign, body, hy, hR⟩ := HY.out (fun _ => False) _ (i, rowM l i) _ (by rw [take_row (rowsN_get l hi1)]; exact List.take_prefix _ _) (HJ.out _ _ _ _ _ HJ'.out (Moves.of_below B3) (fun _ h => h.elim))
      replace hy : (Instr.yield lp #[.int .i64 (f : Nat), .agg C]).run Tryd.prog (w'.setRow wr.heap.size C) = .ok (.round lp fn tmps assign body) (w'.setRow wr.heap.size C) := by
        rw [← hC, ← HF.out]; rw [← hC] at hy; exact hy
      have HRR := Lib.hid hR
      clear hR hrow hC hCs hT hT2 hI hI2 hA hA2 hB2
      gi_wp2_with (first | (refine wpListIn_loadT rfl 139 (.tmp 5) rfl wr.heap.size rfl 139 C (0, 0) _ HR3.out Tryd.underlying139 rfl HI.out ?_) | (refine wpListIn_storeT rfl 139 (.tmp 5) (.tmp 17) rfl wr.heap.size C rfl rfl 139 _ HR2.out HI.out HOLD.out HONE.out rfl ?_) | fail)
      refine HRR.out.mono ?_
      rintro e w3 (⟨rfl, hJ4, hk4⟩ | ⟨rfl, hJx4, _⟩)
      · have HJ5 : Hid (J (fun _ => False) ((rowsN l).take (i + 1)) w3) := by rw [← take_row (rowsN_get l hi1)]; exact Lib.hid hJ4
        have HA5 : Hid (AtR w3 o2 (l.drop (k + k2))) := Lib.hid (HA3.out.moves hk4 fun h0 b hb h => h.2 ⟨HI3.out b hb, by rw [List.length_drop] at h0; omega⟩)
        clear hJ4 hk4
        gi_wp2
        gi_roundg m
        case measure => omega
        case rel => exact ⟨i + 1, k + k2, o2, cap2, by omega, rfl, by congr 1; omega, by omega, by omega, HA5, HT3, HI3, HJ5.out⟩
      · gi_wp2
        refine bodyPost_ret (results_none rfl _ _ _) rfl ?_
        exact ⟨⟨_, rfl⟩, _, .inr ⟨_, by rw [take_row (rowsN_get l hi1)]; exact List.take_prefix _ _, hJx4⟩⟩
/-- drawn: the iterator. -/
theorem drawn_any (o : Option Addr) (n cap : Nat) (w : World) : Calls Tryd.prog 60 #[.slice o n cap] w fun e w' => e = .returned (.func (.func 81) #[] #[.pointer (some ⟨w.heap.size, 0, none⟩)]) ∧ w.alloc (.cells #[.slice o n cap] 44) = w' := by
  go_enter Tryd.func60, Tryd.ntmps60
  go_wp2
  go_ret
  exact ⟨rfl, rfl⟩
end Go.Proofs.YtcnbcaljpgdcpaaDoor

namespace Go.Proofs.YtcnbcaljpgdcpaaDoor
open Go.RowKit Go.Shelf Go.Maps
attribute [local go_sem] Oper.semAt_some

/-- The rows of a trie, numbered. -/
def rowsZ (t : TrieD) : List (Nat × List Int) := (rowsT t).zipIdx.map fun x => (x.2, x.1)
theorem rowsZ_len (t : TrieD) : (rowsZ t).length = t.1.length := by unfold rowsZ rowsT; simp
theorem rowsZ_get (t : TrieD) {i : Nat} {a : Int} {b : List Int} (h : t.1[i]? = some a) (hb : t.2[a.toNat]? = some b) : (rowsZ t)[i]? = some (i, b) := by
  unfold rowsZ rowsT
  rw [List.getElem?_map, List.getElem?_zipIdx, List.getElem?_map, h]
  simp [List.getD, hb]
theorem run_arrayAtT (a : Option Addr) (sc : Nat) (w : World) : (Instr.arrayAt 139 (.slice a 256 sc)).run Tryd.prog w = .ok (.pointer a) w := by
  simp [Instr.arrayAt, underlying, Tryd.underlying139, Result.andThen]
attribute [local go_sem] run_arrayAtT
theorem run_loadT {P : Program} {ty : TypeId} {d : TypeDesc} (a : Addr) (cs : List Value) (w : World) (hu : P.underlying ty = some d) (hd : (match d with | .struct _ | .array _ _ => true | _ => false) = true) (hi : (P.info? ty).map (·.size) = some cs.length) (h : ∀ j v, cs[j]? = some v → w.cell? (a.add j) = some v) :
    (loadVar ty a).run P w = .ok (.agg cs.toArray) w := by
  have hz : (sizeOf ty).run P w = .ok cs.length w := by
    cases hp : P.info? ty with
    | none => rw [hp] at hi; cases hi
    | some i => rw [hp] at hi; simp at hi; simp [sizeOf, typeInfo, hp, hi, Result.andThen]
  have hl := run_loadCells_list (P := P) (w := w) a cs h
  cases d <;> simp at hd <;> simp [loadVar, isAgg, underlying, hu, hz, hl, Result.andThen]
theorem wpListIn_loadTA {P : Program} {F : Fence} {n' : Nat} {ops : Array Oper} {rest : List Oper} {o : Oper} {a : Act} {w : World} {Q : Exit → Act → World → Prop} (hgd : o.guard = none) (ty : TypeId) (x : Operand) (ho : o.op = .load ty x)
    (p : Addr) (hx : a.eval x = .pointer (some p)) (cs : List Value) (d : TypeDesc) (hc : ∀ j v, cs[j]? = some v → w.cell? (p.add j) = some v)
    (hu : P.underlying ty = some d) (hd : (match d with | .struct _ | .array _ _ => true | _ => false) = true) (hi : (P.info? ty).map (·.size) = some cs.length)
    (h : wpListIn F n' P ops Q rest (a.put o.dst (.agg cs.toArray)) w) : wpListIn F n' P ops Q (o :: rest) a w := by
  refine wpListIn_plain hgd fun K hK => ?_
  unfold Oper.wpIn
  refine ⟨?_, ?_⟩
  · simp [Oper.about, ho]
  · rw [Oper.semAt_plain F _ _ (by rw [ho]; intro c hc'; cases hc')]
    unfold execOp
    simp only [ho, hx, Instr.loadAt, Instr.sureAddr, Sem.run_bind, Sem.run_pure, Result.andThen_ok, run_loadT p cs w hu hd hi hc]
    exact hK _ _ h
end Go.Proofs.YtcnbcaljpgdcpaaDoor

namespace Go.Proofs.YtcnbcaljpgdcpaaDoor
open Go.RowKit Go.Shelf Go.Maps

/-- A builder that the iterator's blocks are none of. -/
theorem BldT.moves {w w' : World} {base : Nat} {X X' : Nat → Prop} {G M : Nat} {io bo : Option Addr} {ic bc : Nat} {t : TrieD} (h : BldT w base X G M io ic bo bc t) (hm : Moves X w w') (hX : ∀ k, X' k → (X k ∨ w.heap.size ≤ k) ∧ k < w'.heap.size) (hG : ¬ X G) (hM : ¬ X M) :
    BldT w' base X' G M io ic bo bc t := by
  obtain ⟨cs, hcs, hbc⟩ := h.bl
  have ho : ∀ {o : Option Addr} {n c k : Nat}, (Value.slice o n c).ownBlock = some k → inB o k := fun {o n c k} hk => by
    cases o with
    | none => simp [Value.ownBlock] at hk
    | some a => exact ⟨a, rfl, by simpa [Value.ownBlock] using hk⟩
  have hi : ∀ {o : Option Addr} {n c k : Nat} {e : TypeId} {b m s : Nat} {xs : List Value}, w.ownsRow b e s (.slice o n c) m xs → inB o k → k < w.heap.size := fun {o n c k e b m s xs} hr hk => by
    obtain ⟨a, rfl, rfl⟩ := hk
    obtain ⟨cur, h1, _⟩ := own_rowT hr (show (Value.slice (some a) n c).ownBlock = some a.block from rfl)
    exact (Array.getElem?_eq_some_iff.1 h1).1
  refine ⟨h.lt, (hm.block _ (Array.getElem?_eq_some_iff.1 h.row).1 hG).trans h.row, h.pl.row (hm.block _ h.pl.lt hM), own_moves1N h.ix hm (fun k hk => h.nx.1 k (ho hk)), ⟨cs, own_moves1N hcs hm (fun k hk => h.nx.2 k (ho hk)), fun j b hj => ?_⟩, fun k hk hx => ?_, fun k hk hx => ?_⟩
  · obtain ⟨g, sc, cur, k1, k2, k3, k4, k5, k6, k7⟩ := hbc j b hj
    have hg := (Array.getElem?_eq_some_iff.1 k4).1
    exact ⟨g, sc, cur, k1, k2, k3, (hm.block _ hg k7).trans k4, k5, k6, fun hx => by rcases (hX g hx).1 with h1 | h1; { exact k7 h1 }; { omega }⟩
  · have := hi h.ix hk
    rcases (hX k hx).1 with h1 | h1
    · exact h.nx.1 k hk h1
    · omega
  · have := hi hcs hk
    rcases (hX k hx).1 with h1 | h1
    · exact h.nx.2 k hk h1
    · omega
/-- A number more in Index. -/
theorem BldT.push {w : World} {base : Nat} {X : Nat → Prop} {G M : Nat} {io bo : Option Addr} {ic bc : Nat} {ix : List Int} {bs : List (List Int)} (h : BldT w base X G M io ic bo bc (ix, bs)) (hbase : base ≤ w.heap.size) (hX : ∀ k, X k → k < w.heap.size) (hl : ix.length ≤ 1000000) (v : Int) :
    ∃ g9 c9 w9, (appSem #[22, 22] 22 #[.slice io ix.length ic, .slice (some ⟨w.heap.size, 0, none⟩) 1 1]).run Tryd.prog (w.alloc (.cells #[.int .i64 v] 3)) = .ok (.slice (some ⟨g9, 0, none⟩) (ix.length + 1) c9) w9 ∧
      w9.cell? ⟨G, 0, none⟩ = some (.slice io ix.length ic) ∧ w9.frozen? ⟨G, 0, none⟩ = false ∧ G < w9.heap.size ∧
      BldT (w9.setCell ⟨G, 0, none⟩ (.slice (some ⟨g9, 0, none⟩) (ix.length + 1) c9)) base X G M (some ⟨g9, 0, none⟩) c9 bo bc (ix ++ [v], bs) ∧
      Moves (fun k => k = G ∨ inB io k) w (w9.setCell ⟨G, 0, none⟩ (.slice (some ⟨g9, 0, none⟩) (ix.length + 1) c9)) := by
  obtain ⟨cs, hcs, hbc⟩ := h.bl
  have hix := h.ix
  have hrow := h.row
  have hlt := h.lt
  simp only at hix hrow hcs hbc
  obtain ⟨n, hn⟩ : ∃ n, ix.length = n := ⟨_, rfl⟩
  obtain ⟨m, hmm⟩ : ∃ n, bs.length = n := ⟨_, rfl⟩
  rw [hn] at hix hrow hl
  rw [hmm] at hrow hcs
  rw [hn]
  have a1 : Below w.heap.size w (w.alloc (.cells #[.int .i64 v] 3)) := (Below.refl _ _).alloc (Nat.le_refl _) _
  have hix1 := own_below hix a1
  obtain ⟨i0, hi0, hz0, hz1, hz2⟩ := info_parts infoIntT
  obtain ⟨v', w9, hr, h2, h3, h4, hat⟩ := run_append_own_at (P := Tryd.prog) (w := w.alloc (.cells #[.int .i64 v] 3)) base 22 22 3 i0 (.int .i64 0) 1 8 Tryd.underlying22 hi0 hz0 hz1 hz2 rfl (by decide) _ n _ hix1 ⟨w.heap.size, 0, none⟩ 1 1 [.int .i64 v] rfl
    (cell_one_new _ _ _) (by simp [Value.oneCell']) (by unfold maxLen; omega) (by omega) (by simp; omega)
  obtain ⟨o9, c9, rfl⟩ := own_form h2
  have hne9 : ∃ g9, o9 = some ⟨g9, 0, none⟩ := by
    rcases h2.2 with ⟨_, h0⟩ | ⟨g, cap, cu, h', _⟩
    · omega
    · exact ⟨g, by injection h'⟩
  obtain ⟨g9, rfl⟩ := hne9
  have z1 : (w.alloc (.cells #[.int .i64 v] 3)).heap.size = w.heap.size + 1 := by simp
  have hob : ∀ k, (Value.slice io n ic).ownBlock = some k → inB io k := fun k hk => by
    cases io with
    | none => simp [Value.ownBlock] at hk
    | some a => exact ⟨a, rfl, by simpa [Value.ownBlock] using hk⟩
  have hGb : (Value.slice io n ic).ownBlock ≠ some G := fun h => by
    obtain ⟨_, _, h⟩ := own_rowT hix h
    omega
  have hMb : (Value.slice io n ic).ownBlock ≠ some M := fun h => by
    obtain ⟨_, _, h⟩ := own_rowT hix h
    omega
  have hGw := (Array.getElem?_eq_some_iff.1 hrow).1
  have hMw := h.pl.lt
  have rG9 : w9.heap[G]? = some (bldO io n ic bo m bc M) := by
    rw [h3.block G (by omega) (fun e => hGb e.symm), a1.block G (by omega)]
    exact hrow
  have m9 : Moves (fun k => inB io k) w w9 := (Moves.of_below a1).trans ((Moves.of_grownN h3).mono fun k hk => hob k hk.symm)
  have m10 : Moves (fun k => k = G ∨ inB io k) w (w9.setCell ⟨G, 0, none⟩ (.slice (some ⟨g9, 0, none⟩) (n + 1) c9)) := (m9.mono fun k hk => .inr hk).trans (Moves.setCell (.inl rfl))
  have hfar : ∀ g cur, w.heap[g]? = some (.cells cur 22 (0, 0)) → base ≤ g → ¬ (g = G ∨ inB io g) := fun g cur hg hb hk => by
    rcases hk with rfl | ⟨a, rfl, rfl⟩
    · omega
    · obtain ⟨cur2, h2, _⟩ := own_rowT hix (show (Value.slice (some a) n ic).ownBlock = some a.block from rfl)
      rw [hg] at h2
      injection h2 with h2
      injection h2 with _ h3 _
      exact absurd h3 (by decide)
  have hg9 : inB io g9 ∨ w.heap.size < g9 := by
    rcases hat with e | e
    · exact .inl (hob g9 (e ▸ rfl))
    · have : g9 = (w.alloc (.cells #[.int .i64 v] 3)).heap.size := by simpa [Value.ownBlock] using e
      exact .inr (by omega)
  refine ⟨g9, c9, w9, hr, by rw [cell_of_row _ _ 0 _ _ _ rG9]; rfl, frozen_of_row _ _ _ _ _ rG9, (Array.getElem?_eq_some_iff.1 rG9).1, ⟨hlt, ?_, ?_, ?_, ⟨cs, ?_, fun j b hj => ?_⟩, ?_, h.nx.2⟩, m10⟩
  · rw [heap_setCell_same _ _ _ _ _ _ rG9]
    simp only [List.length_append, List.length_singleton, hn, hmm]
    rfl
  · refine h.pl.row ?_
    rw [heap_setCell_other _ _ _ _ (fun e => hlt.2.2 e.symm), h3.block M (by omega) (fun e => hMb e.symm), a1.block M (by omega)]
  · simp only [List.length_append, List.length_singleton, hn, List.map_append, List.map_cons, List.map_nil]
    refine own_moves1N h2 (Moves.setCell (S := fun k => k = G) rfl) fun k hk e => ?_
    obtain ⟨_, _, h⟩ := own_rowT h2 hk
    omega
  · simp only [hmm]
    refine own_moves1N hcs m10 fun k hk => ?_
    obtain ⟨cur2, h2, h5⟩ := own_rowT hcs hk
    exact hfar k cur2 h2 h5
  · obtain ⟨g, sc, cur, k1, k2, k3, k4, k5, k6, k7⟩ := hbc j b hj
    have hgw := (Array.getElem?_eq_some_iff.1 k4).1
    refine ⟨g, sc, cur, k1, k2, k3, (m10.block _ hgw fun hk => ?_).trans k4, k5, fun a ha e => ?_, k7⟩
    · rcases hk with rfl | ⟨a, rfl, e⟩
      · omega
      · exact k6 a rfl e
    · cases ha
      simp only at e
      subst e
      rcases hg9 with ⟨a, rfl, e⟩ | h5
      · exact k6 a rfl e
      · omega
  · rintro k ⟨a, ha, rfl⟩ hx
    cases ha
    simp only at hx
    rcases hg9 with h5 | h5
    · exact h.nx.1 g9 h5 hx
    · have := hX g9 hx
      omega
end Go.Proofs.YtcnbcaljpgdcpaaDoor
