/- putBlock. packed: a trie's bytes. Pack, Size. -/
import Derived.Test.YtcnbcaljpgdcpaaDoorBunA13
import Derived.StillTailTactics
import Derived.Test.YtcnbcaljpgdcpaaDoorBunA6
import Derived.Test.YtcnbcaljpgdcpaaDoorBunA11
import Derived.Test.YtcnbcaljpgdcpaaDoorBunA12
import Derived.Lib.SlBytesConst
namespace Go.Proofs.YtcnbcaljpgdcpaaDoor
open Go.RowKit Go.Shelf Go.Maps
attribute [local go_sem] Oper.semAt_some
/-- A block's load, a look-up, a store into the map, as one step each. -/
def ldA (a : Addr) : Sem Value := loadVar 82 a
theorem ldA_hide (a : Addr) : loadVar 82 a = ldA a := rfl
def lkA (m k : Value) : Sem Value := Instr.lookup 73 m k true
theorem lkA_hide (m k : Value) : Instr.lookup 73 m k true = lkA m k := rfl
def muA (m k v : Value) : Sem Unit := Instr.mapUpdate 73 m k v
theorem muA_hide (m k v : Value) : Instr.mapUpdate 73 m k v = muA m k v := rfl
attribute [local go_sem ↓] app_hide ldA_hide lkA_hide muA_hide

theorem WrI.put {w w' : World} {base B M n : Nat} {l m : List UInt8} (h : WrI w base B M l n) (hm : LaidM w w' base B #[.map (some M)] 76 l m) : WrI w' base B M (l ++ m) n := by
  obtain ⟨D, ho, hk⟩ := h.known
  have hM : w'.heap[M]? = w.heap[M]? := hm.moves.block M ho.lt fun hs => by
    rcases hs with e | e
    · exact h.lt.2.2 e.symm
    · have := (h.laid.row (by decide) e).1
      have := h.lt.2.1
      omega
  obtain ⟨es, clock, h1, h2⟩ := ho
  refine ⟨h.lt, hm.lies, D, ⟨es, clock, hM.trans h1, h2⟩, fun c z hc hh => ?_⟩
  obtain ⟨v, hv, hkv⟩ := hk c z hc hh
  exact ⟨v, hv, hkv.turn hm.moves (fun k hs hb => by rcases hs with rfl | hs; { have := h.lt.1; omega }; { exact .inl hs }) hm.row⟩
theorem WrI.below {w w' : World} {base B M n : Nat} {l : List UInt8} (h : WrI w base B M l n) (hb : Below w.heap.size w w') : WrI w' base B M l n := by
  have := h.put (h.laid.below hb)
  rwa [List.append_nil] at this
theorem WrI.cell1 {w : World} {base B M n : Nat} {l : List UInt8} (h : WrI w base B M l n) : w.cell? ⟨B, 1, none⟩ = some (.map (some M)) := by
  obtain ⟨o, c, hB, _⟩ := h.laid
  rw [cell_of_row _ _ 1 _ _ _ hB]; rfl
theorem zeroLaid (w : World) : (zeroValue 74).run Tryd.prog w = .ok (.slice none 0 0) w := by kernel_rfl
/-- What putBlock leaves. -/
def BlockQ (w : World) (base B M n : Nat) (l m : List UInt8) (e : Ending) (w' : World) : Prop := (∃ v, e = .returned v) ∧ WrI w' base B M (l ++ m) (n + 1) ∧ Moves (fun k => k = B ∨ k = M ∨ RowOf w B k) w w'
theorem atB_block (w : World) (b : List Int) : (w.alloc (.cells (cellsI b) 82)).heap[w.heap.size]? = some (.cells (cellsI b) 82 (0, 0)) := heap_alloc_new _ _
theorem ints_block {w : World} {k : Nat} {b : List Int} (h : w.heap[k]? = some (.cells (cellsI b) 82 (0, 0))) : IntsT w (some ⟨k, 0, none⟩) b := fun _ => ⟨k, 0, rfl, fun j x hx => by rw [Nat.zero_add, cell_of_row _ _ j _ _ _ h]; exact cellsI_get hx⟩
set_option maxRecDepth 100000 in
set_option maxHeartbeats 4000000 in
theorem block_met {base B M n : Nat} {l : List UInt8} {b : List Int} (hb : fitsL b) (w : World) (hI : WrI w base B M l n) (hbase : base ≤ w.heap.size) (hlen : l.length ≤ 50000000) (D : DataW Value) (ho : w.ownsMap Tryd.prog 82 heldR M n D) (hk : ∀ c z, fitsL c → has D (kB c) = true → ∃ v, D.atKey (kB c) z = .held v ∧ KnownV w base B v (runsB 1 c)) (hh : has D (kB b) = true) :
    Calls Tryd.prog 50 #[.pointer (some ⟨B, 0, none⟩), .agg (cellsI b)] w (BlockQ w base B M n l (runsB 1 b)) := by
  obtain ⟨P, hP⟩ : ∃ P, BlockQ w base B M n l (runsB 1 b) = P := ⟨_, rfl⟩
  have HP := Lib.hid hP
  rw [hP]
  have hrb := runsB_pos hb
  obtain ⟨W, hW⟩ : ∃ W, w.alloc (.cells (cellsI b) 82) = W := ⟨_, rfl⟩
  have A1 : Below w.heap.size w W := by rw [← hW]; exact (Below.refl _ _).alloc (Nat.le_refl _) _
  have z1 : W.heap.size = w.heap.size + 1 := by rw [← hW]; simp
  have r1 : W.heap[w.heap.size]? = some (.cells (cellsI b) 82 (0, 0)) := by rw [← hW]; exact heap_alloc_new _ _
  obtain ⟨es, clock, ho1, ho2⟩ := ho
  obtain ⟨Y, hY⟩ : ∃ Y, (W.alloc (.cells #[.slice none 0 0] 74)).drew = Y := ⟨_, rfl⟩
  have AY : Below W.heap.size W Y := by rw [← hY]; exact ((Below.refl _ _).alloc (Nat.le_refl _) _).drew
  have A2 : Below w.heap.size w Y := A1.trans (AY.mono A1.size)
  have rY : Y.heap[W.heap.size]? = some (.cells #[.slice none 0 0] 74 (0, 0)) := by rw [← hY]; exact heap_alloc_new _ _
  have r1Y := row_below r1 AY
  have hown : Y.ownsMap Tryd.prog 82 heldR M n D := ⟨es, clock, row_below ho1 A2, ho2⟩
  obtain ⟨v, ps, hlk, hv⟩ := hown.look_ok keyBlkA Tryd.underlying73 (zeroLaid _) (show heldR (.slice none 0 0) = _ from rfl) (key_blkA hb)
  obtain ⟨v', hv', hkv⟩ := hk b (.held (.slice none 0 0)) hb hh
  rw [hv'] at hv
  obtain rfl : v = v' := by injection hv with hv; injection hv with hv _; injection hv
  rw [hh] at hlk
  obtain ⟨o, cap, rfl, hAt⟩ := hkv.at
  obtain ⟨q, hq⟩ : ∃ q, (runsB 1 b).length = q := ⟨_, rfl⟩
  have hlk2 : (lkA (.map (some M)) (.agg (cellsI b))).run Tryd.prog Y = .ok (.tuple #[.slice o (runsB 1 b).length cap, .bool true]) Y := hlk
  have hld : (ldA ⟨w.heap.size, 0, none⟩).run Tryd.prog Y = .ok (.agg (cellsI b)) Y := run_loadVar_row Y w.heap.size 82 82 (cellsI b) (0, 0) _ r1Y Tryd.underlying82 rfl (by rw [cellsI_size, hb.2]; exact blk_infoA)
  have hownW : W.drew.ownsMap Tryd.prog 82 heldR M n D := ⟨es, clock, row_below ho1 A1.drew, ho2⟩
  obtain ⟨vW, psW, hlkW, hvW⟩ := hownW.look_ok keyBlkA Tryd.underlying73 (zeroLaid _) (show heldR (.slice none 0 0) = _ from rfl) (key_blkA hb)
  obtain rfl : vW = .slice o (runsB 1 b).length cap := by rw [hv'] at hvW; injection hvW with hv; injection hv with hv _; injection hv
  rw [hh] at hlkW
  have hlkW2 : (lkA (.map (some M)) (.agg (cellsI b))).run Tryd.prog W.drew = .ok (.tuple #[.slice o (runsB 1 b).length cap, .bool true]) W.drew := hlkW
  have hldW : (ldA ⟨w.heap.size, 0, none⟩).run Tryd.prog W.drew = .ok (.agg (cellsI b)) W.drew := run_loadVar_row W.drew w.heap.size 82 82 (cellsI b) (0, 0) _ r1 Tryd.underlying82 rfl (by rw [cellsI_size, hb.2]; exact blk_infoA)
  clear hownW hlkW hvW
  have hIW := hI.below A1
  have g2 := hIW.cell1
  have hBlt : B < W.heap.size := World.block_lt_of_cell? _ _ g2
  obtain ⟨w2, hw2⟩ : ∃ w2, (W.alloc (.cells #[.slice o (runsB 1 b).length cap] 74)).drew = w2 := ⟨_, rfl⟩
  have b2 : Below W.heap.size W w2 := by rw [← hw2]; exact ((Below.refl _ _).alloc (Nat.le_refl _) _).drew
  have r2 : w2.heap[W.heap.size]? = some (.cells #[.slice o (runsB 1 b).length cap] 74 (0, 0)) := by rw [← hw2]; exact heap_alloc_new _ _
  have hI2 := hIW.below b2
  have b02 := A1.trans (b2.mono A1.size)
  have hI3 : WrI w2.drew base B M l n := hI2.below (Below.refl w2.heap.size w2).drew
  have HCALL := Lib.hid (put_anyA (by decide : 76 ≠ 5) (runsB 1 b) o cap w2.drew hI3.laid (Nat.le_trans hbase b02.size) (hAt.below (b02.drew)) (by omega))
  have k2 : w2.cell? ⟨W.heap.size, 0, none⟩ = some (.slice o (runsB 1 b).length cap) := by rw [cell_of_row _ _ 0 _ _ _ r2]; rfl
  have l2 := World.block_lt_of_cell? _ _ k2
  have hBlt2 : B < w2.heap.size := Nat.lt_of_lt_of_le hBlt b2.size
  have HI3 := Lib.hid hI3
  have HB02 := Lib.hid (b02.drew)
  have HW := Lib.hid hW
  have HRW : Hid (∀ k, RowOf w2.drew B k → k < w.heap.size → RowOf w B k) := Lib.hid fun k hk hlt => by
    obtain ⟨a, m, c, h1, rfl⟩ := hk
    refine ⟨a, m, c, ?_, rfl⟩
    obtain ⟨o1, c1, hB1, _⟩ := hI.laid
    rw [laidO_cell (row_below hB1 b02.drew)] at h1
    rw [laidO_cell hB1]; exact h1
  have HOWN := Lib.hid hlen
  have HY := Lib.hid hY
  have HYY := Lib.hid (show Y.heap.size = W.heap.size + 1 from by rw [← hY]; simp)
  rw [hq] at hlk2 hlkW2 HCALL k2 hw2
  have HW2 := Lib.hid hw2
  rw [← hY] at hlk2 hld
  have HBB := Lib.hid hI.lt
  have HQ := Lib.hid hq
  clear hI hbase hlen ho1 ho2 hk hh hrb hW A1 hown hlk hv hv' hkv hAt hIW hw2 b2 r2 hI2 b02 hI3 r1 hP rY r1Y AY A2 hY z1
  go_enter Tryd.func50, Tryd.ntmps50
  go_wp2_with fail
  rw [HW.out]
  go_region
  all_goals
    go_wp2_with fail
    rw [HW2.out]
    clear hlk2 hlkW2 hld hldW g2
    go_still_tail 4, (by kernel_rfl)
    change wpList _ _ _ _ _ w2.drew
    go_wp2_with fail
    refine HCALL.out.mono ?_
    rintro e w3 ⟨⟨v, rfl⟩, hm⟩
    have HM := Lib.hid hm
    clear hm
    go_wp2_with fail
    go_end0
    have hm := HM.out
    focus
      rw [← HP.out]
      refine ⟨⟨_, rfl⟩, ?_, ?_⟩
      · have hW3 := HI3.out.put hm
        obtain ⟨D3, ho3, hk3⟩ := hW3.known
        exact ⟨hW3.lt, hW3.laid, D3, ho3.mono (by omega), hk3⟩
      · refine ⟨hm.moves.os.trans HB02.out.os, hm.moves.tape.trans HB02.out.tape, hm.moves.output.trans HB02.out.output, Nat.le_trans HB02.out.size hm.moves.size, fun k hk hs => (hm.moves.block k (Nat.lt_of_lt_of_le hk HB02.out.size) fun hx => ?_).trans (HB02.out.block k hk)⟩
        rcases hx with rfl | hx
        · exact hs (.inl rfl)
        · exact hs (.inr (.inr (HRW.out k hx hk)))
/-- Bytes that a row of the call's own holds are known ones. -/
theorem knownV_own {w : World} {base b2 B : Nat} {o : Option Addr} {l : List UInt8} {c : Nat} (h : w.ownsRow base 5 1 (.slice o l.length c) l.length (byteCells l)) (hl : 0 < l.length) (hb : b2 ≤ base) (hn : ∀ k, RowOf w B k → k < base) : KnownV w b2 B (.slice o l.length c) l := by
  rcases h.2 with ⟨_, h0⟩ | ⟨g, cap', cur, e, hg0, hg, _, _, _, htake⟩
  · omega
  · obtain ⟨rfl, rfl⟩ : o = some ⟨g, 0, none⟩ ∧ c = cap' := by simpa using e
    refine ⟨g, c, cur, rfl, by omega, hg, fun j u hj => ?_, fun hr => by have := hn g hr; omega⟩
    have h1 : (byteCells l)[j]? = some (.int .u8 (u.toNat : Nat)) := by unfold byteCells; rw [List.getElem?_map, hj]; rfl
    rw [← htake, List.getElem?_take] at h1
    split at h1
    · rwa [Array.getElem?_toList] at h1
    · cases h1
theorem WrI.more {w wm : World} {base B M n : Nat} {l : List UInt8} {b : List Int} {v : Value} {D : DataW Value} (h : WrI w base B M l n) (hb : fitsL b) (hm : Moves (fun k => k = M) w wm) (hT : IsMap D) (hk : ∀ c z, fitsL c → has D (kB c) = true → ∃ v, D.atKey (kB c) z = .held v ∧ KnownV w base B v (runsB 1 c)) (ho : wm.ownsMap Tryd.prog 82 heldR M (n + 1) (D.put (kB b) (.held v))) (hv : KnownV w base B v (runsB 1 b)) : WrI wm base B M l (n + 1) := by
  obtain ⟨o, c, hB, hown⟩ := h.laid
  have hBm := row_keep hB hm h.lt.2.2
  have hrow : ∀ k, RowOf wm B k → RowOf w B k := fun k ⟨a, q, c', h1, h2⟩ => ⟨a, q, c', by rw [laidO_cell hBm] at h1; rw [laidO_cell hB]; exact h1, h2⟩
  have hturn : ∀ {v l}, KnownV w base B v l → KnownV wm base B v l := fun hv => hv.turn hm (fun k hk hb => by subst hk; have := h.lt.2.1; omega) (fun k hk => .inl (hrow k hk))
  refine ⟨h.lt, ⟨o, c, hBm, own_moves1N hown hm (fun k hk e => ?_)⟩, _, ho, fun c z hc hh => ?_⟩
  · obtain ⟨_, _, h3⟩ := own_rowT hown hk
    have := h.lt.2.1
    omega
  · by_cases e : b = c
    · subst e
      exact ⟨v, atKey_put_same hT (by unfold kB; trivial) _ _, hturn hv⟩
    · have hne : kB c ≠ kB b := fun h' => e (kB_inj hb hc h'.symm)
      rw [has_put_other hne] at hh
      obtain ⟨v', h1, h2⟩ := hk c z hc hh
      exact ⟨v', by rw [atKey_put_other hne]; exact h1, hturn h2⟩
set_option maxRecDepth 100000 in
set_option maxHeartbeats 4000000 in
theorem block_new {base B M n : Nat} {l : List UInt8} {b : List Int} (hb : fitsL b) (w : World) (hI : WrI w base B M l n) (hbase : base ≤ w.heap.size) (hn : n < 1000000) (hlen : l.length ≤ 50000000) (D : DataW Value) (ho : w.ownsMap Tryd.prog 82 heldR M n D) (hk : ∀ c z, fitsL c → has D (kB c) = true → ∃ v, D.atKey (kB c) z = .held v ∧ KnownV w base B v (runsB 1 c)) (hh : has D (kB b) = false) :
    Calls Tryd.prog 50 #[.pointer (some ⟨B, 0, none⟩), .agg (cellsI b)] w (BlockQ w base B M n l (runsB 1 b)) := by
  obtain ⟨P, hP⟩ : ∃ P, BlockQ w base B M n l (runsB 1 b) = P := ⟨_, rfl⟩
  have HP := Lib.hid hP
  rw [hP]
  have hrb := runsB_pos hb
  have hT := ho.isMap
  obtain ⟨W, hW⟩ : ∃ W, w.alloc (.cells (cellsI b) 82) = W := ⟨_, rfl⟩
  have A1 : Below w.heap.size w W := by rw [← hW]; exact (Below.refl _ _).alloc (Nat.le_refl _) _
  have z1 : W.heap.size = w.heap.size + 1 := by rw [← hW]; simp
  have r1 : W.heap[w.heap.size]? = some (.cells (cellsI b) 82 (0, 0)) := by rw [← hW]; exact heap_alloc_new _ _
  have hkM := ho.lt
  obtain ⟨es, clock, ho1, ho2⟩ := ho
  obtain ⟨Y, hY⟩ : ∃ Y, (W.alloc (.cells #[.slice none 0 0] 74)).drew = Y := ⟨_, rfl⟩
  have AY : Below W.heap.size W Y := by rw [← hY]; exact ((Below.refl _ _).alloc (Nat.le_refl _) _).drew
  have zY : Y.heap.size = W.heap.size + 1 := by rw [← hY]; simp
  have A2 : Below w.heap.size w Y := A1.trans (AY.mono A1.size)
  have rY : Y.heap[W.heap.size]? = some (.cells #[.slice none 0 0] 74 (0, 0)) := by rw [← hY]; exact heap_alloc_new _ _
  have r1Y := row_below r1 AY
  have hsz : (Tryd.prog.info? 82).map (·.size) = some (cellsI b).size := by rw [cellsI_size, hb.2]; exact blk_infoA
  have look : ∀ Z : World, Z.ownsMap Tryd.prog 82 heldR M n D → (lkA (.map (some M)) (.agg (cellsI b))).run Tryd.prog Z = .ok (.tuple #[.slice none 0 0, .bool false]) Z := fun Z hZ => by
    obtain ⟨v, ps, hlk, hv⟩ := hZ.look_ok keyBlkA Tryd.underlying73 (zeroLaid _) (show heldR (.slice none 0 0) = _ from rfl) (key_blkA hb)
    rw [atKey_of_not_has hh] at hv
    obtain rfl : v = .slice none 0 0 := by injection hv with hv; injection hv with hv _; injection hv
    rw [hh] at hlk
    exact hlk
  have hlk := look Y ⟨es, clock, row_below ho1 A2, ho2⟩
  have hlkW := look W.drew ⟨es, clock, row_below ho1 A1.drew, ho2⟩
  have hld : (ldA ⟨w.heap.size, 0, none⟩).run Tryd.prog Y = .ok (.agg (cellsI b)) Y := run_loadVar_row Y w.heap.size 82 82 (cellsI b) (0, 0) _ r1Y Tryd.underlying82 rfl hsz
  have hldW : (ldA ⟨w.heap.size, 0, none⟩).run Tryd.prog W.drew = .ok (.agg (cellsI b)) W.drew := run_loadVar_row W.drew w.heap.size 82 82 (cellsI b) (0, 0) _ r1 Tryd.underlying82 rfl hsz
  have hIW := hI.below A1
  have g2 := hIW.cell1
  have hBlt : B < W.heap.size := World.block_lt_of_cell? _ _ g2
  have hR := Runs_any (some ⟨w.heap.size, 0, none⟩) b 256 (by rw [hb.2]; omega) Y (ints_block r1Y)
  rw [hb.2] at hR
  have HR := Lib.hid hR
  have HPUT : Hid (∀ (w3 : World) (so : Option Addr), Below Y.heap.size Y w3 → AtU w3 so (runsL b) → (∀ k, inB so k → Y.heap.size ≤ k) →
      Calls Tryd.prog 51 #[.pointer (some ⟨W.heap.size, 0, none⟩), .int .i64 1, .slice so (runsL b).length (runsL b).length] w3 fun e w4 => (∃ v, e = .returned v) ∧ ∃ o4 c4 wm, w4.cell? ⟨B, 1, none⟩ = some (.map (some M)) ∧ B < w4.heap.size ∧ W.heap.size < w4.heap.size ∧ w4.cell? ⟨W.heap.size, 0, none⟩ = some (.slice o4 (runsB 1 b).length c4) ∧
        (ldA ⟨w.heap.size, 0, none⟩).run Tryd.prog w4.drew = .ok (.agg (cellsI b)) w4.drew ∧ (muA (.map (some M)) (.agg (cellsI b)) (.slice o4 (runsB 1 b).length c4)).run Tryd.prog w4.drew = .ok () wm ∧
        wm.cell? ⟨W.heap.size, 0, none⟩ = some (.slice o4 (runsB 1 b).length c4) ∧ W.heap.size < wm.heap.size ∧ B < wm.heap.size ∧ Hid (Calls Tryd.prog 48 #[.pointer (some ⟨B, 0, none⟩), .slice o4 (runsB 1 b).length c4] wm.drew fun e w' => (∃ v, e = .returned v) ∧ ∀ v, P (.returned v) w')) := by
    refine Lib.hid fun w3 so b3 hA hfar => ?_
    have r3 := row_below rY b3
    have hL3 : LaidC w3 w3.heap.size W.heap.size #[] 74 [] := ⟨none, 0, r3, World.ownsRow_nil _ _ _ _⟩
    have hno : ∀ k, ¬ RowOf w3 W.heap.size k := fun k ⟨a, q, c, h1, _⟩ => by
      rw [cell_of_row _ _ 0 _ _ _ r3] at h1
      simp at h1
    refine (putRuns_any (.inl rfl) (by decide) so (runsL b).length (runsL b) (fitN_runs ⟨by rw [hb.2]; exact Nat.le_refl 256, fun x hx => ⟨(hb.1 x hx).1, by have := (hb.1 x hx).2; show x < (256 : Nat); omega⟩⟩) (by have := runsL_len b; have := hb.2; omega) w3 hL3 (Nat.le_refl _) (by simp) hA (fun j hj => ⟨by have := hfar j hj; omega, hno j⟩)).mono ?_
    rintro e w4 ⟨he, hm⟩
    rw [show (runsL b).flatMap (encB2 1) = runsB 1 b from rfl] at hm
    have hl4 := hm.lies
    rw [List.nil_append] at hl4
    obtain ⟨o4, c4, hP4, hown4⟩ := hl4
    have m34 : Moves (fun k => k = W.heap.size) w3 w4 := hm.moves.mono fun k hk => hk.elim id (fun h => absurd h (hno k))
    have b03 : Below w.heap.size w w3 := A2.trans (b3.mono A2.size)
    have b04 : Below w.heap.size w w4 := Moves.below b03 b03.size m34 (fun k hk => by omega)
    have hI4 := hI.below b04
    have r14 : w4.heap[w.heap.size]? = some (.cells (cellsI b) 82 (0, 0)) := row_keep (row_below r1Y b3) m34 (by omega)
    have hP4' : w4.heap[W.heap.size]? = some (.cells #[.slice o4 (runsB 1 b).length c4] 74 (0, 0)) := hP4
    have z3 := b3.size
    have z4 := m34.size
    have hown : w4.drew.ownsMap Tryd.prog 82 heldR M n D := ⟨es, clock, row_below ho1 b04.drew, ho2⟩
    obtain ⟨wm, hst, hown2, hturn⟩ := hown.store keyBlkA Tryd.underlying73 (by unfold maxLen; omega) (val := .slice o4 (runsB 1 b).length c4) (key_blkA hb) (show heldR _ = _ from rfl)
    have mm : Moves (fun k => k = M) w4 wm := (Moves.of_below (show Below w4.heap.size w4 w4.drew from (Below.refl _ _).drew)).trans ((Moves.of_grownN hturn.grown).mono fun k h => Option.some.inj h)
    have hrowlt : ∀ k, RowOf w4 B k → k < w.heap.size := fun k hk => by
      obtain ⟨o1, c1, hB1, hw1⟩ := hI.laid
      obtain ⟨a, q, c, h1, rfl⟩ := hk
      rw [laidO_cell (row_below hB1 b04)] at h1
      cases h1
      obtain ⟨_, h2, _⟩ := own_rowT hw1 (show (Value.slice (some a) l.length c1).ownBlock = some a.block from rfl)
      exact (Array.getElem?_eq_some_iff.1 h2).1
    have hkv : KnownV w4 base B (.slice o4 (runsB 1 b).length c4) (runsB 1 b) := knownV_own hown4 hrb.1 (by omega) (fun k hk => by have := hrowlt k hk; omega)
    have hk4 : ∀ c z, fitsL c → has D (kB c) = true → ∃ v, D.atKey (kB c) z = .held v ∧ KnownV w4 base B v (runsB 1 c) := fun c z hc h1 => by
      obtain ⟨v, h2, h3⟩ := hk c z hc h1
      refine ⟨v, h2, h3.turn (Moves.of_below (S := fun _ => False) (b04.mono (Nat.le_refl _))) (fun k h => h.elim) (fun k h => .inl ?_)⟩
      obtain ⟨o1, c1, hB1, _⟩ := hI.laid
      obtain ⟨a, q, c', h5, h6⟩ := h
      rw [laidO_cell (row_below hB1 b04)] at h5
      exact ⟨a, q, c', by rw [laidO_cell hB1]; exact h5, h6⟩
    have hIm := hI4.more hb mm hT hk4 hown2 hkv
    have hMw : ¬ W.heap.size = M := by omega
    have hPm := row_keep hP4' mm hMw
    have b9 : Below wm.heap.size wm wm.drew := (Below.refl _ _).drew
    have hIm9 := hIm.below b9
    obtain ⟨o9, c9, e9, hAt9⟩ := hkv.at
    obtain ⟨rfl, rfl⟩ : o4 = o9 ∧ c4 = c9 := by cases e9; exact ⟨rfl, rfl⟩
    have hAtm : AtB wm.drew o4 (runsB 1 b) := by
      obtain ⟨g, off, rfl, hc⟩ := hAt9
      refine ⟨g, off, rfl, fun j u hj => cell_moves (mm.trans (Moves.of_below b9)) (fun e => ?_) (hc j u hj)⟩
      simp only at e
      obtain ⟨_, h2, h3⟩ := own_rowT hown4 (show (Value.slice (some ⟨g, off, none⟩) (runsB 1 b).length c4).ownBlock = some g from rfl)
      omega
    refine ⟨he, o4, c4, wm, hI4.cell1, World.block_lt_of_cell? _ _ hI4.cell1, (Array.getElem?_eq_some_iff.1 hP4').1, by rw [cell_of_row _ _ 0 _ _ _ hP4']; rfl, ?_, hst, by rw [cell_of_row _ _ 0 _ _ _ hPm]; rfl, (Array.getElem?_eq_some_iff.1 hPm).1, World.block_lt_of_cell? _ _ hIm.cell1, Lib.hid ?_⟩
    · exact run_loadVar_row w4.drew w.heap.size 82 82 (cellsI b) (0, 0) _ r14 Tryd.underlying82 rfl hsz
    · have zmm := mm.size
      refine (put_anyA (by decide : 76 ≠ 5) (runsB 1 b) o4 c4 wm.drew hIm9.laid (show base ≤ wm.heap.size by have := b04.size; omega) hAtm (by omega)).mono ?_
      rintro e w5 ⟨he5, hm5⟩
      refine ⟨he5, fun v => ?_⟩
      rw [← HP.out]
      refine ⟨⟨_, rfl⟩, hIm9.put hm5, ?_⟩
      have mw : Moves (fun k => k = M) w wm.drew := (Moves.of_below b04).trans (mm.trans (Moves.of_below b9))
      refine ⟨hm5.moves.os.trans mw.os, hm5.moves.tape.trans mw.tape, hm5.moves.output.trans mw.output, Nat.le_trans mw.size hm5.moves.size, fun k hk hs => (hm5.moves.block k (Nat.lt_of_lt_of_le hk mw.size) fun hx => ?_).trans (mw.block k hk fun e => hs (.inr (.inl e)))⟩
      rcases hx with rfl | hx
      · exact hs (.inl rfl)
      · obtain ⟨o1, c1, hB1, _⟩ := hI.laid
        obtain ⟨a, q, c', h5, h6⟩ := hx
        rw [laidO_cell (row_keep hB1 mw hI.lt.2.2)] at h5
        exact hs (.inr (.inr ⟨a, q, c', by rw [laidO_cell hB1]; exact h5, h6⟩))
  have HW := Lib.hid hW
  have HY := Lib.hid hY
  obtain ⟨m, hm⟩ : ∃ m, (runsL b).length = m := ⟨_, rfl⟩
  obtain ⟨q, hq⟩ : ∃ q, (runsB 1 b).length = q := ⟨_, rfl⟩
  rw [hm, hq] at HPUT
  rw [hm] at HR
  rw [← hY] at hlk hld
  clear hI hbase hlen ho1 ho2 hk hh hrb hT hW A1 hIW r1 hP rY r1Y AY A2 hY z1 zY look hR hsz hkM hm hq
  go_enter Tryd.func50, Tryd.ntmps50
  go_wp2_with fail
  rw [HW.out]
  go_region
  all_goals
    go_wp2_with fail
    rw [HY.out]
    refine HR.out.mono ?_
    rintro e w3 ⟨so, rfl, b3, hA3, hfar⟩
    have HP3 := Lib.hid (HPUT.out w3 so b3 hA3 hfar)
    clear b3 hA3 hfar hlk hlkW hld hldW g2
    go_wp2_with fail
    refine HP3.out.mono ?_
    rintro e w4 ⟨⟨v4, rfl⟩, o4, c4, wm, k1, l1, l2, k2, ld4, mu4, k3, l3, l4, hput⟩
    clear HP3
    go_wp2_with fail
    go_region
    all_goals
      go_wp2_with fail
      go_still_tail 4, (by kernel_rfl)
      change wpList _ _ _ _ _ wm.drew
      go_wp2_with fail
      refine hput.out.mono ?_
      rintro e w5 ⟨⟨v5, rfl⟩, h5⟩
      have H5 := Lib.hid h5
      clear h5
      go_wp2_with fail
      go_end0
      exact H5.out _
theorem putBlock_any {base B M n : Nat} {l : List UInt8} {b : List Int} (hb : fitsL b) (w : World) (hI : WrI w base B M l n) (hbase : base ≤ w.heap.size) (hn : n < 1000000) (hlen : l.length ≤ 50000000) :
    Calls Tryd.prog 50 #[.pointer (some ⟨B, 0, none⟩), .agg (cellsI b)] w (BlockQ w base B M n l (runsB 1 b)) := by
  obtain ⟨D, ho, hk⟩ := hI.known
  cases hh : has D (kB b) with
  | true => exact block_met hb w hI hbase hlen D ho hk hh
  | false => exact block_new hb w hI hbase hn hlen D ho hk hh
end Go.Proofs.YtcnbcaljpgdcpaaDoor

namespace Go.Proofs.YtcnbcaljpgdcpaaDoor
open Go.RowKit Go.Shelf Go.Maps
attribute [local go_sem] Oper.semAt_some
attribute [local go_sem ↓] app_hide ldA_hide

abbrev strB (l : List UInt8) : Value := .string ⟨l.toArray⟩
/-- What is wrong, told by a number. -/
def ErrF (v : Value) (c : Int) : Prop := (v = .nilIface ∧ c = 0) ∨ ∃ part, v = faultW part c
theorem conv_laid {w : World} {base : Nat} {v : Value} {L : List UInt8} (ho : w.ownsRow base 5 1 v L.length (byteCells L)) :
    (convert 74 9 v).run Tryd.prog w = .ok (strB L) w := by
  rcases ho.2 with ⟨rfl, hn⟩ | ⟨g, cap, cur, rfl, _⟩
  · have hL : L = [] := List.eq_nil_of_length_eq_zero hn
    subst hL
    rw [run_convert_bytes_string w 74 9 5 none 0 0 Tryd.underlying74 Tryd.underlying5 Tryd.underlying9]
    rfl
  · refine run_convert_bytes_back w 74 9 5 ⟨g, 0, none⟩ cap L Tryd.underlying74 Tryd.underlying5 Tryd.underlying9 (fun k hk => ?_)
    refine ho.cells (g := g) rfl k _ ?_
    unfold byteCells
    rw [List.getElem?_map, List.getElem?_eq_getElem hk]
    rfl
theorem run_arrayAtA (a : Option Addr) (sc : Nat) (w : World) : (Instr.arrayAt 82 (.slice a 256 sc)).run Tryd.prog w = .ok (.pointer a) w := by
  simp [Instr.arrayAt, underlying, Tryd.underlying82, Result.andThen]
attribute [local go_sem] run_arrayAtA
/-- The writer's state within packed: its box stands behind the trie's and the map. -/
structure PkI (w wr : World) (io bo : Option Addr) (n ic q bc : Nat) (l : List UInt8) (k : Nat) : Prop where
  wi : WrI wr (w.heap.size + 3) (w.heap.size + 2) (w.heap.size + 1) l k
  kept : Below w.heap.size w wr
  box : wr.heap[w.heap.size]? = some (trieO io n ic bo q bc)
  size : w.heap.size + 3 ≤ wr.heap.size
theorem PkI.turn {w wr w' : World} {io bo : Option Addr} {n ic q bc k k' : Nat} {l l' : List UInt8} {S : Nat → Prop} (h : PkI w wr io bo n ic q bc l k) (hm : Moves S wr w') (hS : ∀ j, S j → w.heap.size + 1 ≤ j) (hw : WrI w' (w.heap.size + 3) (w.heap.size + 2) (w.heap.size + 1) l' k') : PkI w w' io bo n ic q bc l' k' :=
  ⟨hw, Moves.below h.kept h.kept.size hm (fun j hj => by have := hS j hj; omega), row_keep h.box hm (fun hs => by have := hS _ hs; omega), Nat.le_trans h.size hm.size⟩
theorem PkI.row {w wr : World} {io bo : Option Addr} {n ic q bc k : Nat} {l : List UInt8} (h : PkI w wr io bo n ic q bc l k) {j : Nat} (hj : RowOf wr (w.heap.size + 2) j) : w.heap.size + 3 ≤ j := (h.wi.laid.row (by decide) hj).1
theorem PkI.put {w wr w' : World} {io bo : Option Addr} {n ic q bc k : Nat} {l m : List UInt8} (h : PkI w wr io bo n ic q bc l k) (hm : LaidM wr w' (w.heap.size + 3) (w.heap.size + 2) #[.map (some (w.heap.size + 1))] 76 l m) : PkI w w' io bo n ic q bc (l ++ m) k :=
  h.turn hm.moves (fun j hj => by rcases hj with rfl | hj; { omega }; { have := h.row hj; omega }) (h.wi.put hm)
theorem PkI.below {w wr w' : World} {io bo : Option Addr} {n ic q bc k : Nat} {l : List UInt8} (h : PkI w wr io bo n ic q bc l k) (hb : Below wr.heap.size wr w') : PkI w w' io bo n ic q bc l k :=
  h.turn (S := fun _ => False) (Moves.of_below hb) (fun _ hj => hj.elim) (h.wi.below hb)
theorem PkI.block {w wr w' : World} {io bo : Option Addr} {n ic q bc k : Nat} {l m : List UInt8} {e : Ending} (h : PkI w wr io bo n ic q bc l k) (hm : BlockQ wr (w.heap.size + 3) (w.heap.size + 2) (w.heap.size + 1) k l m e w') : PkI w w' io bo n ic q bc (l ++ m) (k + 1) :=
  h.turn hm.2.2 (fun j hj => by rcases hj with rfl | rfl | hj; { omega }; { omega }; { have := h.row hj; omega }) hm.2.1
theorem PkI.cells {w wr : World} {io bo : Option Addr} {n ic q bc k : Nat} {l : List UInt8} (h : PkI w wr io bo n ic q bc l k) : wr.cell? ⟨w.heap.size, 0, none⟩ = some (.slice io n ic) ∧ wr.cell? ⟨w.heap.size, 1, none⟩ = some (.slice bo q bc) ∧ w.heap.size < wr.heap.size := by
  have := h.size
  refine ⟨?_, ?_, by omega⟩
  · rw [cell_of_row _ _ 0 _ _ _ h.box]; rfl
  · rw [cell_of_row _ _ 1 _ _ _ h.box]; rfl
theorem flat_runs : ∀ {bs : List (List Int)}, (∀ b ∈ bs, fitsL b) → (bs.flatMap (runsB 1)).length ≤ 512 * bs.length
  | [], _ => by simp
  | b :: bs, h => by
    have h1 := (runsB_pos (h b List.mem_cons_self)).2
    have h2 := flat_runs fun x hx => h x (List.mem_cons_of_mem _ hx)
    rw [List.flatMap_cons, List.length_append, List.length_cons]
    omega
theorem mark_at (w : World) : AtB (w.alloc (.cells #[.int .u8 86, .int .u8 84, .int .u8 49] 5 (3, 4))) (some ⟨w.heap.size, 0, none⟩) markB := by
  refine ⟨_, 0, rfl, fun j u hj => ?_⟩
  rw [Nat.zero_add, cell_of_row _ _ j _ _ _ (heap_alloc_new _ _)]
  match j, hj with
  | 0, hj => cases hj; rfl
  | 1, hj => cases hj; rfl
  | 2, hj => cases hj; rfl
theorem conv_mark (w : World) : (convert 39 39 (.slice (some ⟨w.heap.size, 0, none⟩) 3 3)).run Tryd.prog (w.alloc (.cells #[.int .u8 86, .int .u8 84, .int .u8 49] 5)) = .ok (.slice (some ⟨w.heap.size, 0, none⟩) 3 3) (w.alloc (.cells #[.int .u8 86, .int .u8 84, .int .u8 49] 5 (3, 4))) :=
  Lib.run_convert_bytes_const w 39 5 #[.int .u8 86, .int .u8 84, .int .u8 49] 3 3 Tryd.underlying39 Tryd.underlying5
/-- What packed answers. -/
def PackedQ (t : TrieD) (w : World) (e : Ending) (w' : World) : Prop := ∃ ev, e = .returned (.tuple #[strB (packL t).1, ev]) ∧ ErrF ev (packL t).2 ∧ Below w.heap.size w w'
set_option maxRecDepth 100000 in
set_option maxHeartbeats 4000000 in
theorem packed_any (io bo : Option Addr) (t : TrieD) (ic bc : Nat) (hi : t.1.length ≤ 1000000) (hb : t.2.length ≤ 1000000) (hbb : ∀ b ∈ t.2, b.length ≤ 1000000) (w : World) (hA : TrieT w io bo t) :
    Calls Tryd.prog 30 #[trieV io t.1.length ic bo t.2.length bc] w (PackedQ t w) := by
  have hmm := @run_makeMap_plain
  obtain ⟨P, hP⟩ : ∃ P, PackedQ t w = P := ⟨_, rfl⟩
  have HP := Lib.hid hP
  rw [hP]
  obtain ⟨W, hW⟩ : ∃ W, ((w.alloc (trieO io t.1.length ic bo t.2.length bc)).alloc (.map #[] 0)).alloc (.cells #[.slice none 0 0, .map (some (w.heap.size + 1))] 76) = W := ⟨_, rfl⟩
  have A1 : Below w.heap.size w W := by rw [← hW]; exact (((Below.refl _ _).alloc (Nat.le_refl _) _).alloc (by simp) _).alloc (by simp; omega) _
  have z1 : W.heap.size = w.heap.size + 3 := by rw [← hW]; simp
  have r0 : W.heap[w.heap.size]? = some (trieO io t.1.length ic bo t.2.length bc) := by rw [← hW, Below.heap_alloc _ _ _ (by simp; omega), Below.heap_alloc _ _ _ (by simp)]; exact heap_alloc_new _ _
  have r2 : W.heap[w.heap.size + 2]? = some (.cells (#[.slice none 0 0] ++ #[.map (some (w.heap.size + 1))]) 76 (0, 0)) := by
    rw [← hW]
    have := heap_alloc_new ((w.alloc (trieO io t.1.length ic bo t.2.length bc)).alloc (.map #[] 0)) (.cells #[.slice none 0 0, .map (some (w.heap.size + 1))] 76)
    simpa using this
  have hmap : W.ownsMap Tryd.prog 82 heldR (w.heap.size + 1) 0 (.map []) := by
    have := (World.ownsMap_made (w.alloc (trieO io t.1.length ic bo t.2.length bc)) Tryd.prog 82 heldR).alloc (.cells #[.slice none 0 0, .map (some (w.heap.size + 1))] 76)
    rw [World.size_alloc, hW] at this
    exact this
  have I0 : PkI w W io bo t.1.length ic t.2.length bc [] 0 := ⟨⟨by omega, ⟨none, 0, r2, World.ownsRow_nil _ _ _ _⟩, .map [], hmap, fun c z hc h => by simp [has] at h⟩, A1, r0, by omega⟩
  have HC1 := Lib.hid (rightT_any io bo t ic bc hi hb hbb W (hA.below A1))
  obtain ⟨n, hn⟩ : ∃ n, t.1.length = n := ⟨_, rfl⟩
  obtain ⟨q, hq⟩ : ∃ n, t.2.length = n := ⟨_, rfl⟩
  rw [hn, hq] at HC1 hW I0 ⊢
  rw [hq] at hb
  obtain ⟨c0, c1, l0⟩ := I0.cells
  have HI0 := Lib.hid I0
  have HW := Lib.hid hW
  have HA := Lib.hid hA
  have HN := Lib.hid hn
  have HQ := Lib.hid hq
  obtain ⟨D, hD⟩ : ∃ D, decide (rightT t) = D := ⟨_, rfl⟩
  rw [hD] at HC1
  have HDD := Lib.hid hD
  clear hP hW A1 r0 r2 hmap I0 hA hbb hi hn hq hD z1
  go_enter Tryd.func30, Tryd.ntmps30
  go_wp2_with fail
  rw [HW.out]
  refine HC1.out.mono ?_
  rintro e w1 ⟨rfl, b1⟩
  have HI1 := Lib.hid (HI0.out.below b1)
  clear c0 c1 l0 HC1 b1
  obtain ⟨c0, c1, l0⟩ := HI1.out.cells
  cases D with
  | false =>
    have hno : ¬ rightT t := of_decide_eq_false HDD.out
    have HPP : Hid (∀ part, P (.returned (.tuple #[.string ⟨#[]⟩, faultW part 50])) w1) := by
      rw [← HP.out]
      unfold PackedQ packL
      rw [if_neg hno]
      exact Lib.hid fun part => ⟨_, rfl, .inr ⟨part, rfl⟩, HI1.out.kept⟩
    clear hno
    go_wp2_with fail
    refine (inA_any _ _ _).mono ?_
    rintro e w2 ⟨rfl, rfl⟩
    go_wp2
    exact HPP.out _
  | true =>
    have hr : rightT t := of_decide_eq_true HDD.out
    rcases Nat.lt_or_ge 300 q with hgt | hle
    · have hgt2 : ((q : Nat) : Int) > 300 := by omega
      have HPP : Hid (∀ part, P (.returned (.tuple #[.string ⟨#[]⟩, faultW part 60])) w1) := by
        rw [← HP.out]
        unfold PackedQ packL
        rw [if_pos hr, if_neg (by rw [HQ.out]; omega)]
        exact Lib.hid fun part => ⟨_, rfl, .inr ⟨part, rfl⟩, HI1.out.kept⟩
      clear hr
      go_wp2_with fail
      refine (inA_any _ _ _).mono ?_
      rintro e w2 ⟨rfl, rfl⟩
      go_wp2
      exact HPP.out _
    · have hgt2 : ¬ ((q : Nat) : Int) > 300 := by omega
      have HR := Lib.hid hr
      clear hr
      obtain ⟨w2, hw2⟩ : ∃ w2, w1.alloc (.cells #[.int .u8 86, .int .u8 84, .int .u8 49] 5 (3, 4)) = w2 := ⟨_, rfl⟩
      have b2 : Below w1.heap.size w1 w2 := by rw [← hw2]; exact (Below.refl _ _).alloc (Nat.le_refl _) _
      have HI2 := Lib.hid (HI1.out.below b2)
      have HAT : AtB w2 (some ⟨w1.heap.size, 0, none⟩) markB := by rw [← hw2]; exact mark_at w1
      have HC2 := Lib.hid (put_anyA (by decide : 76 ≠ 5) markB (some ⟨w1.heap.size, 0, none⟩) 3 w2 HI2.out.wi.laid HI2.out.size HAT (by simp [markB]))
      rw [show markB.length = 3 from rfl] at HC2
      have HW2 := Lib.hid hw2
      have hcv := conv_mark w1
      clear b2 HAT hw2
      go_wp2_with fail
      rw [HW2.out]
      refine HC2.out.mono ?_
      rintro e w3 ⟨⟨v3, rfl⟩, hm3⟩
      have HI3 := Lib.hid (HI2.out.put hm3)
      have HC3 := Lib.hid (putNum2 (by decide : 76 ≠ 5) q (by omega) w3 HI3.out.wi.laid HI3.out.size (by simp [markB]))
      clear hm3 HC2 c0 c1 l0
      obtain ⟨c0, c1, l0⟩ := HI3.out.cells
      go_wp2_with fail
      refine HC3.out.mono ?_
      rintro e w4 ⟨⟨v4, rfl⟩, hm4⟩
      have HI4 : Hid (PkI w w4 io bo n ic q bc (markB ++ twoB q ++ (t.2.take 0).flatMap (runsB 1)) 0) := by
        have := HI3.out.put hm4
        rw [List.nil_append] at this
        rw [show (t.2.take 0).flatMap (runsB 1) = [] by simp, List.append_nil]
        exact Lib.hid this
      clear hm4 HC3 c0 c1 l0
      obtain ⟨c0, c1, l0⟩ := HI4.out.cells
      go_wp2_with fail
      go_loopg [32] q (fun k v wr => ∃ (j : Nat), v = .int .i64 (j : Nat) ∧ j ≤ q ∧ k = q - j ∧ Hid (PkI w wr io bo n ic q bc (markB ++ twoB q ++ (t.2.take j).flatMap (runsB 1)) j))
      case atStart => exact ⟨0, rfl, Nat.zero_le _, rfl, HI4⟩
      case round =>
        obtain ⟨j, rfl, hj, rfl, HI⟩ := hrel
        clear c0 c1 l0
        have hlen : (markB ++ twoB q ++ (t.2.take j).flatMap (runsB 1)).length ≤ 200000 := by
          have := flat_runs (bs := t.2.take j) fun b hb => HR.out.2.2 b (List.mem_of_mem_take hb)
          rw [List.length_take] at this
          simp only [List.length_append, twoB_len, show markB.length = 3 from rfl]
          omega
        rcases Nat.lt_or_ge j q with hlt | hge
        · have hj1 : j < 1000000 := by omega
          obtain ⟨b, hx⟩ : ∃ x, t.2[j]? = some x := ⟨_, List.getElem?_eq_getElem (by rw [HQ.out]; exact hlt)⟩
          have hfit := HR.out.2.2 b (List.mem_of_getElem? hx)
          obtain ⟨g, off, hbo, hc⟩ := (HA.out.bl.below HI.out.kept) (by rw [HQ.out]; omega)
          obtain ⟨so, sc, k0, k1, k2⟩ := hc j b hx
          have hg := World.block_lt_of_cell? wr _ k0
          have hbl : b.length = 256 := hfit.2
          obtain ⟨g3, off3, rfl, hz⟩ := k2 (by omega)
          rw [hbl] at k0 k1
          have hld : (ldA ⟨g3, off3, none⟩).run Tryd.prog wr = .ok (.agg (cellsI b)) wr := by
            refine run_loadT ⟨g3, off3, none⟩ (b.map (Value.int .i64)) wr Tryd.underlying82 rfl (by rw [List.length_map, hbl]; exact blk_infoA) fun p v hv => ?_
            rw [List.getElem?_map] at hv
            cases hp : b[p]? with
            | none => rw [hp] at hv; cases hv
            | some x => rw [hp] at hv; cases hv; rw [show (⟨g3, off3, none⟩ : Addr).add p = ⟨g3, off3 + p, none⟩ by unfold Addr.add; split <;> simp_all]; exact hz p x hp
          have HC := Lib.hid (putBlock_any hfit wr HI.out.wi HI.out.size (by omega) (by omega))
          have htk : (t.2.take (j + 1)).flatMap (runsB 1) = (t.2.take j).flatMap (runsB 1) ++ runsB 1 b := by rw [List.take_add_one, hx]; simp
          have HTK := Lib.hid htk
          subst hbo
          clear hc hx hfit hz htk hlen
          go_wp2_with fail
          refine HC.out.mono ?_
          rintro e w5 hq5
          obtain ⟨v5, rfl⟩ := hq5.1
          have HI5 : Hid (PkI w w5 io (some ⟨g, off, none⟩) n ic q bc (markB ++ twoB q ++ (t.2.take (j + 1)).flatMap (runsB 1)) (j + 1)) := by
            rw [HTK.out, ← List.append_assoc]
            exact Lib.hid (HI.out.block hq5)
          clear hq5 HC hld
          go_wp2
          go_roundg (q - (j + 1))
          case measure => omega
          case rel => exact ⟨j + 1, by simp, by omega, rfl, HI5⟩
        · obtain rfl : j = q := by omega
          rw [List.take_of_length_le (by rw [HQ.out]; exact Nat.le_refl _)] at HI hlen
          obtain ⟨c0, c1, l0⟩ := HI.out.cells
          obtain ⟨L, hL⟩ : ∃ L, markB ++ twoB j ++ t.2.flatMap (runsB 1) = L := ⟨_, rfl⟩
          rw [hL] at HI hlen
          have HL := Lib.hid hL
          have hRU := Runs_any io t.1 ic (by rw [HR.out.1]; omega) wr (HA.out.ix.below HI.out.kept)
          rw [HN.out] at hRU
          obtain ⟨m, hm⟩ : ∃ m, (runsL t.1).length = m := ⟨_, rfl⟩
          rw [hm] at hRU
          have HRU := Lib.hid hRU
          have HM := Lib.hid hm
          have HLEN := Lib.hid hlen
          clear hL hRU hm hlen
          go_wp2_with fail
          refine HRU.out.mono ?_
          rintro e w5 ⟨so, rfl, b5, hA5, hfar⟩
          have HI5 := Lib.hid (HI.out.below b5)
          have hbody : L ++ runsB 2 t.1 = bodyB t := by rw [← HL.out]; unfold bodyB; rw [HQ.out]
          have hrl := runsL_len t.1
          have hblen : (bodyB t).length ≤ 500000 := by
            rw [← hbody, List.length_append, show runsB 2 t.1 = (runsL t.1).flatMap (encB2 2) from rfl, flat_len (.inr rfl)]
            have := HR.out.1
            have := HLEN.out
            omega
          have HC5 := putRuns_any (.inr rfl) (by decide : 76 ≠ 5) so m (runsL t.1) (fitN_runs ⟨by rw [HR.out.1]; show 4352 ≤ 65536; omega, fun x hx => ⟨(HR.out.2.1 x hx).1, by have := (HR.out.2.1 x hx).2; rw [HQ.out] at this; show x < (65536 : Nat); omega⟩⟩) (by have := HR.out.1; omega) w5 HI5.out.wi.laid HI5.out.size (by have := HLEN.out; omega) hA5 (fun i hi => ⟨by have := hfar i hi; have := HI.out.size; omega, fun hr => by
            have h1 := hfar i hi
            obtain ⟨a, nn, cc, h2, rfl⟩ := hr
            obtain ⟨o9, c9, hB9, hw9⟩ := HI.out.wi.laid
            rw [laidO_cell (row_below hB9 b5)] at h2
            cases h2
            obtain ⟨_, h3, _⟩ := own_rowT hw9 (show (Value.slice (some a) L.length cc).ownBlock = some a.block from rfl)
            have := (Array.getElem?_eq_some_iff.1 h3).1
            omega⟩)
          rw [HM.out] at HC5
          have HC5 := Lib.hid HC5
          have HBODY := Lib.hid hbody
          have HBL := Lib.hid hblen
          clear b5 hA5 hfar hbody hrl hblen c0 c1 l0 HRU
          go_wp2_with fail
          refine HC5.out.mono ?_
          rintro e w6 ⟨⟨v6, rfl⟩, hm6⟩
          have HI6 : Hid (PkI w w6 io bo n ic j bc (bodyB t) j) := by
            rw [← HBODY.out]
            exact Lib.hid (HI5.out.put hm6)
          obtain ⟨o6, c6, hB6, hw6⟩ := HI6.out.wi.laid
          have k6 : w6.cell? ⟨w.heap.size + 1 + 1, 0, none⟩ = some (.slice o6 (bodyB t).length c6) := laidO_cell hB6
          have cv6 := conv_laid hw6
          have HS := Lib.hid (sum_any ⟨(bodyB t).toArray⟩ (by show (bodyB t).toArray.size ≤ _; rw [List.size_toArray]; have := HBL.out; omega) w6)
          have HC6 := Lib.hid (putNum2 (by decide : 76 ≠ 5) (sumA (bodyB t)) (sumA_lt _) w6 HI6.out.wi.laid HI6.out.size (by have := HBL.out; omega))
          obtain ⟨U, hU⟩ : ∃ U : ByteArray, (⟨(bodyB t).toArray⟩ : ByteArray) = U := ⟨_, rfl⟩
          rw [show (⟨(bodyB t).toArray⟩ : ByteArray).data.toList = bodyB t from rfl] at HS
          obtain ⟨sn, hsn⟩ : ∃ sn, sumA (bodyB t) = sn := ⟨_, rfl⟩
          obtain ⟨bl, hbl⟩ : ∃ bl, (bodyB t).length = bl := ⟨_, rfl⟩
          rw [hsn] at HS HC6
          rw [hbl] at k6 cv6
          rw [show strB (bodyB t) = .string U by rw [← hU]] at cv6
          rw [hU] at HS
          have HSN := Lib.hid hsn
          clear hm6 hB6 hw6 HC5 hU hsn hbl
          go_wp2_with fail
          refine HS.out.mono ?_
          rintro e w7 ⟨rfl, rfl⟩
          go_wp2_with fail
          refine HC6.out.mono ?_
          rintro e w7 ⟨⟨v7, rfl⟩, hm7⟩
          have HI7 : Hid (PkI w w7 io bo n ic j bc (packB t) j) := by
            have := HI6.out.put hm7
            rw [show bodyB t ++ numB 2 sn = packB t by unfold packB; rw [HSN.out]; rfl] at this
            exact Lib.hid this
          obtain ⟨o7, c7, hB7, hw7⟩ := HI7.out.wi.laid
          have k7 : w7.cell? ⟨w.heap.size + 1 + 1, 0, none⟩ = some (.slice o7 (packB t).length c7) := laidO_cell hB7
          have cv7 := conv_laid hw7
          obtain ⟨bl, hbl⟩ : ∃ bl, (packB t).length = bl := ⟨_, rfl⟩
          rw [hbl] at k7 cv7
          have HPP : Hid (P (.returned (.tuple #[strB (packB t), .nilIface])) w7) := by
            rw [← HP.out]
            refine Lib.hid ⟨_, ?_, .inl ⟨rfl, ?_⟩, HI7.out.kept⟩
            · unfold packL; rw [if_pos HR.out, if_pos (by rw [HQ.out]; exact hle)]
            · unfold packL; rw [if_pos HR.out, if_pos (by rw [HQ.out]; exact hle)]
          obtain ⟨SV, hSV⟩ : ∃ SV, strB (packB t) = SV := ⟨_, rfl⟩
          rw [hSV] at cv7 HPP
          clear hm7 hB7 hw7 HC6 hbl cv6 k6 hSV HS
          go_wp2
          exact HPP.out
end Go.Proofs.YtcnbcaljpgdcpaaDoor

namespace Go.Proofs.YtcnbcaljpgdcpaaDoor
open Go.RowKit Go.Shelf Go.Maps
attribute [local go_sem] Oper.semAt_some

/-- The cell that errors.As looks at. -/
def EGlob (w : World) : Prop := w.cell? ⟨2, 0, none⟩ = some (rtIQ 54)
theorem EGlob.below {w w' : World} (h : EGlob w) (hb : Below w.heap.size w w') : EGlob w' := (hb.cell (World.block_lt_of_cell? w _ h)).trans h
theorem toldF {ev : Value} {c : Int} (h : ErrF ev c) (w : World) (hG : EGlob w) : Calls Tryd.prog 31 #[ev] w fun e w' => e = .returned (.int .i64 c) ∧ Below w.heap.size w w' := by
  rcases h with ⟨rfl, rfl⟩ | ⟨part, rfl⟩
  · exact toldQ_nil w
  · exact toldQ_fault part c w hG
theorem packL_code (t : TrieD) : (packL t).2 = 0 ∧ packL t = (packB t, 0) ∧ fineT t ∨ (packL t).2 = 60 ∧ (packL t).1 = [] ∨ (packL t).2 = 50 ∧ (packL t).1 = [] := by
  unfold packL
  split
  · rename_i h1
    split
    · rename_i h2
      exact .inl ⟨rfl, rfl, h1, h2⟩
    · exact .inr (.inl ⟨rfl, rfl⟩)
  · exact .inr (.inr ⟨rfl, rfl⟩)
theorem pack_len {t : TrieD} (h : fineT t) : (packB t).length ≤ 600000 := by
  unfold packB bodyB
  have h1 := flat_runs h.1.2.2
  have h2 := h.2
  have h3 : (runsB 2 t.1).length ≤ 4352 * 4 := by
    have := runsL_len t.1
    rw [show runsB 2 t.1 = (runsL t.1).flatMap (encB2 2) from rfl, flat_len (.inr rfl)]
    have := h.1.1
    omega
  simp only [List.length_append, twoB_len, show markB.length = 3 from rfl]
  omega
theorem packL_len (t : TrieD) : (packL t).1.length ≤ 600000 := by
  rcases packL_code t with ⟨_, h, hf⟩ | ⟨_, h⟩ | ⟨_, h⟩
  · rw [h]; exact pack_len hf
  · rw [h]; simp
  · rw [h]; simp
set_option maxRecDepth 100000 in
set_option maxHeartbeats 2000000 in
theorem Pack_any (io bo : Option Addr) (t : TrieD) (ic bc : Nat) (hi : t.1.length ≤ 1000000) (hb : t.2.length ≤ 1000000) (hbb : ∀ b ∈ t.2, b.length ≤ 1000000) (w : World) (hG : EGlob w) (hA : TrieT w io bo t) :
    Calls Tryd.prog 12 #[trieV io t.1.length ic bo t.2.length bc] w fun e w' => e = .returned (.tuple #[strB (packL t).1, .int .i64 (packL t).2]) ∧ Below w.heap.size w w' := by
  obtain ⟨P, hP⟩ : ∃ P, (fun (e : Ending) w' => e = .returned (.tuple #[strB (packL t).1, .int .i64 (packL t).2]) ∧ Below w.heap.size w w') = P := ⟨_, rfl⟩
  have HP := Lib.hid hP
  rw [hP]
  obtain ⟨W, hW⟩ : ∃ W, w.alloc (trieO io t.1.length ic bo t.2.length bc) = W := ⟨_, rfl⟩
  have A1 : Below w.heap.size w W := by rw [← hW]; exact (Below.refl _ _).alloc (Nat.le_refl _) _
  have r0 : W.heap[w.heap.size]? = some (trieO io t.1.length ic bo t.2.length bc) := by rw [← hW]; exact heap_alloc_new _ _
  have HC := Lib.hid (packed_any io bo t ic bc hi hb hbb W (hA.below A1))
  obtain ⟨n, hn⟩ : ∃ n, t.1.length = n := ⟨_, rfl⟩
  obtain ⟨q, hq⟩ : ∃ n, t.2.length = n := ⟨_, rfl⟩
  rw [hn, hq] at HC r0 hW ⊢
  have c0 : W.cell? ⟨w.heap.size, 0, none⟩ = some (.slice io n ic) := by rw [cell_of_row _ _ 0 _ _ _ r0]; rfl
  have c1 : W.cell? ⟨w.heap.size, 1, none⟩ = some (.slice bo q bc) := by rw [cell_of_row _ _ 1 _ _ _ r0]; rfl
  have HG := Lib.hid (hG.below A1)
  have HA1 := Lib.hid A1
  have HW := Lib.hid hW
  obtain ⟨R, hR⟩ : ∃ R, packL t = R := ⟨_, rfl⟩
  obtain ⟨S, c⟩ := R
  have HR := Lib.hid hR
  clear hP hW A1 r0 hn hq hA hb hi hbb hG hR
  go_enter Tryd.func12, Tryd.ntmps12
  go_wp2_with fail
  rw [HW.out]
  refine HC.out.mono ?_
  rintro e w1 ⟨ev, rfl, hev, b1⟩
  rw [HR.out] at hev ⊢
  simp only at hev ⊢
  have HT := Lib.hid (toldF hev w1 (HG.out.below b1))
  have HB1 := Lib.hid (HA1.out.trans (b1.mono HA1.out.size))
  have HPP : Hid (∀ w2, Below w1.heap.size w1 w2 → P (.returned (.tuple #[strB S, .int .i64 c])) w2) := by
    rw [← HP.out, HR.out]
    exact Lib.hid fun w2 b2 => ⟨rfl, HB1.out.trans (b2.mono HB1.out.size)⟩
  obtain ⟨SV, hSV⟩ : ∃ SV : ByteArray, (⟨S.toArray⟩ : ByteArray) = SV := ⟨_, rfl⟩
  simp only [strB, hSV] at HPP ⊢
  clear hev b1 HC c0 c1 hSV
  go_wp2_with fail
  refine HT.out.mono ?_
  rintro e w2 ⟨rfl, b2⟩
  have HQ := Lib.hid (HPP.out w2 b2)
  clear b2 HT
  go_wp2
  exact HQ.out
set_option maxRecDepth 100000 in
set_option maxHeartbeats 2000000 in
theorem Size_any (io bo : Option Addr) (t : TrieD) (ic bc : Nat) (hi : t.1.length ≤ 1000000) (hb : t.2.length ≤ 1000000) (hbb : ∀ b ∈ t.2, b.length ≤ 1000000) (w : World) (hG : EGlob w) (hA : TrieT w io bo t) :
    Calls Tryd.prog 14 #[trieV io t.1.length ic bo t.2.length bc] w fun e w' => e = .returned (.tuple #[.int .i64 ((packL t).1.length : Nat), .int .i64 (packL t).2]) ∧ Below w.heap.size w w' := by
  obtain ⟨P, hP⟩ : ∃ P, (fun (e : Ending) w' => e = .returned (.tuple #[.int .i64 ((packL t).1.length : Nat), .int .i64 (packL t).2]) ∧ Below w.heap.size w w') = P := ⟨_, rfl⟩
  have HP := Lib.hid hP
  rw [hP]
  obtain ⟨W, hW⟩ : ∃ W, w.alloc (trieO io t.1.length ic bo t.2.length bc) = W := ⟨_, rfl⟩
  have A1 : Below w.heap.size w W := by rw [← hW]; exact (Below.refl _ _).alloc (Nat.le_refl _) _
  have r0 : W.heap[w.heap.size]? = some (trieO io t.1.length ic bo t.2.length bc) := by rw [← hW]; exact heap_alloc_new _ _
  have HC := Lib.hid (packed_any io bo t ic bc hi hb hbb W (hA.below A1))
  obtain ⟨n, hn⟩ : ∃ n, t.1.length = n := ⟨_, rfl⟩
  obtain ⟨q, hq⟩ : ∃ n, t.2.length = n := ⟨_, rfl⟩
  rw [hn, hq] at HC r0 hW ⊢
  have c0 : W.cell? ⟨w.heap.size, 0, none⟩ = some (.slice io n ic) := by rw [cell_of_row _ _ 0 _ _ _ r0]; rfl
  have c1 : W.cell? ⟨w.heap.size, 1, none⟩ = some (.slice bo q bc) := by rw [cell_of_row _ _ 1 _ _ _ r0]; rfl
  have HG := Lib.hid (hG.below A1)
  have HA1 := Lib.hid A1
  have HW := Lib.hid hW
  have hlen := packL_len t
  obtain ⟨R, hR⟩ : ∃ R, packL t = R := ⟨_, rfl⟩
  rw [hR] at hlen
  obtain ⟨S, c⟩ := R
  have HR := Lib.hid hR
  have HL := Lib.hid hlen
  clear hP hW A1 r0 hn hq hA hb hi hbb hG hR hlen
  go_enter Tryd.func14, Tryd.ntmps14
  go_wp2_with fail
  rw [HW.out]
  refine HC.out.mono ?_
  rintro e w1 ⟨ev, rfl, hev, b1⟩
  rw [HR.out] at hev ⊢
  simp only at hev ⊢
  have HT := Lib.hid (toldF hev w1 (HG.out.below b1))
  have HB1 := Lib.hid (HA1.out.trans (b1.mono HA1.out.size))
  obtain ⟨SV, hSV⟩ : ∃ SV : ByteArray, (⟨S.toArray⟩ : ByteArray) = SV := ⟨_, rfl⟩
  have hsz : SV.size = S.length := by rw [← hSV]; show S.toArray.size = _; simp
  have HPP : Hid (∀ w2, Below w1.heap.size w1 w2 → P (.returned (.tuple #[.int .i64 (SV.size : Nat), .int .i64 c])) w2) := by
    rw [← HP.out, HR.out, hsz]
    exact Lib.hid fun w2 b2 => ⟨rfl, HB1.out.trans (b2.mono HB1.out.size)⟩
  have hl : SV.size ≤ 600000 := by have := HL.out; rw [hsz]; exact this
  simp only [strB, hSV]
  clear hev b1 HC c0 c1 hSV hsz
  go_wp2_with fail
  refine HT.out.mono ?_
  rintro e w2 ⟨rfl, b2⟩
  have HQ := Lib.hid (HPP.out w2 b2)
  clear b2 HT
  go_wp2
  exact HQ.out
end Go.Proofs.YtcnbcaljpgdcpaaDoor
