/- The document's put: a row more. -/
import Derived.Test.YtlmkefmfhdjmmaaDoorZTRefOwn
import Derived.Test.YtlmkefmfhdjmmaaDoorBunA4
import Derived.BigQuiet
namespace Go.Proofs.YtlmkefmfhdjmmaaDoor
open Go.RowKit Go.Shelf Go.Maps
attribute [local go_sem] Oper.semAt_some
attribute [local go_sem ↓] app_hide

theorem idxT_at : ∀ {bs : List (List Int)} {b : List Int} {j : Nat}, bs[j]? = some b → (∀ c ∈ bs.take j, c ≠ b) → idxT bs b = some j
  | [], b, j, h, _ => by simp at h
  | c :: l, b, 0, h, _ => by
    obtain rfl : c = b := by simpa using h
    unfold idxT
    rw [if_pos rfl]
  | c :: l, b, j + 1, h, hn => by
    unfold idxT
    rw [if_neg (hn c (by simp)), idxT_at (j := j) (by simpa using h) (fun x hx => hn x (by rw [List.take_succ_cons]; exact List.mem_cons_of_mem _ hx))]
    rfl
theorem cell_movesT {S : Nat → Prop} {w w' : World} {a : Addr} {v : Value} (hm : Moves S w w') (hs : ¬ S a.block) (h : w.cell? a = some v) : w'.cell? a = some v := by
  have hb := hm.block _ (World.block_lt_of_cell? w _ h) hs
  unfold World.cell? at h ⊢
  rw [hb]
  exact h
theorem IntsT.moves {S : Nat → Prop} {w w' : World} {o : Option Addr} {l : List Int} (h : IntsT w o l) (hm : Moves S w w') (hs : ∀ k, inB o k → ¬ S k) : IntsT w' o l := fun hn => by
  obtain ⟨g, off, rfl, hc⟩ := h hn
  exact ⟨g, off, rfl, fun j x hx => cell_movesT hm (hs g ⟨_, rfl, rfl⟩) (hc j x hx)⟩
theorem moves_new {S : Nat → Prop} {w A B : World} (h : Moves S w A) (hm : Moves (fun k => w.heap.size ≤ k) A B) : Moves S w B :=
  ⟨hm.os.trans h.os, hm.tape.trans h.tape, hm.output.trans h.output, Nat.le_trans h.size hm.size, fun k hk hs => (hm.block k (Nat.lt_of_lt_of_le hk h.size) (by omega)).trans (h.block k hk hs)⟩
theorem trie_set1 {w : World} {g : Nat} {u v : Value} (a : Value) (h : w.heap[g]? = some (.cells #[u, v] 28 (0, 0))) : (w.setCell ⟨g, 0, none⟩ a).heap[g]? = some (.cells #[a, v] 28 (0, 0)) := by
  rw [heap_setCell_same _ _ _ _ _ _ h]; rfl
theorem trie_set2 {w : World} {g : Nat} {u v : Value} (a : Value) (h : w.heap[g]? = some (.cells #[u, v] 28 (0, 0))) : (w.setCell ⟨g, 1, none⟩ a).heap[g]? = some (.cells #[u, a] 28 (0, 0)) := by
  rw [heap_setCell_same _ _ _ _ _ _ h]; rfl
theorem trie_cells {w : World} {g : Nat} {u v : Value} (h : w.heap[g]? = some (.cells #[u, v] 28 (0, 0))) : w.cell? ⟨g, 0, none⟩ = some u ∧ w.cell? ⟨g, 1, none⟩ = some v ∧ w.frozen? ⟨g, 0, none⟩ = false ∧ w.frozen? ⟨g, 1, none⟩ = false ∧ g < w.heap.size :=
  ⟨by rw [cell_of_row _ _ 0 _ _ _ h]; rfl, by rw [cell_of_row _ _ 1 _ _ _ h]; rfl, frozen_of_row _ _ _ _ _ h, frozen_of_row _ _ _ _ _ h, (Array.getElem?_eq_some_iff.1 h).1⟩
theorem trie_types : (28 : TypeId) ≠ 3 ∧ (28 : TypeId) ≠ 25 := by decide
/-- What put answers. -/
def PutE (t : TrieD) (base : Nat) (io bo : Option Addr) (w : World) (e : Ending) (w' : World) : Prop :=
  ∃ io' ic' bo' bc', e = .returned (trieV io' t.1.length ic' bo' t.2.length bc') ∧ OwnT w' base io' ic' bo' bc' t ∧ Moves (fun k => inB io k ∨ inB bo k) w w'
set_option maxRecDepth 100000 in
set_option maxHeartbeats 4000000 in
theorem refPut_any (base : Nat) (io bo : Option Addr) (ic bc : Nat) (t : TrieD) (so : Option Addr) (sc : Nat) (b : List Int) (hb : b.length = 256) (hl : t.1.length ≤ 1000000) (hl2 : t.2.length ≤ 1000000) (hf : ∀ c ∈ t.2, c.length = 256) (w : World) (hO : OwnT w base io ic bo bc t) (hbase : base ≤ w.heap.size) (hB : IntsT w so b) (hso : ∀ k, inB so k → ¬ inB io k) :
    Calls Tryd.prog 31 #[trieV io t.1.length ic bo t.2.length bc, .slice so 256 sc] w (PutE (putT t b) base io bo w) := by
  obtain ⟨P, hP⟩ : ∃ P, PutE (putT t b) base io bo w = P := ⟨_, rfl⟩
  have HP := Lib.hid hP
  rw [hP]
  obtain ⟨ix, bs⟩ := t
  simp only at hl hl2 hf HP ⊢
  obtain ⟨n, hn⟩ : ∃ n, ix.length = n := ⟨_, rfl⟩
  obtain ⟨m, hm⟩ : ∃ n, bs.length = n := ⟨_, rfl⟩
  rw [hn] at hl ⊢
  rw [hm] at hl2 ⊢
  obtain ⟨W, hW⟩ : ∃ W, (w.alloc (trieO io n ic bo m bc)).alloc (trieO none 0 0 none 0 0) = W := ⟨_, rfl⟩
  have A1 : Below w.heap.size w W := by rw [← hW]; exact ((Below.refl _ _).alloc (Nat.le_refl _) _).alloc (by simp) _
  have z1 : W.heap.size = w.heap.size + 2 := by rw [← hW]; simp
  have r0 : W.heap[w.heap.size]? = some (trieO io n ic bo m bc) := by rw [← hW, Below.heap_alloc _ _ _ (by simp)]; exact heap_alloc_new _ _
  have r1 : W.heap[w.heap.size + 1]? = some (trieO none 0 0 none 0 0) := by
    rw [← hW]
    have := heap_alloc_new (w.alloc (trieO io n ic bo m bc)) (trieO none 0 0 none 0 0)
    rwa [World.size_alloc] at this
  have c0 : W.cell? ⟨w.heap.size, 0, none⟩ = some (.slice io n ic) := by rw [cell_of_row _ _ 0 _ _ _ r0]; rfl
  have c1 : W.cell? ⟨w.heap.size, 1, none⟩ = some (.slice bo m bc) := by rw [cell_of_row _ _ 1 _ _ _ r0]; rfl
  have l0 := World.block_lt_of_cell? _ _ c0
  have HO := Lib.hid (hO.below A1)
  have HT := Lib.hid ((hO.below A1).trie hf)
  have HBI := Lib.hid (hB.below A1)
  have HBW := Lib.hid hB
  have HSO := Lib.hid hso
  have HA1 := Lib.hid A1
  have HR0 := Lib.hid r0
  have HR1 := Lib.hid r1
  have HW := Lib.hid hW
  have HN := Lib.hid hn
  have HM := Lib.hid hm
  have HF := Lib.hid hf
  have HB256 := Lib.hid hb
  have HFR : Hid (∀ k, (inB io k ∨ inB bo k) → k < w.heap.size) := Lib.hid fun k hk => by
    rcases hk with ⟨a, rfl, rfl⟩ | ⟨a, rfl, rfl⟩
    · obtain ⟨_, h1, _⟩ := own_rowT hO.ix (show (Value.slice (some a) ix.length ic).ownBlock = some a.block from rfl)
      exact (Array.getElem?_eq_some_iff.1 h1).1
    · obtain ⟨cs, hcs, _⟩ := hO.bl
      obtain ⟨_, h1, _⟩ := own_rowT hcs (show (Value.slice (some a) bs.length bc).ownBlock = some a.block from rfl)
      exact (Array.getElem?_eq_some_iff.1 h1).1
  clear hP hW A1 r0 r1 hO hB hn hm hf hb hso
  go_enter Tryd.func31, Tryd.ntmps31
  go_wp2_with fail
  rw [HW.out]
  go_loopg [5] m (fun d v wr => ∃ j q : Nat, v = .int .i64 (j : Nat) ∧ j ≤ m ∧ m - j = d ∧ Hid (∀ c ∈ bs.take j, c ≠ b) ∧ wr = W.drewN q)
  case atStart => exact ⟨0, 0, rfl, Nat.zero_le _, rfl, Lib.hid fun c h => by simp at h, rfl⟩
  case round =>
    obtain ⟨j, q, rfl, hj, rfl, HI, rfl⟩ := hrel
    have hwj : IntKind.i64.wrap (((j : Nat) : Int) + 1) = (j : Nat) + 1 := wrap_id (by omega) (by omega)
    have bq : Below W.heap.size W (W.drewN q) := below_drewN1 _ _
    rcases Nat.lt_or_ge j m with hlt | hge
    · have hj1 : j < 1000000 := by omega
      obtain ⟨c, hc⟩ : ∃ c, bs[j]? = some c := ⟨_, List.getElem?_eq_getElem (by rw [HM.out]; exact hlt)⟩
      obtain ⟨g, off, rfl, hx⟩ := HT.out.bl (by rw [HM.out]; omega)
      obtain ⟨co, cc, k0, k1, k2⟩ := hx j c hc
      have hg := World.block_lt_of_cell? W _ k0
      have hcl := HF.out c (List.mem_of_getElem? hc)
      have CALL := refIntsT_any co so c b cc sc (by omega) (W.drewN q) (k2.below bq) (HBI.out.below bq)
      rw [hcl, HB256.out] at CALL
      rw [hcl] at k0
      by_cases hcb : c = b
      · rw [decide_eq_true hcb] at CALL
        have hidx : idxT bs b = some j := idxT_at (by rw [hc, hcb]) HI.out
        have hput : putT (ix, bs) b = (ix ++ [((j : Nat) : Int)], bs) := by unfold putT; simp only [hidx]
        have HCALL := Lib.hid CALL
        have HPUT := Lib.hid hput
        clear hx hc CALL hidx hput k1 k2 bq hcb HI
        go_wp2_with fail
        refine HCALL.out.mono ?_
        rintro e w' ⟨rfl, q2, rfl⟩
        obtain ⟨W2, hW2⟩ : ∃ W2, (W.drewN q).drewN q2 = W2 := ⟨_, rfl⟩
        have b2 : Below W.heap.size W W2 := by rw [← hW2]; exact (below_drewN1 _ _).trans (below_drewN1 (W.drewN q) q2)
        rw [hW2]
        have d0 := cell_keepT b2 c0
        have d1 := cell_keepT b2 c1
        have dl := World.block_lt_of_cell? _ _ d0
        have z2 := b2.size
        obtain ⟨g9, c9, w9, hr, hO9, m9, hat⟩ := ((HO.out.below b2).push (by omega) (by rw [HN.out]; exact hl) ((j : Nat) : Int))
        rw [HN.out] at hr
        have R9 : w9.heap[w.heap.size]? = some (trieO io n ic (some ⟨g, off, none⟩) m bc) := row_keep (row_below HR0.out b2) m9 (fun hk => by have := HFR.out _ (.inl hk); omega)
        have S9 : w9.heap[w.heap.size + 1]? = some (trieO none 0 0 none 0 0) := row_keep (row_below HR1.out b2) m9 (fun hk => by have := HFR.out _ (.inl hk); omega)
        obtain ⟨e0, e1, e2, e3, e4⟩ := trie_cells R9
        obtain ⟨f0, f1, f2, f3, f4⟩ := trie_cells S9
        have R10 := trie_set1 (.slice (some ⟨g9, 0, none⟩) (n + 1) c9) R9
        have S10 : (w9.setCell ⟨w.heap.size, 0, none⟩ (.slice (some ⟨g9, 0, none⟩) (n + 1) c9)).heap[w.heap.size + 1]? = some (trieO none 0 0 none 0 0) := row_keep S9 (Moves.setCell (S := fun k => k = w.heap.size) rfl) (by omega)
        obtain ⟨S11, m11⟩ := trie_set (.slice (some ⟨g9, 0, none⟩) (n + 1) c9) (.slice (some ⟨g, off, none⟩) m bc) S10
        obtain ⟨w11, hw11⟩ : ∃ w11, ((w9.setCell ⟨w.heap.size, 0, none⟩ (.slice (some ⟨g9, 0, none⟩) (n + 1) c9)).setCell ⟨w.heap.size + 1, 0, none⟩ (.slice (some ⟨g9, 0, none⟩) (n + 1) c9)).setCell ⟨w.heap.size + 1, 1, none⟩ (.slice (some ⟨g, off, none⟩) m bc) = w11 := ⟨_, rfl⟩
        rw [hw11] at S11 m11
        have mm : Moves (fun k => k = w.heap.size ∨ k = w.heap.size + 1) w9 w11 := (Moves.setCell (S := fun k => k = w.heap.size ∨ k = w.heap.size + 1) (.inl rfl)).trans (m11.mono fun k hk => .inr hk)
        have HPP : Hid (P (.returned (trieV (some ⟨g9, 0, none⟩) (n + 1) c9 (some ⟨g, off, none⟩) m bc)) w11) := by
          rw [← HP.out, HPUT.out]
          refine Lib.hid ⟨some ⟨g9, 0, none⟩, c9, some ⟨g, off, none⟩, bc, by rw [List.length_append, List.length_singleton, HN.out, HM.out], hO9.turn2 mm (fun k hk => ?_), moves_new ((Moves.of_below (HA1.out.trans (b2.mono HA1.out.size))).trans (show Moves (fun k => inB io k ∨ inB (some ⟨g, off, none⟩) k) W2 w9 from m9.mono fun k hk => .inl hk)) (mm.mono fun k hk => by omega)⟩
          rcases hk with rfl | rfl
          · exact ⟨_, _, R9, trie_types.1, trie_types.2⟩
          · exact ⟨_, _, S9, trie_types.1, trie_types.2⟩
        have HS11 := Lib.hid S11
        have HW11 := Lib.hid hw11
        clear hw11 mm m11 S10 S11 R10 R9 S9 hO9 m9 hat b2 HCALL hW2 c0 c1 l0
        go_wp2_with fail
        rw [HW11.out]
        exact bodyPost_ret (v := trieV (some ⟨g9, 0, none⟩) (n + 1) c9 (some ⟨g, off, none⟩) m bc) (results_cell_row rfl _ _ (w.heap.size + 1) _ _ _ _ rfl HS11.out Tryd.underlying28 rfl (by kernel_rfl)) rfl HPP.out
      · rw [decide_eq_false hcb] at CALL
        have HI2 : Hid (∀ c ∈ bs.take (j + 1), c ≠ b) := Lib.hid fun x h => by
          rw [List.take_add_one, hc] at h
          rcases List.mem_append.1 h with h1 | h1
          · exact HI.out x h1
          · simp at h1; rw [h1]; exact hcb
        have HCALL := Lib.hid CALL
        clear hx hc CALL k1 k2 bq hcb
        go_wp2_with fail
        refine HCALL.out.mono ?_
        rintro e w' ⟨rfl, q2, rfl⟩
        go_wp2_with fail
        go_roundg (m - (j + 1))
        case measure => omega
        case rel => exact ⟨j + 1, q + q2, by simp, by omega, rfl, HI2, (World.drewN_drewN W q q2).symm ▸ rfl⟩
    · obtain rfl : j = m := by omega
      have hall : bs.take j = bs := List.take_of_length_le (by rw [HM.out]; exact Nat.le_refl _)
      have hidx : idxT bs b = none := idxT_none.2 fun h => HI.out b (by rw [hall]; exact h) rfl
      have hput : putT (ix, bs) b = (ix ++ [((j : Nat) : Int)], bs ++ [b]) := by unfold putT; simp only [hidx]; rw [HM.out]
      have HPUT := Lib.hid hput
      obtain ⟨W2, hW2⟩ : ∃ W2, W.drewN q = W2 := ⟨_, rfl⟩
      have b2 : Below W.heap.size W W2 := by rw [← hW2]; exact bq
      rw [hW2]
      have d0 := cell_keepT b2 c0
      have d1 := cell_keepT b2 c1
      have dl := World.block_lt_of_cell? _ _ d0
      have z2 := b2.size
      obtain ⟨g9, c9, w9, hr, hO9, m9, hat⟩ := ((HO.out.below b2).push (by omega) (by rw [HN.out]; exact hl) ((j : Nat) : Int))
      rw [HN.out] at hr
      have R9 : w9.heap[w.heap.size]? = some (trieO io n ic bo j bc) := row_keep (row_below HR0.out b2) m9 (fun hk => by have := HFR.out _ (.inl hk); omega)
      have S9 : w9.heap[w.heap.size + 1]? = some (trieO none 0 0 none 0 0) := row_keep (row_below HR1.out b2) m9 (fun hk => by have := HFR.out _ (.inl hk); omega)
      obtain ⟨e0, e1, e2, e3, e4⟩ := trie_cells R9
      have R10 := trie_set1 (.slice (some ⟨g9, 0, none⟩) (n + 1) c9) R9
      have m10 : Moves (fun k => k = w.heap.size) w9 (w9.setCell ⟨w.heap.size, 0, none⟩ (.slice (some ⟨g9, 0, none⟩) (n + 1) c9)) := Moves.setCell rfl
      have S10 := row_keep S9 m10 (by omega)
      obtain ⟨w10, hw10⟩ : ∃ w10, w9.setCell ⟨w.heap.size, 0, none⟩ (.slice (some ⟨g9, 0, none⟩) (n + 1) c9) = w10 := ⟨_, rfl⟩
      rw [hw10] at R10 S10 m10
      have hO10 : OwnT w10.drew base (some ⟨g9, 0, none⟩) c9 bo bc (ix ++ [((j : Nat) : Int)], bs) := hO9.turn2 m10.drew (fun k hk => by subst hk; exact ⟨_, _, R9, trie_types.1, trie_types.2⟩)
      have z9 := m9.size
      have z10 := m10.size
      have MW10 : Moves (fun k => inB io k) w w10.drew := moves_new ((Moves.of_below (HA1.out.trans (b2.mono HA1.out.size))).trans m9) (m10.drew.mono fun k hk => by omega)
      have hB10 : IntsT w10.drew so b := HBW.out.moves MW10 HSO.out
      obtain ⟨gq, cq, wq, hr1, bq1, g8, c8, w8, hr2, hO8, m8⟩ := hO10.blk (by show base ≤ w10.heap.size; omega) (by rw [HM.out]; exact hl2) (fun k hk => by
        obtain ⟨a, ha, rfl⟩ := hk
        obtain ⟨_, h1, _⟩ := own_rowT hO10.ix (show (Value.slice (some ⟨g9, 0, none⟩) (ix ++ [((j : Nat) : Int)]).length c9).ownBlock = some g9 from rfl)
        cases ha
        exact (Array.getElem?_eq_some_iff.1 h1).1) b HB256.out so sc hB10
      rw [HM.out] at hr2
      have HBO : ∀ k, inB bo k → k < w.heap.size := fun k hk => HFR.out k (.inr hk)
      have Rq : wq.heap[w.heap.size]? = some (trieO (some ⟨g9, 0, none⟩) (n + 1) c9 bo j bc) := row_below (show w10.drew.heap[w.heap.size]? = _ from R10) bq1
      have R8 : w8.heap[w.heap.size]? = some (trieO (some ⟨g9, 0, none⟩) (n + 1) c9 bo j bc) := row_keep (show w10.drew.heap[w.heap.size]? = _ from R10) m8 (fun hk => by have := HBO _ hk; omega)
      have S8 : w8.heap[w.heap.size + 1]? = some (trieO none 0 0 none 0 0) := row_keep (show w10.drew.heap[w.heap.size + 1]? = _ from S10) m8 (fun hk => by have := HBO _ hk; omega)
      obtain ⟨x0, x1, x2, x3, x4⟩ := trie_cells R10
      obtain ⟨y0, y1, y2, y3, y4⟩ := trie_cells Rq
      obtain ⟨v0, v1, v2, v3, v4⟩ := trie_cells R8
      obtain ⟨f0, f1, f2, f3, f4⟩ := trie_cells S8
      have R12 := trie_set2 (.slice (some ⟨g8, 0, none⟩) (j + 1) c8) R8
      have m12 : Moves (fun k => k = w.heap.size) w8 (w8.setCell ⟨w.heap.size, 1, none⟩ (.slice (some ⟨g8, 0, none⟩) (j + 1) c8)) := Moves.setCell rfl
      have S12 := row_keep S8 m12 (by omega)
      obtain ⟨w12, hw12⟩ : ∃ w12, w8.setCell ⟨w.heap.size, 1, none⟩ (.slice (some ⟨g8, 0, none⟩) (j + 1) c8) = w12 := ⟨_, rfl⟩
      rw [hw12] at R12 S12 m12
      obtain ⟨a0, a1, a2, a3, a4⟩ := trie_cells R12
      obtain ⟨t0, t1, t2, t3, t4⟩ := trie_cells S12
      obtain ⟨S13, m13⟩ := trie_set (.slice (some ⟨g9, 0, none⟩) (n + 1) c9) (.slice (some ⟨g8, 0, none⟩) (j + 1) c8) S12
      obtain ⟨w13, hw13⟩ : ∃ w13, (w12.setCell ⟨w.heap.size + 1, 0, none⟩ (.slice (some ⟨g9, 0, none⟩) (n + 1) c9)).setCell ⟨w.heap.size + 1, 1, none⟩ (.slice (some ⟨g8, 0, none⟩) (j + 1) c8) = w13 := ⟨_, rfl⟩
      rw [hw13] at S13 m13
      have mm : Moves (fun k => k = w.heap.size ∨ k = w.heap.size + 1) w8 w13 := (m12.mono fun k hk => .inl hk).trans (m13.mono fun k hk => .inr hk)
      have HPP : Hid (P (.returned (trieV (some ⟨g9, 0, none⟩) (n + 1) c9 (some ⟨g8, 0, none⟩) (j + 1) c8)) w13) := by
        rw [← HP.out, HPUT.out]
        refine Lib.hid ⟨some ⟨g9, 0, none⟩, c9, some ⟨g8, 0, none⟩, c8, by simp only [List.length_append, List.length_singleton, HN.out, HM.out], hO8.turn2 mm (fun k hk => ?_), moves_new ((MW10.mono fun k hk => .inl hk).trans (m8.mono fun k hk => .inr hk)) (mm.mono fun k hk => by omega)⟩
        rcases hk with rfl | rfl
        · exact ⟨_, _, R8, trie_types.1, trie_types.2⟩
        · exact ⟨_, _, S8, trie_types.1, trie_types.2⟩
      have HS13 := Lib.hid S13
      have HW13 := Lib.hid hw13
      have HW12 := Lib.hid hw12
      have HW10 := Lib.hid hw10
      have hfol : Tryd.prog.follows .mixedOrders = true := by kernel_rfl
      have hzq := bq1.size
      have hzq2 : w10.heap.size ≤ wq.heap.size := hzq
      clear hw10 hw12 hw13 mm m13 m12 S12 S13 R12 R9 S9 R10 S10 Rq R8 S8 hO8 hO10 hO9 m8 m9 m10 hat b2 hW2 c0 c1 l0 hB10 MW10 HBO hidx hput hall bq1 HI hzq
      go_wp2_with fail
      rw [HW10.out]
      go_region
      all_goals
        go_simp
        go_wp2_with fail
        rw [HW12.out, HW13.out]
        exact bodyPost_ret (v := trieV (some ⟨g9, 0, none⟩) (n + 1) c9 (some ⟨g8, 0, none⟩) (j + 1) c8) (results_cell_row rfl _ _ (w.heap.size + 1) _ _ _ _ rfl HS13.out Tryd.underlying28 rfl (by kernel_rfl)) rfl HPP.out
end Go.Proofs.YtlmkefmfhdjmmaaDoor
