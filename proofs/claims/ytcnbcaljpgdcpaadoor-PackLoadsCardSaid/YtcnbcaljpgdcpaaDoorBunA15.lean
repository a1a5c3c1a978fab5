/- loaded, Load: the trie of bytes. A trie in rows of the call's own, of the document: a number more in Index, a block more. The document's put: a row more. -/
import Derived.Test.YtcnbcaljpgdcpaaDoorBunA13
import Derived.Test.YtcnbcaljpgdcpaaDoorBunA14
import Derived.Test.YtcnbcaljpgdcpaaDoorBunA12
import Derived.Test.YtcnbcaljpgdcpaaDoorBunA6
import Derived.BigQuiet
namespace Go.Proofs.YtcnbcaljpgdcpaaDoor
open Go.RowKit Go.Shelf Go.Maps
attribute [local go_sem] Oper.semAt_some

theorem loadB_eq (l : List UInt8) : loadB l = match getBl l with
  | none => none
  | some p => match getN 2 4352 p.2 with
    | none => none
    | some q => if q.2 = [] ∧ rightT (q.1, p.1) then some (q.1, p.1) else none := by
  unfold loadB getBl
  by_cases h : valB 2 l > 300
  · rw [if_pos h, if_pos h]
  · rw [if_neg h, if_neg h]
    rfl
/-- What loaded answers. -/
def LoadedQ (l : List UInt8) (w : World) (e : Ending) (w' : World) : Prop := Below w.heap.size w w' ∧ ∃ io ic bo bc ev, e = .returned (.tuple #[trieV io (loadL l).1.1.length ic bo (loadL l).1.2.length bc, ev]) ∧ ErrF ev (loadL l).2 ∧ (∀ W', Moves (fun k => k < w.heap.size) w' W' → TrieT W' io bo (loadL l).1) ∧ ((loadL l).2 = 0 → fineT (loadL l).1)
theorem trieO_cells {w : World} {k : Nat} {io bo : Option Addr} {n ic q bc : Nat} (h : w.heap[k]? = some (trieO io n ic bo q bc)) : w.cell? ⟨k, 0, none⟩ = some (.slice io n ic) ∧ w.cell? ⟨k, 1, none⟩ = some (.slice bo q bc) ∧ w.frozen? ⟨k, 0, none⟩ = false ∧ w.frozen? ⟨k, 1, none⟩ = false ∧ k < w.heap.size := by
  refine ⟨?_, ?_, frozen_of_row _ _ _ _ _ h, frozen_of_row _ _ _ _ _ h, (Array.getElem?_eq_some_iff.1 h).1⟩
  · rw [cell_of_row _ _ 0 _ _ _ h]; rfl
  · rw [cell_of_row _ _ 1 _ _ _ h]; rfl
set_option maxRecDepth 100000 in
set_option maxHeartbeats 4000000 in
theorem loaded_any (s : ByteArray) (hs : s.size ≤ 700000) (w : World) : Calls Tryd.prog 37 #[.string s] w (LoadedQ s.data.toList w) := by
  obtain ⟨P, hP⟩ : ∃ P, LoadedQ s.data.toList w = P := ⟨_, rfl⟩
  have HP := Lib.hid hP
  rw [hP]
  have hsl := size_list s
  obtain ⟨W, hW⟩ : ∃ W, (w.alloc (trieO none 0 0 none 0 0)).alloc (trieO none 0 0 none 0 0) = W := ⟨_, rfl⟩
  have A1 : Below w.heap.size w W := by rw [← hW]; exact ((Below.refl _ _).alloc (Nat.le_refl _) _).alloc (by simp) _
  have z1 : W.heap.size = w.heap.size + 2 := by rw [← hW]; simp
  have r0 : W.heap[w.heap.size]? = some (trieO none 0 0 none 0 0) := by rw [← hW, Below.heap_alloc _ _ _ (by simp)]; exact heap_alloc_new _ _
  have r1 : W.heap[w.heap.size + 1]? = some (trieO none 0 0 none 0 0) := by
    rw [← hW]
    have := heap_alloc_new (w.alloc (trieO none 0 0 none 0 0)) (trieO none 0 0 none 0 0)
    rwa [World.size_alloc] at this
  have HO := Lib.hid (opened_any s hs W)
  obtain ⟨l, hl⟩ : ∃ l, s.data.toList = l := ⟨_, rfl⟩
  rw [hl] at HO HP
  have hll : l.length ≤ 700000 := by rw [← hl, ← hsl]; exact hs
  have SET : Hid (∀ (W' : World) (u v : Value), W'.heap[w.heap.size]? = some (trieO none 0 0 none 0 0) → Below w.heap.size w W' → Below w.heap.size w ((W'.setCell ⟨w.heap.size, 0, none⟩ u).setCell ⟨w.heap.size, 1, none⟩ v) ∧ ((W'.setCell ⟨w.heap.size, 0, none⟩ u).setCell ⟨w.heap.size, 1, none⟩ v).heap[w.heap.size]? = some (.cells #[u, v] 25 (0, 0))) := by
    refine Lib.hid fun W' u v hr hb => ?_
    obtain ⟨q1, q2⟩ := trie_set u v hr
    exact ⟨Moves.below hb hb.size q2 (fun k hk => by omega), q1⟩
  have ERR : Hid (∀ (W' : World) (ev : Value), W'.heap[w.heap.size]? = some (trieO none 0 0 none 0 0) → Below w.heap.size w W' → (loadL l).1 = ([], []) → (loadL l).2 ≠ 0 → (∃ part, ev = faultW part (loadL l).2) → P (.returned (.tuple #[trieV none 0 0 none 0 0, ev])) ((W'.setCell ⟨w.heap.size, 0, none⟩ (.slice none 0 0)).setCell ⟨w.heap.size, 1, none⟩ (.slice none 0 0))) := by
    rw [← HP.out]
    refine Lib.hid fun W' ev hr hb h1 h2 h3 => ⟨(SET.out W' _ _ hr hb).1, none, 0, none, 0, ev, by rw [h1]; rfl, .inr h3, fun W' _ => ?_, fun h => absurd h h2⟩
    rw [h1]
    exact ⟨fun h => absurd h (Nat.lt_irrefl 0), fun h => absurd h (Nat.lt_irrefl 0)⟩
  obtain ⟨p0, p1, p2, p3, p4⟩ := trieO_cells r0
  have HA1 := Lib.hid A1
  have HR0 := Lib.hid r0
  have HR1 := Lib.hid r1
  have HW := Lib.hid hW
  clear hP hW A1 r0 r1 hl hsl p0 p1 p2 p3 p4
  go_enter Tryd.func37, Tryd.ntmps37
  go_wp2_with fail
  refine wp_scope_forth 0 (by simp [findLabel]; rfl) ?_
  go_wp2_with fail
  rw [HW.out]
  refine HO.out.mono ?_
  rintro e w1 ⟨b1, hres⟩
  have HB1 := Lib.hid (HA1.out.trans (b1.mono HA1.out.size))
  have q0 := row_below HR0.out b1
  have q1 := row_below HR1.out b1
  have zz1 : w.heap.size + 2 ≤ w1.heap.size := by have := b1.size; omega
  rcases hres with ⟨hE, s1, rfl, hs1⟩ | ⟨hE, part, rfl⟩
  rotate_left 1
  · obtain ⟨w2, hw2⟩ : ∃ w2, w1.alloc (.cells #[.string ⟨#[]⟩] 91) = w2 := ⟨_, rfl⟩
    have b2 : Below w1.heap.size w1 w2 := by rw [← hw2]; exact (Below.refl _ _).alloc (Nat.le_refl _) _
    have q02 := row_below q0 b2
    have hL : (loadL l).1 = ([], []) ∧ (loadL l).2 = headE l := by unfold loadL; rw [if_neg hE]; exact ⟨rfl, rfl⟩
    have HB2 := HB1.out.trans (b2.mono HB1.out.size)
    have HPP := Lib.hid (ERR.out w2 (faultW part (headE l)) q02 HB2 hL.1 (by rw [hL.2]; exact hE) ⟨part, by rw [hL.2]⟩)
    have HR := Lib.hid (SET.out w2 (.slice none 0 0) (.slice none 0 0) q02 HB2).2
    obtain ⟨p0, p1, p2, p3, p4⟩ := trieO_cells q02
    have HW2 := Lib.hid hw2
    clear ERR SET HB2 b2 q02 q0 q1 hL hw2 b1
    go_wp2_with fail
    rw [HW2.out]
    refine wp_goto ?_
    simp only [Exit.then]
    show Exit.jump _ _ _ _ _ _
    simp only [Exit.jump, true_and]
    go_wp2_with fail
    rw [Exit.noGoto_ret]
    exact bodyPost_ret (v := .tuple #[trieV none 0 0 none 0 0, faultW part (headE l)]) (results_cell_tmpT rfl _ _ w.heap.size _ _ _ _ _ rfl rfl HR.out Tryd.underlying25 rfl (by kernel_rfl)) rfl HPP.out
  · obtain ⟨h7, _, _⟩ := head_ok hE
    obtain ⟨L, hL⟩ : ∃ L, s1.data.toList = L := ⟨_, rfl⟩
    have hLL : loadL l = match loadB L with | none => (([], []), 60) | some t => (t, 0) := by unfold loadL; rw [if_pos hE, ← hs1, hL]; rfl
    have hz1 : s1.size = l.length - 5 := by rw [size_list, hs1, List.length_drop, List.length_take]; omega
    obtain ⟨w2, hw2⟩ : ∃ w2, w1.alloc (.cells #[.string s1] 91) = w2 := ⟨_, rfl⟩
    have b2 : Below w1.heap.size w1 w2 := by rw [← hw2]; exact (Below.refl _ _).alloc (Nat.le_refl _) _
    have zz2 : w2.heap.size = w1.heap.size + 1 := by rw [← hw2]; simp
    have hR2 : LeftAt w2 w1.heap.size s1 := by rw [← hw2]; exact heap_alloc_new _ _
    have q02 := row_below q0 b2
    have q12 := row_below q1 b2
    have HB2 := Lib.hid (HB1.out.trans (b2.mono HB1.out.size))
    have HBK := blocks_any w1.heap.size s1 (by omega) (by omega) w2 hR2
    rw [hL] at HBK
    have HBK := Lib.hid HBK
    have HLL := Lib.hid hLL
    have HQ02 := Lib.hid q02
    have HQ12 := Lib.hid q12
    have HW2 := Lib.hid hw2
    have HZL : Hid (L.length ≤ 700000) := Lib.hid (by rw [← hL, ← size_list, hz1]; omega)
    clear hE hL hLL hz1 b2 hR2 q0 q1 q02 q12 hs1 h7 hw2 b1
    go_wp2_with fail
    rw [HW2.out]
    refine HBK.out.mono ?_
    rintro e w3 ⟨hm3, s3, hl3, hz3, hres3⟩
    have hA3 := row_keep HQ02.out hm3 (by omega)
    have hT3 := row_keep HQ12.out hm3 (by omega)
    have hB3 : Below w.heap.size w w3 := Moves.below HB2.out HB2.out.size hm3 (fun k hk => by omega)
    obtain ⟨p0, p1, p2, p3, p4⟩ := trieO_cells hT3
    have z3 := hm3.size
    -- one cell of the trie's box set
    cases hg : getBl L with
    | none =>
      rw [hg] at hres3
      obtain ⟨part, rfl⟩ := hres3
      have hR : loadL l = (([], []), 60) := by rw [HLL.out, loadB_eq, hg]
      obtain ⟨w4, hw4⟩ : ∃ w4, w3.setCell ⟨w.heap.size + 1, 1, none⟩ (.slice none 0 0) = w4 := ⟨_, rfl⟩
      have hA4 : w4.heap[w.heap.size]? = some (trieO none 0 0 none 0 0) := by rw [← hw4]; exact row_keep hA3 (Moves.setCell (S := fun k => k = w.heap.size + 1) rfl) (by omega)
      have hB4 : Below w.heap.size w w4 := by rw [← hw4]; exact hB3.setCell (p := ⟨w.heap.size + 1, 1, none⟩) (by simp) _
      have HPP := Lib.hid (ERR.out w4 (faultW part 60) hA4 hB4 (by rw [hR]) (by rw [hR]; decide) ⟨part, by rw [hR]⟩)
      have HR := Lib.hid (SET.out w4 (.slice none 0 0) (.slice none 0 0) hA4 hB4).2
      obtain ⟨g0, g1, g2, g3, g4⟩ := trieO_cells hA4
      have HW4 := Lib.hid hw4
      clear ERR SET hA3 hT3 hB3 hA4 hB4 hw4 hR hg hm3 hl3 hz3 HBK HO
      go_wp2_with fail
      rw [HW4.out]
      refine wp_goto ?_
      simp only [Exit.then]
      show Exit.jump _ _ _ _ _ _
      simp only [Exit.jump, true_and]
      go_wp2_with fail
      rw [Exit.noGoto_ret]
      exact bodyPost_ret (v := .tuple #[trieV none 0 0 none 0 0, faultW part 60]) (results_cell_tmpT rfl _ _ w.heap.size _ _ _ _ _ rfl rfl HR.out Tryd.underlying25 rfl (by kernel_rfl)) rfl HPP.out
    | some p =>
      rw [hg] at hres3
      obtain ⟨bo, bc, rfl, hpl, hpb, hblk, hd3⟩ := hres3
      obtain ⟨n, hn⟩ : ∃ n, p.1.length = n := ⟨_, rfl⟩
      rw [hn] at hpl ⊢
      obtain ⟨w4, hw4⟩ : ∃ w4, w3.setCell ⟨w.heap.size + 1, 1, none⟩ (.slice bo n bc) = w4 := ⟨_, rfl⟩
      have m4 : Moves (fun k => k = w.heap.size + 1) w3 w4 := by rw [← hw4]; exact Moves.setCell rfl
      have hA4 := row_keep hA3 m4 (by omega)
      have hT4 : w4.heap[w.heap.size + 1]? = some (trieO none 0 0 bo n bc) := by rw [← hw4, heap_setCell_same _ _ 1 _ _ _ hT3]; rfl
      have hB4 : Below w.heap.size w w4 := Moves.below hB3 hB3.size m4 (fun k hk => by omega)
      have hL4 : LeftAt w4 w1.heap.size s3 := row_keep hl3 m4 (by omega)
      have HNU := Lib.hid (numbers_any (.inr rfl) w1.heap.size 4352 ⟨#[105, 110, 100, 101, 120]⟩ s3 (by omega) (by omega) (by have := HZL.out; omega) w4 hL4)
      have z4 := m4.size
      have HBLK : Hid (∀ W', Moves (fun k => k < w2.heap.size) w4 W' → BlksT W' bo p.1) := Lib.hid fun W' hm => hblk W' ((m4.mono fun k hk => by omega).trans hm)
      have HA4 := Lib.hid hA4
      have HT4 := Lib.hid hT4
      have HB4 := Lib.hid hB4
      have HW4 := Lib.hid hw4
      have HG := Lib.hid hg
      have HD3 := Lib.hid hd3
      have HPB := Lib.hid hpb
      have HN := Lib.hid hn
      clear hA3 hT3 hB3 hA4 hT4 hB4 hw4 hg hm3 hl3 hz3 HBK HO hblk hd3 hpb m4 hL4 hn
      go_wp2_with fail
      rw [HW4.out]
      refine HNU.out.mono ?_
      rintro e w5 ⟨hm5, s5, hl5, hz5, hres5⟩
      rw [HD3.out] at hres5
      have hA5 := row_keep HA4.out hm5 (by omega)
      have hT5 := row_keep HT4.out hm5 (by omega)
      have hB5 : Below w.heap.size w w5 := Moves.below HB4.out HB4.out.size hm5 (fun k hk => by omega)
      have z5 := hm5.size
      obtain ⟨p0, p1, p2, p3, p4⟩ := trieO_cells hT5
      cases hg5 : getN 2 4352 p.2 with
      | none =>
        rw [hg5] at hres5
        obtain ⟨part, rfl⟩ := hres5
        have hR : loadL l = (([], []), 60) := by rw [HLL.out, loadB_eq, HG.out]; simp only [hg5]
        obtain ⟨w6, hw6⟩ : ∃ w6, w5.setCell ⟨w.heap.size + 1, 0, none⟩ (.slice none 0 0) = w6 := ⟨_, rfl⟩
        have hA6 : w6.heap[w.heap.size]? = some (trieO none 0 0 none 0 0) := by rw [← hw6]; exact row_keep hA5 (Moves.setCell (S := fun k => k = w.heap.size + 1) rfl) (by omega)
        have hB6 : Below w.heap.size w w6 := by rw [← hw6]; exact hB5.setCell (p := ⟨w.heap.size + 1, 0, none⟩) (by simp) _
        have HPP := Lib.hid (ERR.out w6 (faultW part 60) hA6 hB6 (by rw [hR]) (by rw [hR]; decide) ⟨part, by rw [hR]⟩)
        have HR := Lib.hid (SET.out w6 (.slice none 0 0) (.slice none 0 0) hA6 hB6).2
        obtain ⟨g0, g1, g2, g3, g4⟩ := trieO_cells hA6
        have HW6 := Lib.hid hw6
        clear ERR SET hA5 hT5 hB5 hA6 hB6 hw6 hR hg5 hm5 hl5 hz5 HNU
        go_wp2_with fail
        rw [HW6.out]
        refine wp_goto ?_
        simp only [Exit.then]
        show Exit.jump _ _ _ _ _ _
        simp only [Exit.jump, true_and]
        go_wp2_with fail
        rw [Exit.noGoto_ret]
        exact bodyPost_ret (v := .tuple #[trieV none 0 0 none 0 0, faultW part 60]) (results_cell_tmpT rfl _ _ w.heap.size _ _ _ _ _ rfl rfl HR.out Tryd.underlying25 rfl (by kernel_rfl)) rfl HPP.out
      | some q =>
        rw [hg5] at hres5
        obtain ⟨io, ic, rfl, hic, hql, hints, hd5, hio⟩ := hres5
        obtain ⟨w6, hw6⟩ : ∃ w6, w5.setCell ⟨w.heap.size + 1, 0, none⟩ (.slice io 4352 ic) = w6 := ⟨_, rfl⟩
        have m6 : Moves (fun k => k = w.heap.size + 1) w5 w6 := by rw [← hw6]; exact Moves.setCell rfl
        have hA6 := row_keep hA5 m6 (by omega)
        have hT6 : w6.heap[w.heap.size + 1]? = some (trieO io 4352 ic bo n bc) := by rw [← hw6, heap_setCell_same _ _ 0 _ _ _ hT5]; rfl
        have hB6 : Below w.heap.size w w6 := Moves.below hB5 hB5.size m6 (fun k hk => by omega)
        have hL6 : LeftAt w6 w1.heap.size s5 := row_keep hl5 m6 (by omega)
        have kS5 : w5.cell? ⟨w1.heap.size, 0, none⟩ = some (.string s5) := by rw [cell_of_row _ _ 0 _ _ _ hl5]; rfl
        have kS : w6.cell? ⟨w1.heap.size, 0, none⟩ = some (.string s5) := by rw [cell_of_row _ _ 0 _ _ _ hL6]; rfl
        have lS := (Array.getElem?_eq_some_iff.1 hL6).1
        have HTR : Hid (∀ W', Moves (fun k => k < w2.heap.size) w6 W' → TrieT W' io bo (q.1, p.1)) := Lib.hid fun W' hm => ⟨hints.turn ((m6.mono fun k hk => .inl hk).trans (hm.mono fun k hk => (.inr hk : k = w.heap.size + 1 ∨ k < w2.heap.size))) (fun k hk hs => by have := (hio k hk).1; omega), HBLK.out W' (((hm5.mono fun k hk => by omega).trans (m6.mono fun k hk => by omega)).trans hm)⟩
        have hLB : loadB L = if q.2 = [] ∧ rightT (q.1, p.1) then some (q.1, p.1) else none := by rw [loadB_eq, HG.out]; simp only [hg5]
        obtain ⟨t0, t1, t2, t3, t4⟩ := trieO_cells hT6
        obtain ⟨g0, g1, g2, g3, g4⟩ := trieO_cells hA6
        have HRC := rightT_any io bo (q.1, p.1) ic bc (by simp only; omega) (by simp only; rw [HN.out]; omega) (fun b hb => by rw [HPB.out b hb]; omega) w6 (HTR.out w6 (Moves.refl _ _))
        simp only at HRC
        rw [hql, HN.out] at HRC
        have HRC := Lib.hid HRC
        have HLB := Lib.hid hLB
        have HA6 := Lib.hid hA6
        have HT6 := Lib.hid hT6
        have HB6 := Lib.hid hB6
        have HW6 := Lib.hid hw6
        have HD5 := Lib.hid hd5
        have HQL := Lib.hid hql
        clear hA5 hT5 hB5 hA6 hT6 hB6 hw6 hg5 hm5 hl5 hz5 HNU hints hd5 hio m6 hL6 hLB hql p3
        by_cases hemp : s5.data.toList = []
        · have he1 := empty_yes hemp
          have he2 : s5.toList = [] := by rw [Lib.toList_data, hemp]
          have hq2 : q.2 = [] := by rw [← HD5.out]; exact hemp
          have HQ2 := Lib.hid hq2
          obtain ⟨dd, hdd⟩ : ∃ dd, decide (rightT (q.1, p.1)) = dd := ⟨_, rfl⟩
          rw [hdd] at HRC
          have HDD := Lib.hid hdd
          clear hemp hq2 hdd
          go_wp2_with fail
          rw [HW6.out]
          refine HRC.out.mono ?_
          rintro e w7 ⟨rfl, b7⟩
          have hA7 := row_below HA6.out b7
          have hT7 := row_below HT6.out b7
          have hB7 : Below w.heap.size w w7 := HB6.out.trans (b7.mono HB6.out.size)
          clear t0 t1 t2 t3 t4 g0 g1 g2 g3 g4 kS lS kS5
          obtain ⟨t0, t1, t2, t3, t4⟩ := trieO_cells hT7
          obtain ⟨g0, g1, g2, g3, g4⟩ := trieO_cells hA7
          cases dd with
          | true =>
            have hrt : rightT (q.1, p.1) := of_decide_eq_true HDD.out
            have hR : loadL l = ((q.1, p.1), 0) := by rw [HLL.out, HLB.out, if_pos ⟨HQ2.out, hrt⟩]
            have hS := SET.out w7 (.slice io 4352 ic) (.slice bo n bc) hA7 hB7
            have HPP : Hid (P (.returned (.tuple #[trieV io 4352 ic bo n bc, .nilIface])) ((w7.setCell ⟨w.heap.size, 0, none⟩ (.slice io 4352 ic)).setCell ⟨w.heap.size, 1, none⟩ (.slice bo n bc))) := by
              rw [← HP.out]
              refine Lib.hid ⟨hS.1, io, ic, bo, bc, .nilIface, by rw [hR]; simp only [HQL.out, HN.out], .inl ⟨rfl, by rw [hR]⟩, fun W' hm => ?_, fun _ => by rw [hR]; exact ⟨hrt, by simp only; rw [HN.out]; exact hpl⟩⟩
              rw [hR]
              exact HTR.out _ ((((Moves.of_below b7).trans (Moves.setCell (show w.heap.size < w2.heap.size by omega))).trans (Moves.setCell (show w.heap.size < w2.heap.size by omega))).trans (hm.mono fun k hk => by omega))
            have HR := Lib.hid hS.2
            clear ERR SET hrt hR hS hA7 hT7 hB7 b7 HTR
            go_wp2_with fail
            simp only [Exit.jump]
            exact bodyPost_ret (v := .tuple #[trieV io 4352 ic bo n bc, .nilIface]) (results_cell_tmpT rfl _ _ w.heap.size _ _ _ _ _ rfl rfl HR.out Tryd.underlying25 rfl (by kernel_rfl)) rfl HPP.out
          | false =>
            have hrt : ¬ rightT (q.1, p.1) := of_decide_eq_false HDD.out
            have hR : loadL l = (([], []), 60) := by rw [HLL.out, HLB.out, if_neg (fun h => hrt h.2)]
            have HPP := Lib.hid (fun part => ERR.out w7 (faultW part 60) hA7 hB7 (by rw [hR]) (by rw [hR]; decide) ⟨part, by rw [hR]⟩)
            have HR := Lib.hid (SET.out w7 (.slice none 0 0) (.slice none 0 0) hA7 hB7).2
            clear ERR SET hrt hR hA7 hT7 hB7 b7 HTR
            go_wp2_with fail
            refine (inA_any _ _ _).mono ?_
            rintro e w8 ⟨rfl, rfl⟩
            go_wp2_with fail
            refine wp_goto ?_
            simp only [Exit.then]
            show Exit.jump _ _ _ _ _ _
            simp only [Exit.jump, true_and]
            go_wp2_with fail
            rw [Exit.noGoto_ret]
            exact bodyPost_ret (v := .tuple #[trieV none 0 0 none 0 0, faultW _ 60]) (results_cell_tmpT rfl _ _ w.heap.size _ _ _ _ _ rfl rfl HR.out Tryd.underlying25 rfl (by kernel_rfl)) rfl (HPP.out _)
        · obtain ⟨u, us, hus⟩ : ∃ u us, s5.data.toList = u :: us := by
            cases h : s5.data.toList with
            | nil => exact absurd h hemp
            | cons u us => exact ⟨u, us, rfl⟩
          have he1 := empty_no hus
          have he2 : s5.toList ≠ [] := by rw [Lib.toList_data, hus]; simp
          have hR : loadL l = (([], []), 60) := by rw [HLL.out, HLB.out, if_neg (fun h => hemp (by rw [HD5.out]; exact h.1))]
          have HPP := Lib.hid (fun part => ERR.out w6 (faultW part 60) HA6.out HB6.out (by rw [hR]) (by rw [hR]; decide) ⟨part, by rw [hR]⟩)
          have HR := Lib.hid (SET.out w6 (.slice none 0 0) (.slice none 0 0) HA6.out HB6.out).2
          clear ERR SET hR hus hemp HRC HTR
          go_wp2_with fail
          rw [HW6.out]
          go_wp2_with fail
          refine (inA_any _ _ _).mono ?_
          rintro e w7 ⟨rfl, rfl⟩
          go_wp2_with fail
          refine wp_goto ?_
          simp only [Exit.then]
          show Exit.jump _ _ _ _ _ _
          simp only [Exit.jump, true_and]
          go_wp2_with fail
          rw [Exit.noGoto_ret]
          exact bodyPost_ret (v := .tuple #[trieV none 0 0 none 0 0, faultW _ 60]) (results_cell_tmpT rfl _ _ w.heap.size _ _ _ _ _ rfl rfl HR.out Tryd.underlying25 rfl (by kernel_rfl)) rfl (HPP.out _)
/-- What Load answers. -/
def LoadQ (l : List UInt8) (w : World) (e : Ending) (w' : World) : Prop := ∃ io ic bo bc, e = .returned (.tuple #[trieV io (loadL l).1.1.length ic bo (loadL l).1.2.length bc, .int .i64 (loadL l).2]) ∧ Below w.heap.size w w' ∧ TrieT w' io bo (loadL l).1
set_option maxRecDepth 100000 in
set_option maxHeartbeats 4000000 in
theorem Load_any (s : ByteArray) (hs : s.size ≤ 700000) (w : World) (hG : EGlob w) : Calls Tryd.prog 22 #[.string s] w (LoadQ s.data.toList w) := by
  obtain ⟨l, hl⟩ : ∃ l, s.data.toList = l := ⟨_, rfl⟩
  obtain ⟨P, hP⟩ : ∃ P, LoadQ l w = P := ⟨_, rfl⟩
  have HP := Lib.hid hP
  rw [hl, hP]
  obtain ⟨W, hW⟩ : ∃ W, w.alloc (trieO none 0 0 none 0 0) = W := ⟨_, rfl⟩
  have A1 : Below w.heap.size w W := by rw [← hW]; exact (Below.refl _ _).alloc (Nat.le_refl _) _
  have z1 : W.heap.size = w.heap.size + 1 := by rw [← hW]; simp
  have r0 : W.heap[w.heap.size]? = some (trieO none 0 0 none 0 0) := by rw [← hW]; exact heap_alloc_new _ _
  have HC := loaded_any s hs W
  rw [hl] at HC
  have HC := Lib.hid HC
  have HA1 := Lib.hid A1
  have HR0 := Lib.hid r0
  have HW := Lib.hid hW
  have HG := Lib.hid hG
  have hfol : Tryd.prog.follows .mixedOrders = true := by kernel_rfl
  clear hP hW A1 r0 hG hl
  go_enter Tryd.func22, Tryd.ntmps22
  go_wp2_with fail
  rw [HW.out]
  refine HC.out.mono ?_
  rintro e w1 ⟨b1, io, ic, bo, bc, ev, rfl, hev, hT, hfine⟩
  obtain ⟨T, hTT⟩ : ∃ T, (loadL l).1 = T := ⟨_, rfl⟩
  obtain ⟨c, hc⟩ : ∃ c, (loadL l).2 = c := ⟨_, rfl⟩
  rw [hTT] at hT ⊢
  rw [hc] at hev
  obtain ⟨n, hn⟩ : ∃ n, T.1.length = n := ⟨_, rfl⟩
  obtain ⟨q, hq⟩ : ∃ n, T.2.length = n := ⟨_, rfl⟩
  rw [hn, hq]
  have HB1 := HA1.out.trans (b1.mono HA1.out.size)
  obtain ⟨w2, hw2⟩ : ∃ w2, w1.alloc (trieO io n ic bo q bc) = w2 := ⟨_, rfl⟩
  have b2 : Below w1.heap.size w1 w2 := by rw [← hw2]; exact (Below.refl _ _).alloc (Nat.le_refl _) _
  have r1 : w2.heap[w1.heap.size]? = some (trieO io n ic bo q bc) := by rw [← hw2]; exact heap_alloc_new _ _
  have r02 := row_below (row_below HR0.out b1) b2
  have HB2 := HB1.trans (b2.mono HB1.size)
  have z2 : w.heap.size < w1.heap.size := by have := b1.size; omega
  have HT : Hid (Calls Tryd.prog 31 #[ev] w2.drew fun e w' => e = .returned (.int .i64 c) ∧ w'.cell? ⟨w1.heap.size, 0, none⟩ = some (.slice io n ic) ∧ w'.cell? ⟨w1.heap.size, 1, none⟩ = some (.slice bo q bc) ∧ w1.heap.size < w'.heap.size ∧ w'.cell? ⟨w.heap.size, 0, none⟩ = some (.slice none 0 0) ∧ w'.cell? ⟨w.heap.size, 1, none⟩ = some (.slice none 0 0) ∧ w'.frozen? ⟨w.heap.size, 0, none⟩ = false ∧ w'.frozen? ⟨w.heap.size, 1, none⟩ = false ∧ w.heap.size < w'.heap.size ∧
      Hid (((w'.setCell ⟨w.heap.size, 0, none⟩ (.slice io n ic)).setCell ⟨w.heap.size, 1, none⟩ (.slice bo q bc)).heap[w.heap.size]? = some (.cells #[.slice io n ic, .slice bo q bc] 25 (0, 0)) ∧ P (.returned (.tuple #[trieV io n ic bo q bc, .int .i64 c])) ((w'.setCell ⟨w.heap.size, 0, none⟩ (.slice io n ic)).setCell ⟨w.heap.size, 1, none⟩ (.slice bo q bc)))) := by
    refine Lib.hid ((toldF hev w2.drew (HG.out.below HB2.drew)).mono ?_)
    rintro e w' ⟨he, hb⟩
    have hb' : Below w2.heap.size w2 w' := (Below.refl w2.heap.size w2).drew.trans hb
    have r1' := row_below r1 hb'
    have r0' := row_below r02 hb'
    obtain ⟨t0, t1, _, _, t4⟩ := trieO_cells r1'
    obtain ⟨g0, g1, g2, g3, g4⟩ := trieO_cells r0'
    obtain ⟨s1, s2⟩ := trie_set (.slice io n ic) (.slice bo q bc) r0'
    refine ⟨he, t0, t1, t4, g0, g1, g2, g3, g4, Lib.hid ⟨s1, ?_⟩⟩
    rw [← HP.out]
    have hB' := HB2.trans (hb'.mono HB2.size)
    refine ⟨io, ic, bo, bc, by rw [hTT, hc, hn, hq], Moves.below hB' hB'.size s2 (fun k hk => by omega), ?_⟩
    rw [hTT]
    exact hT _ ((Moves.of_below b2).trans ((Moves.of_below hb').trans (s2.mono fun k hk => by omega)))
  obtain ⟨t0, t1, t2, t3, t4⟩ := trieO_cells r1
  obtain ⟨g0, g1, g2, g3, g4⟩ := trieO_cells r02
  have HW2 := Lib.hid hw2
  clear hT hfine hev hw2 b2 b1 r1 r02 HB1 HB2 hTT hc hn hq HC
  go_wp2_with fail
  rw [HW2.out]
  go_region_with (go_at_call 31; refine HT.out.mono ?_; rintro e w' ⟨rfl, k0, k1, k2, k3, k4, k5, k6, k7, hPP⟩)
  all_goals
    go_simp
    go_wp2_with fail
    exact bodyPost_ret (v := .tuple #[trieV io n ic bo q bc, .int .i64 c]) (results_cell_tmpT rfl _ _ w.heap.size _ _ _ _ _ rfl rfl hPP.out.1 Tryd.underlying25 rfl (by kernel_rfl)) rfl hPP.out.2
end Go.Proofs.YtcnbcaljpgdcpaaDoor

namespace Go.Proofs.YtcnbcaljpgdcpaaDoor
open Go.RowKit Go.Shelf Go.Maps

structure OwnT (w : World) (base : Nat) (io : Option Addr) (ic : Nat) (bo : Option Addr) (bc : Nat) (t : TrieD) : Prop where
  ix : w.ownsRow base 3 1 (.slice io t.1.length ic) t.1.length (t.1.map (Value.int .i64))
  bl : ∃ cs, w.ownsRow base 22 1 (.slice bo t.2.length bc) t.2.length cs ∧ BlkC w base (fun _ => False) io cs t.2
theorem OwnT.turn {S : Nat → Prop} {w w' : World} {base : Nat} {io bo : Option Addr} {ic bc : Nat} {t : TrieD} (h : OwnT w base io ic bo bc t) (hm : Moves S w w') (hS : ∀ k, S k → k < base) : OwnT w' base io ic bo bc t := by
  obtain ⟨cs, hcs, hbc⟩ := h.bl
  refine ⟨own_moves1N h.ix hm (fun k hk hs => ?_), cs, own_moves1N hcs hm (fun k hk hs => ?_), fun j b hj => ?_⟩
  · obtain ⟨_, _, h1⟩ := own_rowT h.ix hk
    have := hS k hs
    omega
  · obtain ⟨_, _, h1⟩ := own_rowT hcs hk
    have := hS k hs
    omega
  · obtain ⟨g, sc, cur, k1, k2, k3, k4, k5⟩ := hbc j b hj
    exact ⟨g, sc, cur, k1, k2, k3, row_keep k4 hm (fun hs => by have := hS g hs; omega), k5⟩
theorem OwnT.turn2 {S : Nat → Prop} {w w' : World} {base : Nat} {io bo : Option Addr} {ic bc : Nat} {t : TrieD} (h : OwnT w base io ic bo bc t) (hm : Moves S w w') (hS : ∀ k, S k → ∃ cur e, w.heap[k]? = some (.cells cur e (0, 0)) ∧ e ≠ 3 ∧ e ≠ 22) : OwnT w' base io ic bo bc t := by
  obtain ⟨cs, hcs, hbc⟩ := h.bl
  have far : ∀ {k e cur}, w.heap[k]? = some (.cells cur e (0, 0)) → (e = 3 ∨ e = 22) → ¬ S k := fun {k e cur} hk he hs => by
    obtain ⟨cur2, e2, h2, h3, h4⟩ := hS k hs
    rw [hk] at h2
    injection h2 with h2
    injection h2 with _ h5 _
    subst h5
    rcases he with he | he
    · exact h3 he
    · exact h4 he
  refine ⟨own_moves1N h.ix hm (fun k hk hs => ?_), cs, own_moves1N hcs hm (fun k hk hs => ?_), fun j b hj => ?_⟩
  · obtain ⟨_, h1, _⟩ := own_rowT h.ix hk
    exact far h1 (.inl rfl) hs
  · obtain ⟨_, h1, _⟩ := own_rowT hcs hk
    exact far h1 (.inr rfl) hs
  · obtain ⟨g, sc, cur, k1, k2, k3, k4, k5⟩ := hbc j b hj
    exact ⟨g, sc, cur, k1, k2, k3, row_keep k4 hm (far k4 (.inl rfl)), k5⟩
theorem OwnT.below {w w' : World} {base : Nat} {io bo : Option Addr} {ic bc : Nat} {t : TrieD} (h : OwnT w base io ic bo bc t) (hb : Below w.heap.size w w') : OwnT w' base io ic bo bc t := by
  refine h.turn2 (S := fun _ => False) ⟨hb.os, hb.tape, hb.output, hb.size, fun k hk _ => hb.block k hk⟩ (fun k h => h.elim)
theorem OwnT.trie {w : World} {base : Nat} {io bo : Option Addr} {ic bc : Nat} {t : TrieD} (h : OwnT w base io ic bo bc t) (hf : ∀ b ∈ t.2, b.length = 256) : TrieT w io bo t := by
  refine ⟨intsT_own h.ix, fun hn => ?_⟩
  obtain ⟨cs, hcs, hbc⟩ := h.bl
  rcases hcs.2 with ⟨_, h0⟩ | ⟨g, cap', cur, e, _, hg, _, _, _, htake⟩
  · omega
  · obtain ⟨rfl, rfl⟩ : bo = some ⟨g, 0, none⟩ ∧ bc = cap' := by simpa using e
    refine ⟨g, 0, rfl, fun j b hj => ?_⟩
    obtain ⟨g2, sc, cu, k1, k2, k3, k4, k5, _⟩ := hbc j b hj
    have hbl := hf b (List.mem_of_getElem? hj)
    refine ⟨some ⟨g2, 0, none⟩, sc, ?_, by omega, fun _ => ⟨g2, 0, rfl, fun p v hv => ?_⟩⟩
    · rw [Nat.zero_add, cell_of_row _ _ j _ _ _ hg, hbl]
      rw [← htake, List.getElem?_take] at k1
      split at k1
      · rwa [Array.getElem?_toList] at k1
      · cases k1
    · rw [Nat.zero_add, cell_of_row _ _ p _ _ _ k4]
      exact k5 p v hv
/-- A number more in Index. -/
theorem OwnT.push {w : World} {base : Nat} {io bo : Option Addr} {ic bc : Nat} {ix : List Int} {bs : List (List Int)} (h : OwnT w base io ic bo bc (ix, bs)) (hbase : base ≤ w.heap.size) (hl : ix.length ≤ 1000000) (v : Int) :
    ∃ g9 c9 w9, (appSem #[22, 22] 22 #[.slice io ix.length ic, .slice (some ⟨w.heap.size, 0, none⟩) 1 1]).run Tryd.prog (w.alloc (.cells #[.int .i64 v] 3)) = .ok (.slice (some ⟨g9, 0, none⟩) (ix.length + 1) c9) w9 ∧
      OwnT w9 base (some ⟨g9, 0, none⟩) c9 bo bc (ix ++ [v], bs) ∧ Moves (fun k => inB io k) w w9 ∧ (inB io g9 ∨ w.heap.size < g9) := by
  obtain ⟨cs, hcs, hbc⟩ := h.bl
  have hix := h.ix
  simp only at hix hcs hbc
  obtain ⟨n, hn⟩ : ∃ n, ix.length = n := ⟨_, rfl⟩
  obtain ⟨m, hmm⟩ : ∃ n, bs.length = n := ⟨_, rfl⟩
  rw [hn] at hix hl
  rw [hmm] at hcs
  rw [hn]
  have a1 : Below w.heap.size w (w.alloc (.cells #[.int .i64 v] 3)) := (Below.refl _ _).alloc (Nat.le_refl _) _
  have hix1 := own_below hix a1
  obtain ⟨i0, hi0, hz0, hz1, hz2⟩ := info_parts infoIntT
  obtain ⟨v', w9, hr, h2, h3, h4, hat⟩ := run_append_own_at (P := Tryd.prog) (w := w.alloc (.cells #[.int .i64 v] 3)) base 22 22 3 i0 (.int .i64 0) 1 8 Tryd.underlying22 hi0 hz0 hz1 hz2 rfl (by decide) _ n _ hix1 ⟨w.heap.size, 0, none⟩ 1 1 [.int .i64 v] rfl
    (cell_one_new _ _ _) (by simp [Value.oneCell']) (by unfold maxLen; omega) (by omega) (by simp; omega)
  obtain ⟨o9, c9, rfl⟩ := own_form h2
  have hne9 : ∃ g9, o9 = some ⟨g9, 0, none⟩ := by
    rcases h2.2 with ⟨_, h0⟩ | ⟨g, cap, cu, h', _⟩
    · omega
    · exact ⟨g, by injection h'⟩
  obtain ⟨g9, rfl⟩ := hne9
  have z1 : (w.alloc (.cells #[.int .i64 v] 3)).heap.size = w.heap.size + 1 := by simp
  have hg9 : inB io g9 ∨ w.heap.size < g9 := by
    rcases hat with e | e
    · exact .inl (own_inB (n := n) (c := ic) (e ▸ rfl))
    · have : g9 = (w.alloc (.cells #[.int .i64 v] 3)).heap.size := by simpa [Value.ownBlock] using e
      exact .inr (by omega)
  have m9 : Moves (fun k => inB io k) w w9 := (Moves.of_below a1).trans ((Moves.of_grownN h3).mono fun k hk => own_inB hk.symm)
  refine ⟨g9, c9, w9, hr, ⟨?_, cs, ?_, fun j b hj => ?_⟩, m9, hg9⟩
  · simp only [List.length_append, List.length_singleton, hn, List.map_append, List.map_cons, List.map_nil]
    exact h2
  · simp only [hmm]
    refine own_moves1N hcs m9 fun k hk hs => ?_
    obtain ⟨cur2, h5, _⟩ := own_rowT hcs hk
    obtain ⟨a, rfl, rfl⟩ := hs
    obtain ⟨cur3, h6, _⟩ := own_rowT hix (show (Value.slice (some a) n ic).ownBlock = some a.block from rfl)
    rw [h5] at h6
    injection h6 with h6
    injection h6 with _ h7 _
    exact absurd h7 (by decide)
  · obtain ⟨g, sc, cur, k1, k2, k3, k4, k5, k6, k7⟩ := hbc j b hj
    have hgw := (Array.getElem?_eq_some_iff.1 k4).1
    refine ⟨g, sc, cur, k1, k2, k3, row_keep k4 m9 (fun hs => ?_), k5, fun a ha e => ?_, k7⟩
    · obtain ⟨a, ha, e⟩ := hs
      exact k6 a ha e
    · cases ha
      simp only at e
      subst e
      rcases hg9 with ⟨a, rfl, e⟩ | h5
      · exact k6 a rfl e
      · omega
set_option maxRecDepth 100000 in
/-- A block more: a copy of it, laid, and put behind the others. -/
theorem OwnT.blk {w : World} {base : Nat} {io bo : Option Addr} {ic bc : Nat} {ix : List Int} {bs : List (List Int)} (h : OwnT w base io ic bo bc (ix, bs)) (hbase : base ≤ w.heap.size) (hl : bs.length ≤ 1000000) (hio : ∀ k, inB io k → k < w.heap.size) (b : List Int) (hb : b.length = 256) (so : Option Addr) (sc : Nat) (hB : IntsT w so b) :
    ∃ gq cq wq, (appSem #[22, 22] 22 #[.slice none 0 0, .slice so 256 sc]).run Tryd.prog w = .ok (.slice (some ⟨gq, 0, none⟩) 256 cq) wq ∧ Below w.heap.size w wq ∧
      ∃ g9 c9 w9, (appSem #[23, 23] 23 #[.slice bo bs.length bc, .slice (some ⟨wq.heap.size, 0, none⟩) 1 1]).run Tryd.prog (wq.alloc (.cells #[.slice (some ⟨gq, 0, none⟩) 256 cq] 22)) = .ok (.slice (some ⟨g9, 0, none⟩) (bs.length + 1) c9) w9 ∧
        OwnT w9 base io ic (some ⟨g9, 0, none⟩) c9 (ix, bs ++ [b]) ∧ Moves (fun k => inB bo k) w w9 := by
  obtain ⟨cs, hcs, hbc⟩ := h.bl
  have hix := h.ix
  simp only at hix hcs hbc
  obtain ⟨n, hn⟩ : ∃ n, ix.length = n := ⟨_, rfl⟩
  obtain ⟨m, hmm⟩ : ∃ n, bs.length = n := ⟨_, rfl⟩
  rw [hn] at hix
  rw [hmm] at hcs hl
  rw [hmm]
  obtain ⟨i0, hi0, hz0, hz1, hz2⟩ := info_parts infoIntT
  obtain ⟨g, off, rfl, hc⟩ := hB (by omega)
  obtain ⟨v', wq, hr, h2, h3, h4, hat⟩ := run_append_own_at (P := Tryd.prog) (w := w) w.heap.size 22 22 3 i0 (.int .i64 0) 1 8 Tryd.underlying22 hi0 hz0 hz1 hz2 rfl (by decide) (.slice none 0 0) 0 [] (World.ownsRow_nil _ _ _ _) ⟨g, off, none⟩ 256 sc (b.map (Value.int .i64)) (by simp [hb])
    (fun j u hj => by
      rw [List.getElem?_map] at hj
      cases hx : b[j]? with
      | none => rw [hx] at hj; cases hj
      | some x => rw [hx] at hj; cases hj; rw [show (⟨g, off, none⟩ : Addr).add j = ⟨g, off + j, none⟩ by unfold Addr.add; split <;> simp_all]; exact hc j x hx) (by intro x hx; obtain ⟨y, _, rfl⟩ := List.mem_map.1 hx; rfl) (by unfold maxLen; omega) (by omega) (Nat.le_refl _)
  rw [Nat.zero_add] at h2
  obtain ⟨oq, cq, rfl⟩ := own_form h2
  obtain ⟨gq, rfl⟩ : ∃ gq, oq = some ⟨gq, 0, none⟩ := by
    rcases h2.2 with ⟨_, h0⟩ | ⟨g, cap, cu, h', _⟩
    · omega
    · exact ⟨g, by injection h'⟩
  have hbq : Below w.heap.size w wq := ⟨h3.os, h3.tape, h3.output, h3.size, fun k hk => h3.block k hk (by simp [Value.ownBlock])⟩
  refine ⟨gq, cq, wq, hr, hbq, ?_⟩
  have a8 : Below wq.heap.size wq (wq.alloc (.cells #[.slice (some ⟨gq, 0, none⟩) 256 cq] 22)) := (Below.refl _ _).alloc (Nat.le_refl _) _
  have hzq := hbq.size
  have hcs8 := own_below (own_below hcs hbq) a8
  obtain ⟨j0, hj0, hy0, hy1, hy2⟩ := info_parts infoIntsT
  obtain ⟨v9, w9, hr9, h29, h39, h49, hat9⟩ := run_append_own_at (P := Tryd.prog) (wq.alloc (.cells #[.slice (some ⟨gq, 0, none⟩) 256 cq] 22)) base 23 23 22 j0 (.slice none 0 0) 1 24 Tryd.underlying23 hj0 hy0 hy1 hy2 rfl (by decide) _ m cs hcs8 ⟨wq.heap.size, 0, none⟩ 1 1 [.slice (some ⟨gq, 0, none⟩) 256 cq] rfl
    (cell_one_new _ _ _) (by simp [Value.oneCell']) (by unfold maxLen; omega) (by omega) (by simp; omega)
  obtain ⟨o9, c9, rfl⟩ := own_form h29
  obtain ⟨g9, rfl⟩ : ∃ g9, o9 = some ⟨g9, 0, none⟩ := by
    rcases h29.2 with ⟨_, h0⟩ | ⟨g, cap, cu, h', _⟩
    · omega
    · exact ⟨g, by injection h'⟩
  have m9 : Moves (fun k => inB bo k) w w9 := (Moves.of_below (hbq.trans (a8.mono hzq))).trans ((Moves.of_grownN h39).mono fun k hk => own_inB hk.symm)
  have hown : ∀ {k cur}, w.heap[k]? = some (.cells cur 3 (0, 0)) → ¬ inB bo k := fun {k cur} hk hs => by
    obtain ⟨a, rfl, rfl⟩ := hs
    obtain ⟨cur3, h6, _⟩ := own_rowT hcs (show (Value.slice (some a) m bc).ownBlock = some a.block from rfl)
    rw [hk] at h6
    injection h6 with h6
    injection h6 with _ h7 _
    exact absurd h7 (by decide)
  obtain ⟨curq, hq1, hq2⟩ := own_rowT h2 (show (Value.slice (some ⟨gq, 0, none⟩) 256 cq).ownBlock = some gq from rfl)
  have hgq8 := (Array.getElem?_eq_some_iff.1 hq1).1
  have hgq9 : w9.heap[gq]? = some (.cells curq 3 (0, 0)) := by
    rw [h39.block gq (by simp; omega) (fun e => ?_), a8.block gq (by omega)]
    · exact hq1
    · obtain ⟨_, h6, _⟩ := own_rowT hcs e.symm
      have := (Array.getElem?_eq_some_iff.1 h6).1
      omega
  refine ⟨g9, c9, w9, hr9, ⟨?_, cs ++ [.slice (some ⟨gq, 0, none⟩) 256 cq], ?_, fun j c hj => ?_⟩, m9⟩
  · simp only [hn]
    refine own_moves1N hix m9 fun k hk => ?_
    obtain ⟨_, h6, _⟩ := own_rowT hix hk
    exact hown h6
  · simp only [List.length_append, List.length_singleton, hmm]
    exact h29
  · have hcl : cs.length = m := by have := hcs.1; omega
    rcases Nat.lt_or_ge j m with hlj | hlj
    · rw [List.getElem?_append_left (by omega)] at hj
      obtain ⟨g, sc, cu, k1, k2, k3, k4, k5, k6, k7⟩ := hbc j c hj
      exact ⟨g, sc, cu, by rw [List.getElem?_append_left (by omega)]; exact k1, k2, k3, row_keep k4 m9 (hown k4), k5, k6, k7⟩
    · rw [List.getElem?_append_right (by omega)] at hj
      have h0 : j - bs.length = 0 := by have := (List.getElem?_eq_some_iff.1 hj).1; simp at this; omega
      rw [h0] at hj
      cases hj
      refine ⟨gq, cq, curq, by rw [List.getElem?_append_right (by omega), show j - cs.length = 0 by omega]; rfl, own_cap h2, by omega, hgq9, fun p v hv => ?_, fun a ha e => ?_, id⟩
      · rcases h2.2 with ⟨_, h0⟩ | ⟨g', cap', cur', e', _, hg', _, _, _, htake⟩
        · omega
        · obtain ⟨rfl, rfl⟩ : gq = g' ∧ cq = cap' := by simpa using e'
          rw [hq1] at hg'
          injection hg' with hg'
          injection hg' with hg' _ _
          subst hg'
          have h1 : (([] : List Value) ++ b.map (Value.int .i64))[p]? = some (.int .i64 v) := by rw [List.nil_append, List.getElem?_map, hv]; rfl
          rw [← htake, List.getElem?_take] at h1
          split at h1
          · rwa [Array.getElem?_toList] at h1
          · cases h1
      · have := hio a.block ⟨a, ha, rfl⟩
        omega
end Go.Proofs.YtcnbcaljpgdcpaaDoor

namespace Go.Proofs.YtcnbcaljpgdcpaaDoor
open Go.RowKit Go.Shelf Go.Maps
attribute [local go_sem] Oper.semAt_some
attribute [local go_sem ↓] app_hide

theorem idxT_at : ∀ {bs : List (List Int)} {b : List Int} {j : Nat}, bs[j]? = some b → (∀ c ∈ bs.take j, c ≠ b) → idxT bs b = some j
  | [], b, j, h, _ => by simp at h
  | c :: l, b, 0, h, _ => by
    obtain rfl : c = b := by simpa using h
    unfold idxT
    rw [if_pos rfl]
  | c :: l, b, j + 1, h, hn => by
    unfold idxT
    rw [if_neg (hn c (by simp)), idxT_at (j := j) (by simpa using h) (fun x hx => hn x (by rw [List.take_succ_cons]; exact List.mem_cons_of_mem _ hx))]
    rfl
theorem cell_movesT {S : Nat → Prop} {w w' : World} {a : Addr} {v : Value} (hm : Moves S w w') (hs : ¬ S a.block) (h : w.cell? a = some v) : w'.cell? a = some v := by
  have hb := hm.block _ (World.block_lt_of_cell? w _ h) hs
  unfold World.cell? at h ⊢
  rw [hb]
  exact h
theorem IntsT.moves {S : Nat → Prop} {w w' : World} {o : Option Addr} {l : List Int} (h : IntsT w o l) (hm : Moves S w w') (hs : ∀ k, inB o k → ¬ S k) : IntsT w' o l := fun hn => by
  obtain ⟨g, off, rfl, hc⟩ := h hn
  exact ⟨g, off, rfl, fun j x hx => cell_movesT hm (hs g ⟨_, rfl, rfl⟩) (hc j x hx)⟩
theorem moves_new {S : Nat → Prop} {w A B : World} (h : Moves S w A) (hm : Moves (fun k => w.heap.size ≤ k) A B) : Moves S w B :=
  ⟨hm.os.trans h.os, hm.tape.trans h.tape, hm.output.trans h.output, Nat.le_trans h.size hm.size, fun k hk hs => (hm.block k (Nat.lt_of_lt_of_le hk h.size) (by omega)).trans (h.block k hk hs)⟩
theorem trie_set1 {w : World} {g : Nat} {u v : Value} (a : Value) (h : w.heap[g]? = some (.cells #[u, v] 25 (0, 0))) : (w.setCell ⟨g, 0, none⟩ a).heap[g]? = some (.cells #[a, v] 25 (0, 0)) := by
  rw [heap_setCell_same _ _ _ _ _ _ h]; rfl
theorem trie_set2 {w : World} {g : Nat} {u v : Value} (a : Value) (h : w.heap[g]? = some (.cells #[u, v] 25 (0, 0))) : (w.setCell ⟨g, 1, none⟩ a).heap[g]? = some (.cells #[u, a] 25 (0, 0)) := by
  rw [heap_setCell_same _ _ _ _ _ _ h]; rfl
theorem trie_cells {w : World} {g : Nat} {u v : Value} (h : w.heap[g]? = some (.cells #[u, v] 25 (0, 0))) : w.cell? ⟨g, 0, none⟩ = some u ∧ w.cell? ⟨g, 1, none⟩ = some v ∧ w.frozen? ⟨g, 0, none⟩ = false ∧ w.frozen? ⟨g, 1, none⟩ = false ∧ g < w.heap.size :=
  ⟨by rw [cell_of_row _ _ 0 _ _ _ h]; rfl, by rw [cell_of_row _ _ 1 _ _ _ h]; rfl, frozen_of_row _ _ _ _ _ h, frozen_of_row _ _ _ _ _ h, (Array.getElem?_eq_some_iff.1 h).1⟩
theorem trie_types : (25 : TypeId) ≠ 3 ∧ (25 : TypeId) ≠ 22 := by decide
/-- What put answers. -/
def PutE (t : TrieD) (base : Nat) (io bo : Option Addr) (w : World) (e : Ending) (w' : World) : Prop :=
  ∃ io' ic' bo' bc', e = .returned (trieV io' t.1.length ic' bo' t.2.length bc') ∧ OwnT w' base io' ic' bo' bc' t ∧ Moves (fun k => inB io k ∨ inB bo k) w w'
set_option maxRecDepth 100000 in
set_option maxHeartbeats 4000000 in
theorem refPut_any (base : Nat) (io bo : Option Addr) (ic bc : Nat) (t : TrieD) (so : Option Addr) (sc : Nat) (b : List Int) (hb : b.length = 256) (hl : t.1.length ≤ 1000000) (hl2 : t.2.length ≤ 1000000) (hf : ∀ c ∈ t.2, c.length = 256) (w : World) (hO : OwnT w base io ic bo bc t) (hbase : base ≤ w.heap.size) (hB : IntsT w so b) (hso : ∀ k, inB so k → ¬ inB io k) :
    Calls Tryd.prog 45 #[trieV io t.1.length ic bo t.2.length bc, .slice so 256 sc] w (PutE (putT t b) base io bo w) := by
  obtain ⟨P, hP⟩ : ∃ P, PutE (putT t b) base io bo w = P := ⟨_, rfl⟩
  have HP := Lib.hid hP
  rw [hP]
  obtain ⟨ix, bs⟩ := t
  simp only at hl hl2 hf HP ⊢
  obtain ⟨n, hn⟩ : ∃ n, ix.length = n := ⟨_, rfl⟩
  obtain ⟨m, hm⟩ : ∃ n, bs.length = n := ⟨_, rfl⟩
  rw [hn] at hl ⊢
  rw [hm] at hl2 ⊢
  obtain ⟨W, hW⟩ : ∃ W, (w.alloc (trieO io n ic bo m bc)).alloc (trieO none 0 0 none 0 0) = W := ⟨_, rfl⟩
  have A1 : Below w.heap.size w W := by rw [← hW]; exact ((Below.refl _ _).alloc (Nat.le_refl _) _).alloc (by simp) _
  have z1 : W.heap.size = w.heap.size + 2 := by rw [← hW]; simp
  have r0 : W.heap[w.heap.size]? = some (trieO io n ic bo m bc) := by rw [← hW, Below.heap_alloc _ _ _ (by simp)]; exact heap_alloc_new _ _
  have r1 : W.heap[w.heap.size + 1]? = some (trieO none 0 0 none 0 0) := by
    rw [← hW]
    have := heap_alloc_new (w.alloc (trieO io n ic bo m bc)) (trieO none 0 0 none 0 0)
    rwa [World.size_alloc] at this
  have c0 : W.cell? ⟨w.heap.size, 0, none⟩ = some (.slice io n ic) := by rw [cell_of_row _ _ 0 _ _ _ r0]; rfl
  have c1 : W.cell? ⟨w.heap.size, 1, none⟩ = some (.slice bo m bc) := by rw [cell_of_row _ _ 1 _ _ _ r0]; rfl
  have l0 := World.block_lt_of_cell? _ _ c0
  have HO := Lib.hid (hO.below A1)
  have HT := Lib.hid ((hO.below A1).trie hf)
  have HBI := Lib.hid (hB.below A1)
  have HBW := Lib.hid hB
  have HSO := Lib.hid hso
  have HA1 := Lib.hid A1
  have HR0 := Lib.hid r0
  have HR1 := Lib.hid r1
  have HW := Lib.hid hW
  have HN := Lib.hid hn
  have HM := Lib.hid hm
  have HF := Lib.hid hf
  have HB256 := Lib.hid hb
  have HFR : Hid (∀ k, (inB io k ∨ inB bo k) → k < w.heap.size) := Lib.hid fun k hk => by
    rcases hk with ⟨a, rfl, rfl⟩ | ⟨a, rfl, rfl⟩
    · obtain ⟨_, h1, _⟩ := own_rowT hO.ix (show (Value.slice (some a) ix.length ic).ownBlock = some a.block from rfl)
      exact (Array.getElem?_eq_some_iff.1 h1).1
    · obtain ⟨cs, hcs, _⟩ := hO.bl
      obtain ⟨_, h1, _⟩ := own_rowT hcs (show (Value.slice (some a) bs.length bc).ownBlock = some a.block from rfl)
      exact (Array.getElem?_eq_some_iff.1 h1).1
  clear hP hW A1 r0 r1 hO hB hn hm hf hb hso
  go_enter Tryd.func45, Tryd.ntmps45
  go_wp2_with fail
  rw [HW.out]
  go_loopg [5] m (fun d v wr => ∃ j q : Nat, v = .int .i64 (j : Nat) ∧ j ≤ m ∧ m - j = d ∧ Hid (∀ c ∈ bs.take j, c ≠ b) ∧ wr = W.drewN q)
  case atStart => exact ⟨0, 0, rfl, Nat.zero_le _, rfl, Lib.hid fun c h => by simp at h, rfl⟩
  case round =>
    obtain ⟨j, q, rfl, hj, rfl, HI, rfl⟩ := hrel
    have hwj : IntKind.i64.wrap (((j : Nat) : Int) + 1) = (j : Nat) + 1 := wrap_id (by omega) (by omega)
    have bq : Below W.heap.size W (W.drewN q) := below_drewN1 _ _
    rcases Nat.lt_or_ge j m with hlt | hge
    · have hj1 : j < 1000000 := by omega
      obtain ⟨c, hc⟩ : ∃ c, bs[j]? = some c := ⟨_, List.getElem?_eq_getElem (by rw [HM.out]; exact hlt)⟩
      obtain ⟨g, off, rfl, hx⟩ := HT.out.bl (by rw [HM.out]; omega)
      obtain ⟨co, cc, k0, k1, k2⟩ := hx j c hc
      have hg := World.block_lt_of_cell? W _ k0
      have hcl := HF.out c (List.mem_of_getElem? hc)
      have CALL := refIntsT_any co so c b cc sc (by omega) (W.drewN q) (k2.below bq) (HBI.out.below bq)
      rw [hcl, HB256.out] at CALL
      rw [hcl] at k0
      by_cases hcb : c = b
      · rw [decide_eq_true hcb] at CALL
        have hidx : idxT bs b = some j := idxT_at (by rw [hc, hcb]) HI.out
        have hput : putT (ix, bs) b = (ix ++ [((j : Nat) : Int)], bs) := by unfold putT; simp only [hidx]
        have HCALL := Lib.hid CALL
        have HPUT := Lib.hid hput
        clear hx hc CALL hidx hput k1 k2 bq hcb HI
        go_wp2_with fail
        refine HCALL.out.mono ?_
        rintro e w' ⟨rfl, q2, rfl⟩
        obtain ⟨W2, hW2⟩ : ∃ W2, (W.drewN q).drewN q2 = W2 := ⟨_, rfl⟩
        have b2 : Below W.heap.size W W2 := by rw [← hW2]; exact (below_drewN1 _ _).trans (below_drewN1 (W.drewN q) q2)
        rw [hW2]
        have d0 := cell_keepT b2 c0
        have d1 := cell_keepT b2 c1
        have dl := World.block_lt_of_cell? _ _ d0
        have z2 := b2.size
        obtain ⟨g9, c9, w9, hr, hO9, m9, hat⟩ := ((HO.out.below b2).push (by omega) (by rw [HN.out]; exact hl) ((j : Nat) : Int))
        rw [HN.out] at hr
        have R9 : w9.heap[w.heap.size]? = some (trieO io n ic (some ⟨g, off, none⟩) m bc) := row_keep (row_below HR0.out b2) m9 (fun hk => by have := HFR.out _ (.inl hk); omega)
        have S9 : w9.heap[w.heap.size + 1]? = some (trieO none 0 0 none 0 0) := row_keep (row_below HR1.out b2) m9 (fun hk => by have := HFR.out _ (.inl hk); omega)
        obtain ⟨e0, e1, e2, e3, e4⟩ := trie_cells R9
        obtain ⟨f0, f1, f2, f3, f4⟩ := trie_cells S9
        have R10 := trie_set1 (.slice (some ⟨g9, 0, none⟩) (n + 1) c9) R9
        have S10 : (w9.setCell ⟨w.heap.size, 0, none⟩ (.slice (some ⟨g9, 0, none⟩) (n + 1) c9)).heap[w.heap.size + 1]? = some (trieO none 0 0 none 0 0) := row_keep S9 (Moves.setCell (S := fun k => k = w.heap.size) rfl) (by omega)
        obtain ⟨S11, m11⟩ := trie_set (.slice (some ⟨g9, 0, none⟩) (n + 1) c9) (.slice (some ⟨g, off, none⟩) m bc) S10
        obtain ⟨w11, hw11⟩ : ∃ w11, ((w9.setCell ⟨w.heap.size, 0, none⟩ (.slice (some ⟨g9, 0, none⟩) (n + 1) c9)).setCell ⟨w.heap.size + 1, 0, none⟩ (.slice (some ⟨g9, 0, none⟩) (n + 1) c9)).setCell ⟨w.heap.size + 1, 1, none⟩ (.slice (some ⟨g, off, none⟩) m bc) = w11 := ⟨_, rfl⟩
        rw [hw11] at S11 m11
        have mm : Moves (fun k => k = w.heap.size ∨ k = w.heap.size + 1) w9 w11 := (Moves.setCell (S := fun k => k = w.heap.size ∨ k = w.heap.size + 1) (.inl rfl)).trans (m11.mono fun k hk => .inr hk)
        have HPP : Hid (P (.returned (trieV (some ⟨g9, 0, none⟩) (n + 1) c9 (some ⟨g, off, none⟩) m bc)) w11) := by
          rw [← HP.out, HPUT.out]
          refine Lib.hid ⟨some ⟨g9, 0, none⟩, c9, some ⟨g, off, none⟩, bc, by rw [List.length_append, List.length_singleton, HN.out, HM.out], hO9.turn2 mm (fun k hk => ?_), moves_new ((Moves.of_below (HA1.out.trans (b2.mono HA1.out.size))).trans (show Moves (fun k => inB io k ∨ inB (some ⟨g, off, none⟩) k) W2 w9 from m9.mono fun k hk => .inl hk)) (mm.mono fun k hk => by omega)⟩
          rcases hk with rfl | rfl
          · exact ⟨_, _, R9, trie_types.1, trie_types.2⟩
          · exact ⟨_, _, S9, trie_types.1, trie_types.2⟩
        have HS11 := Lib.hid S11
        have HW11 := Lib.hid hw11
        clear hw11 mm m11 S10 S11 R10 R9 S9 hO9 m9 hat b2 HCALL hW2 c0 c1 l0
        go_wp2_with fail
        rw [HW11.out]
        exact bodyPost_ret (v := trieV (some ⟨g9, 0, none⟩) (n + 1) c9 (some ⟨g, off, none⟩) m bc) (results_cell_row rfl _ _ (w.heap.size + 1) _ _ _ _ rfl HS11.out Tryd.underlying25 rfl (by kernel_rfl)) rfl HPP.out
      · rw [decide_eq_false hcb] at CALL
        have HI2 : Hid (∀ c ∈ bs.take (j + 1), c ≠ b) := Lib.hid fun x h => by
          rw [List.take_add_one, hc] at h
          rcases List.mem_append.1 h with h1 | h1
          · exact HI.out x h1
          · simp at h1; rw [h1]; exact hcb
        have HCALL := Lib.hid CALL
        clear hx hc CALL k1 k2 bq hcb
        go_wp2_with fail
        refine HCALL.out.mono ?_
        rintro e w' ⟨rfl, q2, rfl⟩
        go_wp2_with fail
        go_roundg (m - (j + 1))
        case measure => omega
        case rel => exact ⟨j + 1, q + q2, by simp, by omega, rfl, HI2, (World.drewN_drewN W q q2).symm ▸ rfl⟩
    · obtain rfl : j = m := by omega
      have hall : bs.take j = bs := List.take_of_length_le (by rw [HM.out]; exact Nat.le_refl _)
      have hidx : idxT bs b = none := idxT_none.2 fun h => HI.out b (by rw [hall]; exact h) rfl
      have hput : putT (ix, bs) b = (ix ++ [((j : Nat) : Int)], bs ++ [b]) := by unfold putT; simp only [hidx]; rw [HM.out]
      have HPUT := Lib.hid hput
      obtain ⟨W2, hW2⟩ : ∃ W2, W.drewN q = W2 := ⟨_, rfl⟩
      have b2 : Below W.heap.size W W2 := by rw [← hW2]; exact bq
      rw [hW2]
      have d0 := cell_keepT b2 c0
      have d1 := cell_keepT b2 c1
      have dl := World.block_lt_of_cell? _ _ d0
      have z2 := b2.size
      obtain ⟨g9, c9, w9, hr, hO9, m9, hat⟩ := ((HO.out.below b2).push (by omega) (by rw [HN.out]; exact hl) ((j : Nat) : Int))
      rw [HN.out] at hr
      have R9 : w9.heap[w.heap.size]? = some (trieO io n ic bo j bc) := row_keep (row_below HR0.out b2) m9 (fun hk => by have := HFR.out _ (.inl hk); omega)
      have S9 : w9.heap[w.heap.size + 1]? = some (trieO none 0 0 none 0 0) := row_keep (row_below HR1.out b2) m9 (fun hk => by have := HFR.out _ (.inl hk); omega)
      obtain ⟨e0, e1, e2, e3, e4⟩ := trie_cells R9
      have R10 := trie_set1 (.slice (some ⟨g9, 0, none⟩) (n + 1) c9) R9
      have m10 : Moves (fun k => k = w.heap.size) w9 (w9.setCell ⟨w.heap.size, 0, none⟩ (.slice (some ⟨g9, 0, none⟩) (n + 1) c9)) := Moves.setCell rfl
      have S10 := row_keep S9 m10 (by omega)
      obtain ⟨w10, hw10⟩ : ∃ w10, w9.setCell ⟨w.heap.size, 0, none⟩ (.slice (some ⟨g9, 0, none⟩) (n + 1) c9) = w10 := ⟨_, rfl⟩
      rw [hw10] at R10 S10 m10
      have hO10 : OwnT w10.drew base (some ⟨g9, 0, none⟩) c9 bo bc (ix ++ [((j : Nat) : Int)], bs) := hO9.turn2 m10.drew (fun k hk => by subst hk; exact ⟨_, _, R9, trie_types.1, trie_types.2⟩)
      have z9 := m9.size
      have z10 := m10.size
      have MW10 : Moves (fun k => inB io k) w w10.drew := moves_new ((Moves.of_below (HA1.out.trans (b2.mono HA1.out.size))).trans m9) (m10.drew.mono fun k hk => by omega)
      have hB10 : IntsT w10.drew so b := HBW.out.moves MW10 HSO.out
      obtain ⟨gq, cq, wq, hr1, bq1, g8, c8, w8, hr2, hO8, m8⟩ := hO10.blk (by show base ≤ w10.heap.size; omega) (by rw [HM.out]; exact hl2) (fun k hk => by
        obtain ⟨a, ha, rfl⟩ := hk
        obtain ⟨_, h1, _⟩ := own_rowT hO10.ix (show (Value.slice (some ⟨g9, 0, none⟩) (ix ++ [((j : Nat) : Int)]).length c9).ownBlock = some g9 from rfl)
        cases ha
        exact (Array.getElem?_eq_some_iff.1 h1).1) b HB256.out so sc hB10
      rw [HM.out] at hr2
      have HBO : ∀ k, inB bo k → k < w.heap.size := fun k hk => HFR.out k (.inr hk)
      have Rq : wq.heap[w.heap.size]? = some (trieO (some ⟨g9, 0, none⟩) (n + 1) c9 bo j bc) := row_below (show w10.drew.heap[w.heap.size]? = _ from R10) bq1
      have R8 : w8.heap[w.heap.size]? = some (trieO (some ⟨g9, 0, none⟩) (n + 1) c9 bo j bc) := row_keep (show w10.drew.heap[w.heap.size]? = _ from R10) m8 (fun hk => by have := HBO _ hk; omega)
      have S8 : w8.heap[w.heap.size + 1]? = some (trieO none 0 0 none 0 0) := row_keep (show w10.drew.heap[w.heap.size + 1]? = _ from S10) m8 (fun hk => by have := HBO _ hk; omega)
      obtain ⟨x0, x1, x2, x3, x4⟩ := trie_cells R10
      obtain ⟨y0, y1, y2, y3, y4⟩ := trie_cells Rq
      obtain ⟨v0, v1, v2, v3, v4⟩ := trie_cells R8
      obtain ⟨f0, f1, f2, f3, f4⟩ := trie_cells S8
      have R12 := trie_set2 (.slice (some ⟨g8, 0, none⟩) (j + 1) c8) R8
      have m12 : Moves (fun k => k = w.heap.size) w8 (w8.setCell ⟨w.heap.size, 1, none⟩ (.slice (some ⟨g8, 0, none⟩) (j + 1) c8)) := Moves.setCell rfl
      have S12 := row_keep S8 m12 (by omega)
      obtain ⟨w12, hw12⟩ : ∃ w12, w8.setCell ⟨w.heap.size, 1, none⟩ (.slice (some ⟨g8, 0, none⟩) (j + 1) c8) = w12 := ⟨_, rfl⟩
      rw [hw12] at R12 S12 m12
      obtain ⟨a0, a1, a2, a3, a4⟩ := trie_cells R12
      obtain ⟨t0, t1, t2, t3, t4⟩ := trie_cells S12
      obtain ⟨S13, m13⟩ := trie_set (.slice (some ⟨g9, 0, none⟩) (n + 1) c9) (.slice (some ⟨g8, 0, none⟩) (j + 1) c8) S12
      obtain ⟨w13, hw13⟩ : ∃ w13, (w12.setCell ⟨w.heap.size + 1, 0, none⟩ (.slice (some ⟨g9, 0, none⟩) (n + 1) c9)).setCell ⟨w.heap.size + 1, 1, none⟩ (.slice (some ⟨g8, 0, none⟩) (j + 1) c8) = w13 := ⟨_, rfl⟩
      rw [hw13] at S13 m13
      have mm : Moves (fun k => k = w.heap.size ∨ k = w.heap.size + 1) w8 w13 := (m12.mono fun k hk => .inl hk).trans (m13.mono fun k hk => .inr hk)
      have HPP : Hid (P (.returned (trieV (some ⟨g9, 0, none⟩) (n + 1) c9 (some ⟨g8, 0, none⟩) (j + 1) c8)) w13) := by
        rw [← HP.out, HPUT.out]
        refine Lib.hid ⟨some ⟨g9, 0, none⟩, c9, some ⟨g8, 0, none⟩, c8, by simp only [List.length_append, List.length_singleton, HN.out, HM.out], hO8.turn2 mm (fun k hk => ?_), moves_new ((MW10.mono fun k hk => .inl hk).trans (m8.mono fun k hk => .inr hk)) (mm.mono fun k hk => by omega)⟩
        rcases hk with rfl | rfl
        · exact ⟨_, _, R8, trie_types.1, trie_types.2⟩
        · exact ⟨_, _, S8, trie_types.1, trie_types.2⟩
      have HS13 := Lib.hid S13
      have HW13 := Lib.hid hw13
      have HW12 := Lib.hid hw12
      have HW10 := Lib.hid hw10
      have hfol : Tryd.prog.follows .mixedOrders = true := by kernel_rfl
      have hzq := bq1.size
      have hzq2 : w10.heap.size ≤ wq.heap.size := hzq
      clear hw10 hw12 hw13 mm m13 m12 S12 S13 R12 R9 S9 R10 S10 Rq R8 S8 hO8 hO10 hO9 m8 m9 m10 hat b2 hW2 c0 c1 l0 hB10 MW10 HBO hidx hput hall bq1 HI hzq
      go_wp2_with fail
      rw [HW10.out]
      go_region
      all_goals
        go_simp
        go_wp2_with fail
        rw [HW12.out, HW13.out]
        exact bodyPost_ret (v := trieV (some ⟨g9, 0, none⟩) (n + 1) c9 (some ⟨g8, 0, none⟩) (j + 1) c8) (results_cell_row rfl _ _ (w.heap.size + 1) _ _ _ _ rfl HS13.out Tryd.underlying25 rfl (by kernel_rfl)) rfl HPP.out
end Go.Proofs.YtcnbcaljpgdcpaaDoor
