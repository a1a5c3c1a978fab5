/- The document's Ranges. -/
import Derived.Test.YtlmkefmfhdjmmaaDoorZTRefRight
import Derived.Test.YtlmkefmfhdjmmaaDoorBunA10
import Derived.Test.YtlmkefmfhdjmmaaDoorBunN7
import Derived.Test.YtlmkefmfhdjmmaaDoorZTRefPut
import Derived.BigQuiet
namespace Go.Proofs.YtlmkefmfhdjmmaaDoor
open Go.RowKit Go.Shelf Go.Maps
attribute [local go_sem] Oper.semAt_some
attribute [local go_sem ↓] app_hide

theorem rng_own2 {W : World} {base k : Nat} {v : Value} {xs : List Value} (x : Rng) (ho : W.ownsRow base 49 3 v k xs) (hk : k ≤ 2000000) (hbase : base ≤ W.heap.size) {e : Nat} (he : W.heap[e]? = some (rngO x)) :
    ∃ g cap w6, (appSem #[22, 22] 22 #[v, .slice (some ⟨e, 0, none⟩) 1 1]).run Tryd.prog W = .ok (.slice (some ⟨g, 0, none⟩) (k + 1) cap) w6 ∧
      w6.ownsRow base 49 3 (.slice (some ⟨g, 0, none⟩) (k + 1) cap) (k + 1) (xs ++ cellsR [x]) ∧ W.grownBy w6 v.ownBlock := by
  obtain ⟨i0, hi, hz0, hz1, hz2⟩ := info_parts infoRng
  obtain ⟨c0, c1, c2, _⟩ := rng_cells he
  obtain ⟨v', w6, hr, h2, h3, h4, h5⟩ := run_append_own_at (P := Tryd.prog) W base 22 22 49 i0 (rngV (0, 0, 0)) 3 24 Tryd.underlying22 hi hz0 hz1 hz2 rfl (by decide) v k xs ho ⟨e, 0, none⟩ 1 1 (cellsR [x]) rfl
    (fun j u hj => by
      match j, hj with
      | 0, hj => cases hj; exact c0
      | 1, hj => cases hj; exact c1
      | 2, hj => cases hj; exact c2) (cellsR_one' _) (by unfold maxLen; omega) (by omega) hbase
  obtain ⟨g, cap, rfl⟩ := ownsRow_succ h2
  exact ⟨g, cap, w6, hr, h2, h3⟩
/-- What the document's Ranges answers. -/
def RngsS (R : List Rng × Int) (w : World) (e : Ending) (w' : World) : Prop := ∃ o cap, e = .returned (.tuple #[.slice o R.1.length cap, .int .i64 R.2]) ∧ Below w.heap.size w w' ∧ AtR w' o R.1
theorem tghF_short (f : Nat → Int) : ∀ n, (tghF f n).length ≤ n
  | 0 => Nat.le_refl _
  | n + 1 => by
    have ih := tghF_short f n
    rw [tghF]
    split
    · omega
    · have := joinL_length (tghF f n) (((n : Nat) : Int), ((n : Nat) : Int), f n)
      omega
set_option maxRecDepth 100000 in
set_option maxHeartbeats 4000000 in
theorem refRangesT_any (io bo : Option Addr) (t : TrieD) (ic bc : Nat) (hi : t.1.length ≤ 1000000) (hb : t.2.length ≤ 1000000) (w : World) (hA : TrieT w io bo t) :
    Calls Tryd.prog 18 #[trieV io t.1.length ic bo t.2.length bc] w (RngsS (rangesT t) w) := by
  obtain ⟨P, hP⟩ : ∃ P, RngsS (rangesT t) w = P := ⟨_, rfl⟩
  have HP := Lib.hid hP
  rw [hP]
  obtain ⟨W, hW⟩ : ∃ W, w.alloc (trieO io t.1.length ic bo t.2.length bc) = W := ⟨_, rfl⟩
  have A1 : Below w.heap.size w W := by rw [← hW]; exact (Below.refl _ _).alloc (Nat.le_refl _) _
  have r0 : W.heap[w.heap.size]? = some (trieO io t.1.length ic bo t.2.length bc) := by rw [← hW]; exact heap_alloc_new _ _
  have HC1 := Lib.hid (refRightT_any io bo t ic bc hi hb W (hA.below A1))
  obtain ⟨D, hD⟩ : ∃ D, decide (rightT t) = D := ⟨_, rfl⟩
  rw [hD] at HC1
  have HDD := Lib.hid hD
  obtain ⟨n, hn⟩ : ∃ n, t.1.length = n := ⟨_, rfl⟩
  obtain ⟨q, hq⟩ : ∃ n, t.2.length = n := ⟨_, rfl⟩
  rw [hn, hq] at HC1 r0 hW ⊢
  have HN := Lib.hid hn
  have HQ := Lib.hid hq
  obtain ⟨c0, c1, _, _, cl⟩ := trie_cells r0
  have HA1 := Lib.hid A1
  have HW := Lib.hid hW
  have HA := Lib.hid (hA.below A1)
  clear hP hW A1 r0 hD hn hq hA hb hi
  go_enter Tryd.func18, Tryd.ntmps18
  go_wp2_with fail
  rw [HW.out]
  refine HC1.out.mono ?_
  rintro e w1 ⟨rfl, b1⟩
  have HB1 := Lib.hid (HA1.out.trans (b1.mono HA1.out.size))
  have d0 := cell_keepT b1 c0
  have d1 := cell_keepT b1 c1
  have dl := World.block_lt_of_cell? _ _ d0
  have HT1 := Lib.hid (HA.out.below b1)
  clear b1 HC1 c0 c1 cl
  cases D with
  | false =>
    have hno : ¬ rightT t := of_decide_eq_false HDD.out
    have HPP : Hid (P (.returned (.tuple #[.slice none 0 0, .int .i64 50])) w1) := by
      rw [← HP.out]
      unfold rangesT
      rw [if_neg hno]
      exact Lib.hid ⟨none, 0, rfl, HB1.out, fun h => absurd h (Nat.lt_irrefl 0)⟩
    clear hno
    go_wp2_with fail
    exact HPP.out
  | true =>
    have hr : rightT t := of_decide_eq_true HDD.out
    have HRR := Lib.hid hr
    have hn4 : n = 4352 := by rw [← HN.out]; exact hr.1
    subst hn4
    clear hr
    go_wp2_with fail
    go_loopg [4, 5] 1114112 (fun d v4 v5 wr => ∃ (r : Nat) (so : Option Addr) (sc : Nat), v5 = .int .i64 (r : Nat) ∧ v4 = .slice so (tghF (saysF t) r).length sc ∧ r ≤ 1114112 ∧ 1114112 - r = d ∧ Hid (wr.ownsRow w1.heap.size 49 3 (.slice so (tghF (saysF t) r).length sc) (tghF (saysF t) r).length (cellsR (tghF (saysF t) r))) ∧ Hid (Below w1.heap.size w1 wr))
    case atStart => exact ⟨0, none, 0, rfl, rfl, Nat.zero_le _, rfl, Lib.hid (World.ownsRow_nil _ _ _ _), Lib.hid (Below.refl _ _)⟩
    case round =>
      obtain ⟨r, so, sc, rfl, rfl, hr1, rfl, HO, HB⟩ := hrel
      have hwr : IntKind.i64.wrap (((r : Nat) : Int) + 1) = ((r + 1 : Nat) : Int) := by rw [show ((r : Nat) : Int) + 1 = ((r + 1 : Nat) : Int) from by omega]; exact wrap_id (by omega) (by omega)
      rcases Nat.lt_or_ge r 1114112 with hlt | hge
      · have hle : ((r : Nat) : Int) ≤ 1114111 := by omega
        have hi1 : r / 256 < 4352 := by omega
        obtain ⟨a', ha⟩ : ∃ a, t.1[r / 256]? = some a := ⟨_, List.getElem?_eq_getElem (by rw [HN.out]; exact hi1)⟩
        have hra := HRR.out.2.1 a' (List.mem_of_getElem? ha)
        obtain ⟨a, rfl⟩ := Int.eq_ofNat_of_zero_le hra.1
        have ha1 : a < q := by have := hra.2; have := HQ.out; omega
        have ha2 : ((a : Nat) : Int) < ((q : Nat) : Int) := by omega
        obtain ⟨b, hbb⟩ : ∃ b, t.2[a]? = some b := ⟨_, List.getElem?_eq_getElem (by rw [HQ.out]; exact ha1)⟩
        have hfit := HRR.out.2.2 b (List.mem_of_getElem? hbb)
        have hk1 : r % 256 < 256 := by omega
        obtain ⟨v, hv⟩ : ∃ v, b[r % 256]? = some v := ⟨_, List.getElem?_eq_getElem (by rw [hfit.2]; exact hk1)⟩
        have hsv : saysF t r = v := by
          unfold saysF saysT
          simp [List.getD, ha, hbb, hv]
        have hstep := tghF_step (saysF t) r hsv
        obtain ⟨gi, oi, rfl, hci⟩ := (HT1.out.ix.below HB.out) (by rw [HN.out]; omega)
        obtain ⟨gb, ob, rfl, hcb⟩ := (HT1.out.bl.below HB.out) (by omega)
        obtain ⟨bo', bsc, k1, k2, k3⟩ := hcb a b hbb
        obtain ⟨gs, os, rfl, hcs⟩ := k3 (by rw [hfit.2]; omega)
        have k0 := hci _ _ ha
        have k4 := hcs _ _ hv
        rw [hfit.2] at k1 k2
        have e0 := cell_keepT HB.out d0
        have e1 := cell_keepT HB.out d1
        have el := World.block_lt_of_cell? _ _ e0
        have el0 := World.block_lt_of_cell? _ _ k0
        have el1 := World.block_lt_of_cell? _ _ k1
        have el4 := World.block_lt_of_cell? _ _ k4
        obtain ⟨i1, hi1'⟩ : ∃ i, r / 256 = i := ⟨_, rfl⟩
        obtain ⟨i2, hi2'⟩ : ∃ i, r % 256 = i := ⟨_, rfl⟩
        have q1 : (((r : Nat) : Int)).tdiv 256 = ((i1 : Nat) : Int) := by rw [← hi1']; rfl
        have q2 : (((r : Nat) : Int)).tmod 256 = ((i2 : Nat) : Int) := by rw [← hi2']; rfl
        rw [hi1'] at k0 hi1
        rw [hi2'] at k4 hk1
        obtain ⟨m, hm⟩ : ∃ m, tghF (saysF t) r = m := ⟨_, rfl⟩
        have hml : m.length ≤ r := by rw [← hm]; exact tghF_short _ _
        have hmb : ∀ y ∈ m, 0 ≤ y.2.1 ∧ y.2.1 ≤ 1114111 := by rw [← hm]; exact tghF_le (saysF_ok HRR.out) (by omega)
        rw [hm] at HO hstep ⊢
        have HST := Lib.hid hstep
        have HMB := Lib.hid hmb
        clear ha hra hbb hfit hv hsv hstep hci hcb k3 hcs k2 hi1' hi2' hm hmb
        go_wp2_with fail
        go_quiet (fail)
        obtain ⟨wd, hwd⟩ : ∃ wd, wr.drewN nq = wd := ⟨_, rfl⟩
        have bd : Below wr.heap.size wr wd := by rw [← hwd]; exact below_drewN1 _ _
        rw [hwd]
        have HOd := Lib.hid (own_below HO.out bd)
        have HBd := Lib.hid (HB.out.trans (bd.mono HB.out.size))
        by_cases hv0 : v = 0
        · subst hv0
          have hst : tghF (saysF t) (r + 1) = m := by have := HST.out; rwa [if_pos rfl] at this
          have HS2 := Lib.hid hst
          clear hst bd hwd k0 k1 k4 e0 e1 el el0 el1 el4 q1 q2
          go_wp2_with fail
          go_roundg (1114112 - (r + 1))
          case measure => omega
          case rel => exact ⟨r + 1, so, sc, rfl, by rw [HS2.out], by omega, rfl, by rw [HS2.out]; exact HOd, HBd⟩
        · have hst : tghF (saysF t) (r + 1) = joinL m (((r : Nat) : Int), ((r : Nat) : Int), v) := by have := HST.out; rwa [if_neg hv0] at this
          have hv1 : (v == 0) = false := by simpa using hv0
          have HAPP : Hid (joinL m (((r : Nat) : Int), ((r : Nat) : Int), v) = m ++ [(((r : Nat) : Int), ((r : Nat) : Int), v)] → ∃ g6 cap6 w6, (appSem #[22, 22] 22 #[.slice so m.length sc, .slice (some ⟨wd.heap.size, 0, none⟩) 1 1]).run Tryd.prog (wd.alloc (rngO (((r : Nat) : Int), ((r : Nat) : Int), v))) = .ok (.slice (some ⟨g6, 0, none⟩) (m.length + 1) cap6) w6 ∧
              (tghF (saysF t) (r + 1)).length = m.length + 1 ∧ w6.ownsRow w1.heap.size 49 3 (.slice (some ⟨g6, 0, none⟩) (tghF (saysF t) (r + 1)).length cap6) (tghF (saysF t) (r + 1)).length (cellsR (tghF (saysF t) (r + 1))) ∧ Below w1.heap.size w1 w6) := Lib.hid fun hj => by
            have bal : Below wd.heap.size wd (wd.alloc (rngO (((r : Nat) : Int), ((r : Nat) : Int), v))) := (Below.refl _ _).alloc (Nat.le_refl _) _
            obtain ⟨g6, cap6, w6, hr6, own6, gr6⟩ := rng_own2 (((r : Nat) : Int), ((r : Nat) : Int), v) (own_below HOd.out bal) (by omega) (by have := HBd.out.size; have := bal.size; omega) (e := wd.heap.size) (heap_alloc_new wd _)
            refine ⟨g6, cap6, w6, hr6, by rw [hst, hj, List.length_append]; rfl, by rw [hst, hj, cellsR_append, List.length_append]; exact own6, ?_⟩
            refine Moves.below (HBd.out.trans (bal.mono HBd.out.size)) (by have := HBd.out.size; have := bal.size; omega) (Moves.of_grownN gr6) (fun k hk => ?_)
            obtain ⟨_, _, h3⟩ := own_rowT HOd.out hk.symm
            exact h3
          have HST2 := Lib.hid hst
          rcases Nat.eq_zero_or_pos m.length with h0 | hpos
          · have hm0 : m = [] := List.eq_nil_of_length_eq_zero h0
            obtain ⟨g6, cap6, w6, hr6, hlen, own6, bel6⟩ := HAPP.out (by rw [hm0]; rfl)
            rw [h0] at hr6 hlen
            have HL6 := Lib.hid hlen
            have HO6 := Lib.hid own6
            have HB6 := Lib.hid bel6
            rw [h0]
            clear hst HAPP bd hwd k0 k1 k4 e0 e1 el el0 el1 el4 q1 q2 hm0 own6 bel6 hlen HOd h0
            go_wp2_with fail
            go_roundg (1114112 - (r + 1))
            case measure => omega
            case rel => exact ⟨r + 1, some ⟨g6, 0, none⟩, cap6, rfl, by rw [HL6.out], by omega, rfl, HO6, HB6⟩
          · obtain ⟨k, hk⟩ : ∃ k, m.length = k + 1 := ⟨m.length - 1, by omega⟩
            obtain ⟨y, hy⟩ : ∃ y, m[k]? = some y := ⟨_, List.getElem?_eq_getElem (by omega)⟩
            have hd : m = m.take k ++ [y] := by
              have h1 : m = m.take (k + 1) := (List.take_of_length_le (by omega)).symm
              rw [List.take_add_one, hy] at h1
              exact h1
            have hdl : (m.take k).length = k := by rw [List.length_take]; omega
            have hlast : m.getLast? = some y := by rw [List.getLast?_eq_getElem?, hk]; exact hy
            obtain ⟨g, rfl⟩ : ∃ g, so = some ⟨g, 0, none⟩ := by
              rcases HOd.out.2 with ⟨hv, h0⟩ | ⟨g', cap', cur, hv, _⟩
              · omega
              · exact ⟨g', by simpa using (Value.slice.inj hv).1⟩
            obtain ⟨y0, y1, y2, fz⟩ := own_at HOd.out hy
            have hyb := HMB.out y (List.mem_of_getElem? hy)
            have hgl := World.block_lt_of_cell? wd _ y0
            obtain ⟨ya, yb, yv⟩ := y
            simp only at y0 y1 y2 hyb
            have hk0 : ((k : Nat) : Int) + 1 > 0 := by omega
            have hkb : k < 2000000 := by omega
            have hwk : IntKind.i64.wrap (((k : Nat) : Int) + 1 - 1) = (k : Nat) := by rw [show ((k : Nat) : Int) + 1 - 1 = (k : Nat) from by omega]; exact wrap_id (by omega) (by omega)
            have hwk2 : IntKind.i64.wrap ((k : Nat) : Int) = (k : Nat) := wrap_id (by omega) (by omega)
            have hwy : IntKind.i64.wrap (((r : Nat) : Int) - 1) = ((r : Nat) : Int) - 1 := wrap_id (by omega) (by omega)
            rw [hk] at HAPP ⊢
            by_cases e1' : yb = ((r : Nat) : Int) - 1
            · have hb1 : (yb == ((r : Nat) : Int) - 1) = true := by simpa using e1'
              by_cases e2' : yv = v
              · have hb2 : (yv == v) = true := by simpa using e2'
                have hj : joinL m (((r : Nat) : Int), ((r : Nat) : Int), v) = m.take k ++ [(ya, ((r : Nat) : Int), yv)] := by
                  unfold joinL
                  rw [hlast]
                  simp only
                  rw [if_pos ⟨by omega, e2'⟩, show m.dropLast = m.take k by rw [List.dropLast_eq_take, hk]; rfl]
                have hlen : (tghF (saysF t) (r + 1)).length = k + 1 := by rw [HST2.out, hj, List.length_append, hdl]; rfl
                have HL6 := Lib.hid hlen
                have HO6 : Hid ((wd.setCell ⟨g, k * 3 + 1, none⟩ (.int .i64 ((r : Nat) : Int))).ownsRow w1.heap.size 49 3 (.slice (some ⟨g, 0, none⟩) (tghF (saysF t) (r + 1)).length sc) (tghF (saysF t) (r + 1)).length (cellsR (tghF (saysF t) (r + 1)))) := Lib.hid (by
                  have := own_set (d := m.take k) (y := (ya, yb, yv)) ((r : Nat) : Int) (by rw [← hd, hdl, ← hk]; exact HOd.out)
                  rw [hdl] at this
                  rw [hlen, HST2.out, hj]
                  exact this)
                have HB6 : Hid (Below w1.heap.size w1 (wd.setCell ⟨g, k * 3 + 1, none⟩ (.int .i64 ((r : Nat) : Int)))) := Lib.hid (HBd.out.setCell (by
                  obtain ⟨_, _, h3⟩ := own_rowT HOd.out (show (Value.slice (some ⟨g, 0, none⟩) m.length sc).ownBlock = some g from rfl)
                  exact h3) _)
                clear hst HAPP bd hwd k0 k1 k4 e0 e1 el el0 el1 el4 q1 q2 hlen HOd hd hdl hlast hy hj
                go_wp2_with fail
                go_roundg (1114112 - (r + 1))
                case measure => omega
                case rel => exact ⟨r + 1, some ⟨g, 0, none⟩, sc, rfl, by rw [HL6.out], by omega, rfl, HO6, HB6⟩
              · have hb2 : (yv == v) = false := by simpa using e2'
                obtain ⟨g6, cap6, w6, hr6, hlen, own6, bel6⟩ := HAPP.out (by unfold joinL; rw [hlast]; simp only; rw [if_neg fun h => e2' h.2])
                have HL6 := Lib.hid hlen
                have HO6 := Lib.hid own6
                have HB6 := Lib.hid bel6
                clear hst HAPP bd hwd k0 k1 k4 e0 e1 el el0 el1 el4 q1 q2 own6 bel6 hlen HOd hd hdl hlast hy
                go_wp2_with fail
                go_roundg (1114112 - (r + 1))
                case measure => omega
                case rel => exact ⟨r + 1, some ⟨g6, 0, none⟩, cap6, rfl, by rw [HL6.out], by omega, rfl, HO6, HB6⟩
            · have hb1 : (yb == ((r : Nat) : Int) - 1) = false := by simpa using e1'
              obtain ⟨g6, cap6, w6, hr6, hlen, own6, bel6⟩ := HAPP.out (by unfold joinL; rw [hlast]; simp only; rw [if_neg fun h => e1' (by omega)])
              have HL6 := Lib.hid hlen
              have HO6 := Lib.hid own6
              have HB6 := Lib.hid bel6
              clear hst HAPP bd hwd k0 k1 k4 e0 e1 el el0 el1 el4 q1 q2 own6 bel6 hlen HOd hd hdl hlast hy
              go_wp2_with fail
              go_roundg (1114112 - (r + 1))
              case measure => omega
              case rel => exact ⟨r + 1, some ⟨g6, 0, none⟩, cap6, rfl, by rw [HL6.out], by omega, rfl, HO6, HB6⟩
      · obtain rfl : r = 1114112 := by omega
        obtain ⟨m, hm⟩ : ∃ m, tghF (saysF t) 1114112 = m := ⟨_, rfl⟩
        rw [hm] at HO ⊢
        have hgt : ¬ ((1114112 : Nat) : Int) ≤ 1114111 := by omega
        have hb : Below w.heap.size w wr := HB1.out.trans (HB.out.mono HB1.out.size)
        obtain ⟨ml, hml⟩ : ∃ ml, m.length = ml := ⟨_, rfl⟩
        rcases Nat.lt_or_ge 600 ml with h6 | h6
        · have h62 : ((ml : Nat) : Int) > 600 := by omega
          have HPP : Hid (P (.returned (.tuple #[.slice none 0 0, .int .i64 22])) wr) := by
            rw [← HP.out]
            unfold rangesT
            rw [if_pos HRR.out, hm, if_neg (by omega)]
            exact Lib.hid ⟨none, 0, rfl, hb, fun h => absurd h (Nat.lt_irrefl 0)⟩
          rw [hml]
          clear hb hm hml HO
          go_wp2_with fail
          exact HPP.out
        · have h62 : ¬ ((ml : Nat) : Int) > 600 := by omega
          have HPP : Hid (P (.returned (.tuple #[.slice so ml sc, .int .i64 0])) wr) := by
            rw [← HP.out]
            unfold rangesT
            rw [if_pos HRR.out, hm, if_pos (by omega)]
            exact Lib.hid ⟨so, sc, by rw [hml], hb, at_own HO.out⟩
          rw [hml]
          clear hb hm hml HO
          go_wp2_with fail
          exact HPP.out
end Go.Proofs.YtlmkefmfhdjmmaaDoor
