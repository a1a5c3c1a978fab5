/- Shaken by bunq.py. -/
import Derived.Test.YtnmhdcbpbaanoaaGreatDoorBuq30
import Derived.Test.YtnmhdcbpbaanoaaGreatDoorBuq17
import Derived.Test.YtnmhdcbpbaanoaaGreatDoorBuq18
namespace Go.Proofs.YtnmhdcbpbaanoaaGreatDoor
open Go.RowKit Go.Shelf Go.Maps
attribute [local go_sem] Oper.semAt_some
attribute [local go_sem ↓] app_hide

def FromF (ns : List ByteArray) (w w2 w5 : World) (st : Bool) (l : List (List UInt8)) (j : Nat) (wr : World) : Prop :=
  ∃ (xs : List ItemP) (o : Option Addr) (cap : Nat), itemsR ns (l.take j) = some xs ∧ xs.length = j ∧ j ≤ 10 ∧ wr.heap[w.heap.size]? = some (patO false none 0 0) ∧ wr.heap[w2.heap.size]? = some (patO st o j cap) ∧ wr.ownsRow w5.heap.size 97 2 (.slice o j cap) j (cellsI xs) ∧ Below w.heap.size w wr ∧ Moves (fun k => k = w2.heap.size) w5 wr
set_option maxRecDepth 100000 in
set_option maxHeartbeats 8000000 in
theorem refParseP_any (s : ByteArray) (hs : s.size ≤ 1000) (on : Option Addr) (ns : List ByteArray) (ncap : Nat) (hn : ns.length ≤ 1000) (hc : ns.length ≤ ncap) (hz : ∀ s ∈ ns, s.size ≤ 1000) (w : World) (hN : TxtAt w on ns) :
    Calls Tryz.prog 76 #[.string s, .slice on ns.length ncap] w (ParseR ns s.data.toList (.int .i64 (parsePE ns s.data.toList)) w) := by
  obtain ⟨w1, hw1⟩ : ∃ w1, w.alloc (patO false none 0 0) = w1 := ⟨_, rfl⟩
  have b1 : Below w.heap.size w w1 := by rw [← hw1]; exact (Below.refl _ _).alloc (Nat.le_refl _) _
  have z1 : w.heap.size < w1.heap.size := by rw [← hw1]; simp
  have r1 : w1.heap[w.heap.size]? = some (patO false none 0 0) := by rw [← hw1]; exact heap_alloc_new _ _
  have HNM := Lib.hid (refNames_any on ns ncap hn hc (fun s h => by have := hz s h; omega) w1 (hN.below b1))
  obtain ⟨P, hP⟩ : ∃ P, ParseR ns s.data.toList (.int .i64 (parsePE ns s.data.toList)) w = P := ⟨_, rfl⟩
  have HP := Lib.hid hP
  rw [hP]
  have HW1 := Lib.hid hw1
  have HB1 := Lib.hid b1
  have HR1 := Lib.hid r1
  by_cases hns : namesL ns
  · rw [decide_eq_true hns] at HNM
    have IT := Lib.hid (fun (t : ByteArray) (h : t.size ≤ s.size) W (hb : Below w.heap.size w W) => refItemP_any t (by omega) on ns ncap hns hn hc hz W (hN.below hb))
    have HPA := Lib.hid (fun W => refParts_any s hs W)
    have NONE : Hid (readP ns s.data.toList = none → ∀ W, Below w.heap.size w W → P (.returned (.tuple #[patV false none 0 0, .int .i64 80])) W) := Lib.hid fun h W hb => by
      rw [← HP.out]
      have e1 : parsePV ns s.data.toList = (false, []) := by unfold parsePV; rw [if_pos hns, h]; rfl
      have e2 : parsePE ns s.data.toList = 80 := by unfold parsePE; rw [if_pos hns, h]; rfl
      refine ⟨none, 0, by rw [e1, e2]; rfl, by rw [e1]; exact fun h => by simp at h, by rw [e1]; exact Nat.le_refl _, fun k hk => ?_, hb⟩
      obtain ⟨a, ha, _⟩ := hk
      cases ha
    have SOME : Hid (∀ st xs, readP ns s.data.toList = some (st, xs) → ∀ W o cap base, w.heap.size ≤ base → W.ownsRow base 97 2 (.slice o xs.length cap) xs.length (cellsI xs) → Below w.heap.size w W → P (.returned (.tuple #[patV st o xs.length cap, .int .i64 0])) W) := Lib.hid fun st xs h W o cap base hbase ho hb => by
      rw [← HP.out]
      have e1 : parsePV ns s.data.toList = (st, xs) := by unfold parsePV; rw [if_pos hns, h]; rfl
      have e2 : parsePE ns s.data.toList = 0 := by unfold parsePE; rw [if_pos hns, h]; rfl
      refine ⟨o, cap, by rw [e1, e2], by rw [e1]; exact at_ownI ho, by rw [e1]; exact own_cap ho, fun k hk => ?_, hb⟩
      have := own_inQ ho k hk
      omega
    obtain ⟨k, hkk⟩ : ∃ k, ns.length = k := ⟨_, rfl⟩
    rw [hkk] at HNM IT ⊢
    have h94b : (s.toList.isEmpty = true ∧ s.toList = []) ∨ (s.toList.isEmpty = false ∧ ¬ s.toList = []) := by
      cases s.toList <;> simp
    rcases h94b with ⟨hse, hse2⟩ | ⟨hse, hse2⟩
    · have hsd : s.data.toList = [] := by rw [← Lib.toList_data]; exact hse2
      obtain ⟨w3, hw3⟩ : ∃ w3, (w1.drewN 0) = w3 := ⟨_, rfl⟩
      have HFIN : Hid (∀ W, Below w.heap.size w W → P (.returned (.tuple #[patV false none 0 0, .int .i64 0])) W) := Lib.hid fun W hb =>
        SOME.out false [] (by rw [hsd]; rfl) W none 0 w.heap.size (Nat.le_refl _) (World.ownsRow_nil _ _ _ _) hb
      clear hw3 hP hw1 b1 r1 hns hn hc hz hN hkk HP IT HPA NONE SOME hsd
      go_enter Tryz.func76, Tryz.ntmps76
      go_wp2_with fail
      rw [HW1.out]
      refine HNM.out.mono ?_
      rintro e w2 ⟨rfl, q, hq⟩
      have B2 : Below w1.heap.size w1 w2 := by rw [hq]; exact below_drewN w1 q
      have hA1 : w.heap.size < w2.heap.size := Nat.lt_of_lt_of_le z1 B2.size
      clear hq
      have R2 := row_below HR1.out B2
      have bw2 := HB1.out.trans (B2.mono HB1.out.size)
      have p0 := R2
      have HBF := HFIN
      obtain ⟨t0, t1⟩ := pat_cells p0
      have f0 := frozen_of_row w2 w.heap.size 0 _ _ p0
      have f1 := frozen_of_row w2 w.heap.size 1 _ _ p0
      obtain ⟨p6, m6⟩ := two_set (.bool false) (.slice none 0 0) p0
      have bw6 := Moves.below bw2 bw2.size m6 (fun k hk => by omega)
      obtain ⟨w7, hw7⟩ : ∃ w7, ((w2.setCell ⟨w.heap.size, 0, none⟩ (.bool false)).setCell ⟨w.heap.size, 1, none⟩ (.slice none 0 0)).alloc (patO false none 0 0) = w7 := ⟨_, rfl⟩
      have HF := Lib.hid (HBF.out w7 (by rw [← hw7]; exact bw6.alloc bw6.size _))
      have HR7 : Hid (w7.heap[w.heap.size]? = some (patO false none 0 0)) := Lib.hid (by rw [← hw7]; exact row_below p6 ((Below.refl _ _).alloc (Nat.le_refl _) _))
      have HW7 := Lib.hid hw7
      clear p0 p6 m6 hw7 B2 R2 bw2 bw6 z1
      go_wp2_with fail
      rw [HW7.out]
      exact bodyPost_ret (v := .tuple #[patV false none 0 0, .int .i64 0]) (results_cell_tmpQ rfl _ _ w.heap.size _ _ _ _ _ rfl rfl HR7.out Tryz.underlying35 rfl (by kernel_rfl)) rfl HF.out
    · have hsd : ¬ s.data.toList = [] := by rw [← Lib.toList_data]; exact hse2
      have hrp : readP ns s.data.toList = fromParts ns (partsL false [] s.data.toList) := by unfold readP; rw [partsS_ne hsd]
      clear hP hw1 b1 r1 hns hn hc hz hN hkk HP hsd
      go_enter Tryz.func76, Tryz.ntmps76
      go_wp2_with fail
      rw [HW1.out]
      refine HNM.out.mono ?_
      rintro e w2 ⟨rfl, q, hq⟩
      have B2 : Below w1.heap.size w1 w2 := by rw [hq]; exact below_drewN w1 q
      have hA1 : w.heap.size < w2.heap.size := Nat.lt_of_lt_of_le z1 B2.size
      clear hq
      have R2 := row_below HR1.out B2
      obtain ⟨w4, hw4⟩ : ∃ w4, w2.alloc (patO false none 0 0) = w4 := ⟨_, rfl⟩
      have B4 : Below w2.heap.size w2 w4 := by rw [← hw4]; exact (Below.refl _ _).alloc (Nat.le_refl _) _
      have z4' : w2.heap.size < w4.heap.size := by rw [← hw4, World.size_alloc]; omega
      have R4 : w4.heap[w2.heap.size]? = some (patO false none 0 0) := by rw [← hw4]; exact heap_alloc_new _ _
      have Q4 := row_below R2 B4
      have bw4 := (HB1.out.trans (B2.mono HB1.out.size)).trans (B4.mono (by omega))
      have HW4 := Lib.hid hw4
      have HPA4 := Lib.hid (HPA.out w4)
      clear hw4 B2 R2 B4 z1 HPA
      go_wp2_with fail
      rw [HW4.out]
      go_wp2_with fail
      refine HPA4.out.mono ?_
      rintro e w3 ⟨L, po, pcap, rfl, hown, hLp, hLz, b3⟩
      have r3 := row_below Q4 b3
      have p3 := row_below R4 b3
      have bw3 := bw4.trans (b3.mono bw4.size)
      have hLc := own_cap hown
      have hpos : 1 ≤ L.length := by
        have := partsL_pos false [] s.data.toList
        rw [← hLp, List.length_map] at this
        exact this
      have hin := own_inQ hown
      obtain ⟨g, off, rfl, hcs⟩ := (txt_ownR hown) hpos
      have hgb := hin g ⟨_, rfl, rfl⟩
      have hsz3 := b3.size
      rw [← hLp] at hrp
      clear hin hown Q4 R4 b3 hLp bw4
      obtain ⟨t, R, rfl⟩ : ∃ t R, L = t :: R := by
        cases L with
        | nil => simp at hpos
        | cons t R => exact ⟨t, R, rfl⟩
      have HGB : Hid (w2.heap.size < g ∧ g < w3.heap.size) := Lib.hid (by omega)
      have k00 : w3.cell? ⟨g, off, none⟩ = some (.string t) := by have := hcs 0 t rfl; rwa [Nat.add_zero] at this
      have HLN := Lib.hid (show (t :: R).length = R.length + 1 from rfl)
      have ht94 : ((t.toList == [94]) = true ∧ t = ⟨#[94]⟩) ∨ ((t.toList == [94]) = false ∧ ¬ t.data.toList = [94]) := by
        rw [Lib.toList_data]
        by_cases h : t.data.toList = [94]
        · exact .inl ⟨by rw [h]; rfl, bytes_ext h⟩
        · exact .inr ⟨by rw [beq_eq_false_iff_ne]; exact h, h⟩
      rcases ht94 with ⟨hte, rfl⟩ | ⟨hte, htn⟩
      · obtain ⟨l, hl⟩ : ∃ l, R.map (·.data.toList) = l := ⟨_, rfl⟩
        obtain ⟨m, hm⟩ : ∃ m, R.length = m := ⟨_, rfl⟩
        have HN := Lib.hid hm
        have HL := Lib.hid hl
        have HNL : Hid (l.length = m) := Lib.hid (by rw [← hl, List.length_map, hm])
        have f0 := frozen_of_row w3 (w2.heap.size) 0 _ _ p3
        obtain ⟨p30, p31⟩ := pat_cells p3
        obtain ⟨w5, hw5⟩ : ∃ w5, w3.setCell ⟨w2.heap.size, 0, none⟩ (.bool true) = w5 := ⟨_, rfl⟩
        have m5 : Moves (fun k => k = w2.heap.size) w3 w5 := by rw [← hw5]; exact Moves.setCell rfl
        have s5 : w5.heap.size = w3.heap.size := by rw [← hw5]; simp
        have p5 : w5.heap[w2.heap.size]? = some (patO true none 0 0) := by rw [← hw5, heap_setCell_same _ _ _ _ _ _ p3]; rfl
        have r5 := row_keep r3 m5 (by omega)
        have bw5 := Moves.below bw3 bw3.size m5 (fun k hk => by omega)
        have HS5 : Hid (w2.heap.size < w5.heap.size) := Lib.hid (by rw [s5]; omega)
        have hfp : readP ns s.data.toList = fromR ns true l := by
          rw [hrp, List.map_cons]
          unfold fromParts fromR
          rw [if_pos (show (((⟨#[94]⟩ : ByteArray).data.toList :: R.map (·.data.toList)).head? = some [94]) from rfl), List.tail_cons, hl]
        have BAD : Hid (itemsR ns l = none → ∀ W, Below w.heap.size w W → P (.returned (.tuple #[patV false none 0 0, .int .i64 80])) W) := Lib.hid fun h => NONE.out (by rw [hfp]; unfold fromR; rw [h]; split <;> rfl)
        have LONG : Hid (10 < m → ∀ W, Below w.heap.size w W → P (.returned (.tuple #[patV false none 0 0, .int .i64 80])) W) := Lib.hid fun h => NONE.out (by rw [hfp]; unfold fromR; rw [if_neg (by rw [HNL.out]; omega)])
        have GOOD : Hid (∀ xs, itemsR ns l = some xs → m ≤ 10 → ∀ W o cap, W.ownsRow w5.heap.size 97 2 (.slice o xs.length cap) xs.length (cellsI xs) → Below w.heap.size w W → P (.returned (.tuple #[patV true o xs.length cap, .int .i64 0])) W) := Lib.hid fun xs h h2 W o cap h3 h4 => SOME.out true xs (by rw [hfp]; unfold fromR; rw [if_pos (by rw [HNL.out]; exact h2), h]; rfl) W o cap w5.heap.size (by have := HS5.out; omega) h3 h4
        have HST : Hid (FromF ns w w2 w5 true l 0 w5) := Lib.hid ⟨[], none, 0, rfl, rfl, Nat.zero_le _, r5, p5, World.ownsRow_nil _ _ _ _, bw5, Moves.of_below (Below.refl _ _)⟩
        have HRM : Hid (∀ t ∈ R, t.size ≤ s.size) := Lib.hid fun t h => hLz t (List.mem_cons_of_mem _ h)
        have hcs5 : ∀ (j : Nat) (x : ByteArray), R[j]? = some x → w5.cell? ⟨g, off + 1 + j, none⟩ = some (.string x) := fun j x h => by
          have h2 := hcs (j + 1) x (by simpa using h)
          rw [show off + (j + 1) = off + 1 + j from by omega] at h2
          exact cell_movesQ m5 (by have := HGB.out; show ¬ g = w2.heap.size; omega) h2
        have HC := Lib.hid hcs5
        have HW5 := Lib.hid hw5
        have hlm : ((⟨#[94]⟩ : ByteArray) :: R).length = m + 1 := by rw [List.length_cons, hm]
        rw [hlm] at hLc ⊢
        obtain ⟨pc, rfl⟩ : ∃ pc, pcap = pc + 1 := ⟨pcap - 1, by omega⟩
        have hpm : m ≤ pc := by omega
        by_cases hpc : pc = 0
        · subst hpc
          clear hl hm hw5 m5 s5 p5 r5 bw5 hcs5 hfp hrp hcs hLz hLc hpos r3 p3 bw3 NONE SOME hlm
          go_wp2_with fail
          rw [HW5.out]
          go_wp2_with fail
          go_loopg [8] (m) (fun k' v8 wr => ∃ (j : Nat), v8 = .int .i64 (j : Nat) ∧ j ≤ m ∧ m - j = k' ∧ Hid (FromF ns w w2 w5 true l j wr))
          case atStart => exact ⟨0, rfl, Nat.zero_le _, rfl, HST⟩
          case round =>
            obtain ⟨j, rfl, hj, rfl, HFR⟩ := hrel
            obtain ⟨xs, ov, cv, hxs, hxl, h10, r0, r1, hown, hb, hmv⟩ := HFR.out
            have hj6 : j < 1000000 := by omega
            have hltw := (Array.getElem?_eq_some_iff.1 r1).1
            have hsw := hmv.size
            have hs5 := HS5.out
            rcases Nat.lt_or_ge j m with hlt | hge
            · exfalso; omega
            · obtain rfl : j = m := by omega
              rw [List.take_of_length_le (by rw [HNL.out]; exact Nat.le_refl _)] at hxs
              obtain ⟨t0, t1⟩ := pat_cells r0
              obtain ⟨p0, p1⟩ := pat_cells r1
              have f0 := frozen_of_row wr w.heap.size 0 _ _ r0
              have f1 := frozen_of_row wr w.heap.size 1 _ _ r0
              obtain ⟨q3, m3⟩ := two_set (.bool true) (.slice ov j cv) r0
              obtain ⟨w7, hw7⟩ : ∃ w7, (wr.setCell ⟨w.heap.size, 0, none⟩ (.bool true)).setCell ⟨w.heap.size, 1, none⟩ (.slice ov j cv) = w7 := ⟨_, rfl⟩
              rw [hw7] at q3 m3
              have HF : Hid (P (.returned (.tuple #[patV true ov j cv, .int .i64 0])) w7) := by
                have := GOOD.out xs hxs h10 w7 ov cv
                rw [hxl] at this
                exact Lib.hid (this (own_moves hown m3 (fun k hk he => by omega)) (Moves.below hb hb.size m3 (fun k hk => by omega)))
              have HW7 := Lib.hid hw7
              have HR7 := Lib.hid q3
              clear hxs hxl r0 r1 hown hb q3 m3 hw7 hmv
              go_wp2_with fail
              rw [HW7.out]
              exact bodyPost_ret (v := .tuple #[patV true ov j cv, .int .i64 0]) (results_cell_tmpQ rfl _ _ w.heap.size _ _ _ _ _ rfl rfl HR7.out Tryz.underlying35 rfl (by kernel_rfl)) rfl HF.out
        · clear hl hm hw5 m5 s5 p5 r5 bw5 hcs5 hfp hrp hcs hLz hLc hpos r3 p3 bw3 NONE SOME hlm
          go_wp2_with fail
          rw [HW5.out]
          go_wp2_with fail
          go_loopg [8] (m) (fun k' v8 wr => ∃ (j : Nat), v8 = .int .i64 (j : Nat) ∧ j ≤ m ∧ m - j = k' ∧ Hid (FromF ns w w2 w5 true l j wr))
          case atStart => exact ⟨0, rfl, Nat.zero_le _, rfl, HST⟩
          case round =>
            obtain ⟨j, rfl, hj, rfl, HFR⟩ := hrel
            obtain ⟨xs, ov, cv, hxs, hxl, h10, r0, r1, hown, hb, hmv⟩ := HFR.out
            have hj6 : j < 1000000 := by omega
            have hltw := (Array.getElem?_eq_some_iff.1 r1).1
            have hsw := hmv.size
            have hs5 := HS5.out
            rcases Nat.lt_or_ge j m with hlt | hge
            · obtain ⟨u, hu⟩ : ∃ u, R[j]? = some u := ⟨_, List.getElem?_eq_getElem (by have := HN.out; omega)⟩
              have kj := cell_movesQ hmv (by have := HGB.out; show ¬ g = w2.heap.size; omega) (HC.out j u hu)
              have hul : l[j]? = some u.data.toList := by rw [← HL.out, List.getElem?_map, hu]; rfl
              have HI := Lib.hid (IT.out u (HRM.out u (List.mem_of_getElem? hu)) wr hb)
              have OWN := Lib.hid hown
              have HMV := Lib.hid hmv
              have R0 := Lib.hid r0
              have R1 := Lib.hid r1
              have HB4 := Lib.hid hb
              have HXS := Lib.hid hxs
              have HXL := Lib.hid hxl
              have HUL := Lib.hid hul
              have OWN2 : Hid (∀ k, (Value.slice ov j cv).ownBlock = some k → w5.heap.size ≤ k ∧ k < wr.heap.size) := Lib.hid (hown.lt)
              clear hxs hxl r0 r1 hown hb hmv hul
              go_wp2_with fail
              refine HI.out.mono ?_
              rintro e wi ⟨x, b, rfl, hz, bi⟩
              have bw := HB4.out.trans (bi.mono HB4.out.size)
              have p0 := row_below R0.out bi
              have p1 := row_below R1.out bi
              have sij := bi.size
              have hwi : w2.heap.size < wi.heap.size := by omega
              have hwi0 : w.heap.size < wi.heap.size := by omega
              cases b with
              | false =>
                have hzn : itemZ ns u.data.toList = none := hz
                have HBF := Lib.hid (BAD.out (items_bad HUL.out hzn))
                obtain ⟨t0, t1⟩ := pat_cells p0
                have f0 := frozen_of_row wi w.heap.size 0 _ _ p0
                have f1 := frozen_of_row wi w.heap.size 1 _ _ p0
                obtain ⟨p7, m7⟩ := two_set (.bool false) (.slice none 0 0) p0
                have bw6 := Moves.below bw bw.size m7 (fun k hk => by omega)
                obtain ⟨w7, hw7⟩ : ∃ w7, ((wi.setCell ⟨w.heap.size, 0, none⟩ (.bool false)).setCell ⟨w.heap.size, 1, none⟩ (.slice none 0 0)).alloc (itO x) = w7 := ⟨_, rfl⟩
                have HF := Lib.hid (HBF.out w7 (by rw [← hw7]; exact bw6.alloc bw6.size _))
                have HR7 : Hid (w7.heap[w.heap.size]? = some (patO false none 0 0)) := Lib.hid (by rw [← hw7]; exact row_below p7 ((Below.refl _ _).alloc (Nat.le_refl _) _))
                have HW7 := Lib.hid hw7
                clear p0 p7 m7 hw7 bw6
                clear bw p1 sij hz hzn bi
                go_wp2_with fail
                rw [HW7.out]
                exact bodyPost_ret (v := .tuple #[patV false none 0 0, .int .i64 80]) (results_cell_tmpQ rfl _ _ w.heap.size _ _ _ _ _ rfl rfl HR7.out Tryz.underlying35 rfl (by kernel_rfl)) rfl HF.out
              | true =>
                have hzs : itemZ ns u.data.toList = some x := hz
                by_cases hj10 : j = 10
                · subst hj10
                  have HBF := Lib.hid (LONG.out (by omega))
                  obtain ⟨s0, s1⟩ := pat_cells p1
                  obtain ⟨t0, t1⟩ := pat_cells p0
                  have f0 := frozen_of_row wi w.heap.size 0 _ _ p0
                  have f1 := frozen_of_row wi w.heap.size 1 _ _ p0
                  obtain ⟨p7, m7⟩ := two_set (.bool false) (.slice none 0 0) p0
                  have bw6 := Moves.below bw bw.size m7 (fun k hk => by omega)
                  obtain ⟨w7, hw7⟩ : ∃ w7, ((wi.setCell ⟨w.heap.size, 0, none⟩ (.bool false)).setCell ⟨w.heap.size, 1, none⟩ (.slice none 0 0)).alloc (itO x) = w7 := ⟨_, rfl⟩
                  have HF := Lib.hid (HBF.out w7 (by rw [← hw7]; exact bw6.alloc bw6.size _))
                  have HR7 : Hid (w7.heap[w.heap.size]? = some (patO false none 0 0)) := Lib.hid (by rw [← hw7]; exact row_below p7 ((Below.refl _ _).alloc (Nat.le_refl _) _))
                  have HW7 := Lib.hid hw7
                  clear p0 p7 m7 hw7 bw6
                  clear bw p1 sij hz hzs bi
                  go_wp2_with fail
                  rw [HW7.out]
                  exact bodyPost_ret (v := .tuple #[patV false none 0 0, .int .i64 80]) (results_cell_tmpQ rfl _ _ w.heap.size _ _ _ _ _ rfl rfl HR7.out Tryz.underlying35 rfl (by kernel_rfl)) rfl HF.out
                · have hjn : (((j : Nat) : Int) == 10) = false := by rw [beq_eq_false_iff_ne]; omega
                  have HST2 := Lib.hid (items_step HUL.out HXS.out hzs)
                  have o4 := own_below OWN.out bi
                  obtain ⟨s0, s1⟩ := pat_cells p1
                  have bj : Below wi.heap.size wi (wi.alloc (itO x)) := (Below.refl _ _).alloc (Nat.le_refl _) _
                  obtain ⟨g6, c6, w6, hrun, own6, hgr, _⟩ := it_own (W := (wi.alloc (itO x)).alloc (itO x)) x (own_below (own_below o4 bj) ((Below.refl _ _).alloc (Nat.le_refl _) _)) (by omega) (by simp; omega) (heap_alloc_new _ _)
                  rw [World.size_alloc] at hrun
                  have m6 : Moves (fun k => w5.heap.size ≤ k) wi w6 := (Moves.of_below bj).trans ((Moves.of_below ((Below.refl _ _).alloc (Nat.le_refl _) _)).trans (Moves.mono (S := fun k => (Value.slice ov j cv).ownBlock = some k) ⟨hgr.os, hgr.tape, hgr.output, hgr.size, fun k hk hn => hgr.block k hk (fun e => hn e.symm)⟩ fun k hk => own_geR o4 hk))
                  have u0 := row_keep p0 m6 (by omega)
                  have u1 := row_keep p1 m6 (by omega)
                  obtain ⟨y0, y1⟩ := pat_cells u1
                  have h1 := frozen_of_row w6 (w2.heap.size) 1 _ _ u1
                  obtain ⟨w7, hw7⟩ : ∃ w7, w6.setCell ⟨w2.heap.size, 1, none⟩ (.slice (some ⟨g6, 0, none⟩) (j + 1) c6) = w7 := ⟨_, rfl⟩
                  have m7 : Moves (fun k => k = w2.heap.size) w6 w7 := by rw [← hw7]; exact Moves.setCell rfl
                  have z1 : w7.heap[w2.heap.size]? = some (patO true (some ⟨g6, 0, none⟩) (j + 1) c6) := by rw [← hw7, heap_setCell_same _ _ _ _ _ _ u1]; rfl
                  have hw56 : Moves (fun k => k = w2.heap.size) w5 w6 := by
                    have h0 := HMV.out.trans (Moves.of_below (S := fun k => k = w2.heap.size) bi)
                    exact ⟨m6.os.trans h0.os, m6.tape.trans h0.tape, m6.output.trans h0.output, Nat.le_trans h0.size m6.size, fun k hk hn => (m6.block k (Nat.lt_of_lt_of_le hk h0.size) (by omega)).trans (h0.block k hk hn)⟩
                  have HNEW : Hid (FromF ns w w2 w5 true l (j + 1) w7) := by
                    refine Lib.hid ⟨xs ++ [x], some ⟨g6, 0, none⟩, c6, HST2.out, by rw [List.length_append, HXL.out]; rfl, by omega, row_keep u0 m7 (by omega), z1, ?_, ?_, hw56.trans m7⟩
                    · rw [cellsI_append]
                      exact own_moves own6 m7 (fun k hk he => by omega)
                    · exact Moves.below (Moves.below bw bw.size m6 (fun k hk => by omega)) (Nat.le_trans bw.size m6.size) m7 (fun k hk => by omega)
                  have HW7 := Lib.hid hw7
                  clear bw p1 sij hz hzs bi o4 own6 hgr m6 u0 u1 hw7 m7 z1 hw56 p0 bj
                  go_wp2_with fail
                  rw [HW7.out]
                  go_roundg (m - (j + 1))
                  case measure => omega
                  case rel => exact ⟨j + 1, by simp, by omega, rfl, HNEW⟩
            · obtain rfl : j = m := by omega
              rw [List.take_of_length_le (by rw [HNL.out]; exact Nat.le_refl _)] at hxs
              obtain ⟨t0, t1⟩ := pat_cells r0
              obtain ⟨p0, p1⟩ := pat_cells r1
              have f0 := frozen_of_row wr w.heap.size 0 _ _ r0
              have f1 := frozen_of_row wr w.heap.size 1 _ _ r0
              obtain ⟨q3, m3⟩ := two_set (.bool true) (.slice ov j cv) r0
              obtain ⟨w7, hw7⟩ : ∃ w7, (wr.setCell ⟨w.heap.size, 0, none⟩ (.bool true)).setCell ⟨w.heap.size, 1, none⟩ (.slice ov j cv) = w7 := ⟨_, rfl⟩
              rw [hw7] at q3 m3
              have HF : Hid (P (.returned (.tuple #[patV true ov j cv, .int .i64 0])) w7) := by
                have := GOOD.out xs hxs h10 w7 ov cv
                rw [hxl] at this
                exact Lib.hid (this (own_moves hown m3 (fun k hk he => by omega)) (Moves.below hb hb.size m3 (fun k hk => by omega)))
              have HW7 := Lib.hid hw7
              have HR7 := Lib.hid q3
              clear hxs hxl r0 r1 hown hb q3 m3 hw7 hmv
              go_wp2_with fail
              rw [HW7.out]
              exact bodyPost_ret (v := .tuple #[patV true ov j cv, .int .i64 0]) (results_cell_tmpQ rfl _ _ w.heap.size _ _ _ _ _ rfl rfl HR7.out Tryz.underlying35 rfl (by kernel_rfl)) rfl HF.out
      · obtain ⟨R2, hR2⟩ : ∃ R2, t :: R = R2 := ⟨_, rfl⟩
        have hhd : (R2.map (·.data.toList)).head? ≠ some [94] := by
          rw [← hR2, List.map_cons, List.head?_cons]
          exact fun h => htn (Option.some.inj h)
        rw [hR2] at hcs hrp hLz hLc hpos ⊢
        clear hR2 htn HLN
        obtain ⟨R', hR'⟩ : ∃ R', R2 = R' := ⟨_, rfl⟩
        rw [hR'] at hcs hrp hLz hLc hpos hhd ⊢
        clear hR' R2 R
        obtain ⟨R, hR⟩ : ∃ R, R' = R := ⟨_, rfl⟩
        subst hR
        obtain ⟨l, hl⟩ : ∃ l, R'.map (·.data.toList) = l := ⟨_, rfl⟩
        obtain ⟨m, hm⟩ : ∃ m, R'.length = m := ⟨_, rfl⟩
        have HN := Lib.hid hm
        have HL := Lib.hid hl
        have HNL : Hid (l.length = m) := Lib.hid (by rw [← hl, List.length_map, hm])
        obtain ⟨w5, hw5⟩ : ∃ w5, w3 = w5 := ⟨_, rfl⟩
        subst hw5
        have HS5 : Hid (w2.heap.size < w3.heap.size) := Lib.hid (by omega)
        have hfp : readP ns s.data.toList = fromR ns false l := by
          rw [hrp, hl]
          rw [hl] at hhd
          unfold fromParts fromR
          rw [if_neg hhd]
        have BAD : Hid (itemsR ns l = none → ∀ W, Below w.heap.size w W → P (.returned (.tuple #[patV false none 0 0, .int .i64 80])) W) := Lib.hid fun h => NONE.out (by rw [hfp]; unfold fromR; rw [h]; split <;> rfl)
        have LONG : Hid (10 < m → ∀ W, Below w.heap.size w W → P (.returned (.tuple #[patV false none 0 0, .int .i64 80])) W) := Lib.hid fun h => NONE.out (by rw [hfp]; unfold fromR; rw [if_neg (by rw [HNL.out]; omega)])
        have GOOD : Hid (∀ xs, itemsR ns l = some xs → m ≤ 10 → ∀ W o cap, W.ownsRow w3.heap.size 97 2 (.slice o xs.length cap) xs.length (cellsI xs) → Below w.heap.size w W → P (.returned (.tuple #[patV false o xs.length cap, .int .i64 0])) W) := Lib.hid fun xs h h2 W o cap h3 h4 => SOME.out false xs (by rw [hfp]; unfold fromR; rw [if_pos (by rw [HNL.out]; exact h2), h]; rfl) W o cap w3.heap.size (by have := HS5.out; omega) h3 h4
        have HST : Hid (FromF ns w w2 w3 false l 0 w3) := Lib.hid ⟨[], none, 0, rfl, rfl, Nat.zero_le _, r3, p3, World.ownsRow_nil _ _ _ _, bw3, Moves.of_below (Below.refl _ _)⟩
        have HRM : Hid (∀ t ∈ R', t.size ≤ s.size) := Lib.hid hLz
        have HC := Lib.hid hcs
        rw [hm] at hLc hpos ⊢
        clear hl hm hfp hrp hcs hLz r3 p3 bw3 NONE SOME hhd
        go_wp2_with fail
        go_loopg [8] (m) (fun k' v8 wr => ∃ (j : Nat), v8 = .int .i64 (j : Nat) ∧ j ≤ m ∧ m - j = k' ∧ Hid (FromF ns w w2 w3 false l j wr))
        case atStart => exact ⟨0, rfl, Nat.zero_le _, rfl, HST⟩
        case round =>
          obtain ⟨j, rfl, hj, rfl, HFR⟩ := hrel
          obtain ⟨xs, ov, cv, hxs, hxl, h10, r0, r1, hown, hb, hmv⟩ := HFR.out
          have hj6 : j < 1000000 := by omega
          have hltw := (Array.getElem?_eq_some_iff.1 r1).1
          have hsw := hmv.size
          have hs5 := HS5.out
          rcases Nat.lt_or_ge j m with hlt | hge
          · obtain ⟨u, hu⟩ : ∃ u, R'[j]? = some u := ⟨_, List.getElem?_eq_getElem (by have := HN.out; omega)⟩
            have kj := cell_movesQ hmv (by have := HGB.out; show ¬ g = w2.heap.size; omega) (HC.out j u hu)
            have hul : l[j]? = some u.data.toList := by rw [← HL.out, List.getElem?_map, hu]; rfl
            have HI := Lib.hid (IT.out u (HRM.out u (List.mem_of_getElem? hu)) wr hb)
            have OWN := Lib.hid hown
            have HMV := Lib.hid hmv
            have R0 := Lib.hid r0
            have R1 := Lib.hid r1
            have HB4 := Lib.hid hb
            have HXS := Lib.hid hxs
            have HXL := Lib.hid hxl
            have HUL := Lib.hid hul
            have OWN2 : Hid (∀ k, (Value.slice ov j cv).ownBlock = some k → w3.heap.size ≤ k ∧ k < wr.heap.size) := Lib.hid (hown.lt)
            clear hxs hxl r0 r1 hown hb hmv hul
            go_wp2_with fail
            refine HI.out.mono ?_
            rintro e wi ⟨x, b, rfl, hz, bi⟩
            have bw := HB4.out.trans (bi.mono HB4.out.size)
            have p0 := row_below R0.out bi
            have p1 := row_below R1.out bi
            have sij := bi.size
            have hwi : w2.heap.size < wi.heap.size := by omega
            have hwi0 : w.heap.size < wi.heap.size := by omega
            cases b with
            | false =>
              have hzn : itemZ ns u.data.toList = none := hz
              have HBF := Lib.hid (BAD.out (items_bad HUL.out hzn))
              obtain ⟨t0, t1⟩ := pat_cells p0
              have f0 := frozen_of_row wi w.heap.size 0 _ _ p0
              have f1 := frozen_of_row wi w.heap.size 1 _ _ p0
              obtain ⟨p7, m7⟩ := two_set (.bool false) (.slice none 0 0) p0
              have bw6 := Moves.below bw bw.size m7 (fun k hk => by omega)
              obtain ⟨w7, hw7⟩ : ∃ w7, ((wi.setCell ⟨w.heap.size, 0, none⟩ (.bool false)).setCell ⟨w.heap.size, 1, none⟩ (.slice none 0 0)).alloc (itO x) = w7 := ⟨_, rfl⟩
              have HF := Lib.hid (HBF.out w7 (by rw [← hw7]; exact bw6.alloc bw6.size _))
              have HR7 : Hid (w7.heap[w.heap.size]? = some (patO false none 0 0)) := Lib.hid (by rw [← hw7]; exact row_below p7 ((Below.refl _ _).alloc (Nat.le_refl _) _))
              have HW7 := Lib.hid hw7
              clear p0 p7 m7 hw7 bw6
              clear bw p1 sij hz hzn bi
              go_wp2_with fail
              rw [HW7.out]
              exact bodyPost_ret (v := .tuple #[patV false none 0 0, .int .i64 80]) (results_cell_tmpQ rfl _ _ w.heap.size _ _ _ _ _ rfl rfl HR7.out Tryz.underlying35 rfl (by kernel_rfl)) rfl HF.out
            | true =>
              have hzs : itemZ ns u.data.toList = some x := hz
              by_cases hj10 : j = 10
              · subst hj10
                have HBF := Lib.hid (LONG.out (by omega))
                obtain ⟨s0, s1⟩ := pat_cells p1
                obtain ⟨t0, t1⟩ := pat_cells p0
                have f0 := frozen_of_row wi w.heap.size 0 _ _ p0
                have f1 := frozen_of_row wi w.heap.size 1 _ _ p0
                obtain ⟨p7, m7⟩ := two_set (.bool false) (.slice none 0 0) p0
                have bw6 := Moves.below bw bw.size m7 (fun k hk => by omega)
                obtain ⟨w7, hw7⟩ : ∃ w7, ((wi.setCell ⟨w.heap.size, 0, none⟩ (.bool false)).setCell ⟨w.heap.size, 1, none⟩ (.slice none 0 0)).alloc (itO x) = w7 := ⟨_, rfl⟩
                have HF := Lib.hid (HBF.out w7 (by rw [← hw7]; exact bw6.alloc bw6.size _))
                have HR7 : Hid (w7.heap[w.heap.size]? = some (patO false none 0 0)) := Lib.hid (by rw [← hw7]; exact row_below p7 ((Below.refl _ _).alloc (Nat.le_refl _) _))
                have HW7 := Lib.hid hw7
                clear p0 p7 m7 hw7 bw6
                clear bw p1 sij hz hzs bi
                go_wp2_with fail
                rw [HW7.out]
                exact bodyPost_ret (v := .tuple #[patV false none 0 0, .int .i64 80]) (results_cell_tmpQ rfl _ _ w.heap.size _ _ _ _ _ rfl rfl HR7.out Tryz.underlying35 rfl (by kernel_rfl)) rfl HF.out
              · have hjn : (((j : Nat) : Int) == 10) = false := by rw [beq_eq_false_iff_ne]; omega
                have HST2 := Lib.hid (items_step HUL.out HXS.out hzs)
                have o4 := own_below OWN.out bi
                obtain ⟨s0, s1⟩ := pat_cells p1
                have bj : Below wi.heap.size wi (wi.alloc (itO x)) := (Below.refl _ _).alloc (Nat.le_refl _) _
                obtain ⟨g6, c6, w6, hrun, own6, hgr, _⟩ := it_own (W := (wi.alloc (itO x)).alloc (itO x)) x (own_below (own_below o4 bj) ((Below.refl _ _).alloc (Nat.le_refl _) _)) (by omega) (by simp; omega) (heap_alloc_new _ _)
                rw [World.size_alloc] at hrun
                have m6 : Moves (fun k => w3.heap.size ≤ k) wi w6 := (Moves.of_below bj).trans ((Moves.of_below ((Below.refl _ _).alloc (Nat.le_refl _) _)).trans (Moves.mono (S := fun k => (Value.slice ov j cv).ownBlock = some k) ⟨hgr.os, hgr.tape, hgr.output, hgr.size, fun k hk hn => hgr.block k hk (fun e => hn e.symm)⟩ fun k hk => own_geR o4 hk))
                have u0 := row_keep p0 m6 (by omega)
                have u1 := row_keep p1 m6 (by omega)
                obtain ⟨y0, y1⟩ := pat_cells u1
                have h1 := frozen_of_row w6 (w2.heap.size) 1 _ _ u1
                obtain ⟨w7, hw7⟩ : ∃ w7, w6.setCell ⟨w2.heap.size, 1, none⟩ (.slice (some ⟨g6, 0, none⟩) (j + 1) c6) = w7 := ⟨_, rfl⟩
                have m7 : Moves (fun k => k = w2.heap.size) w6 w7 := by rw [← hw7]; exact Moves.setCell rfl
                have z1 : w7.heap[w2.heap.size]? = some (patO false (some ⟨g6, 0, none⟩) (j + 1) c6) := by rw [← hw7, heap_setCell_same _ _ _ _ _ _ u1]; rfl
                have hw36 : Moves (fun k => k = w2.heap.size) w3 w6 := by
                  have h0 := HMV.out.trans (Moves.of_below (S := fun k => k = w2.heap.size) bi)
                  exact ⟨m6.os.trans h0.os, m6.tape.trans h0.tape, m6.output.trans h0.output, Nat.le_trans h0.size m6.size, fun k hk hn => (m6.block k (Nat.lt_of_lt_of_le hk h0.size) (by omega)).trans (h0.block k hk hn)⟩
                have HNEW : Hid (FromF ns w w2 w3 false l (j + 1) w7) := by
                  refine Lib.hid ⟨xs ++ [x], some ⟨g6, 0, none⟩, c6, HST2.out, by rw [List.length_append, HXL.out]; rfl, by omega, row_keep u0 m7 (by omega), z1, ?_, ?_, hw36.trans m7⟩
                  · rw [cellsI_append]
                    exact own_moves own6 m7 (fun k hk he => by omega)
                  · exact Moves.below (Moves.below bw bw.size m6 (fun k hk => by omega)) (Nat.le_trans bw.size m6.size) m7 (fun k hk => by omega)
                have HW7 := Lib.hid hw7
                clear bw p1 sij hz hzs bi o4 own6 hgr m6 u0 u1 hw7 m7 z1 hw36 p0 bj
                go_wp2_with fail
                rw [HW7.out]
                go_roundg (m - (j + 1))
                case measure => omega
                case rel => exact ⟨j + 1, by simp, by omega, rfl, HNEW⟩
          · obtain rfl : j = m := by omega
            rw [List.take_of_length_le (by rw [HNL.out]; exact Nat.le_refl _)] at hxs
            obtain ⟨t0, t1⟩ := pat_cells r0
            obtain ⟨p0, p1⟩ := pat_cells r1
            have f0 := frozen_of_row wr w.heap.size 0 _ _ r0
            have f1 := frozen_of_row wr w.heap.size 1 _ _ r0
            obtain ⟨q3, m3⟩ := two_set (.bool false) (.slice ov j cv) r0
            obtain ⟨w7, hw7⟩ : ∃ w7, (wr.setCell ⟨w.heap.size, 0, none⟩ (.bool false)).setCell ⟨w.heap.size, 1, none⟩ (.slice ov j cv) = w7 := ⟨_, rfl⟩
            rw [hw7] at q3 m3
            have HF : Hid (P (.returned (.tuple #[patV false ov j cv, .int .i64 0])) w7) := by
              have := GOOD.out xs hxs h10 w7 ov cv
              rw [hxl] at this
              exact Lib.hid (this (own_moves hown m3 (fun k hk he => by omega)) (Moves.below hb hb.size m3 (fun k hk => by omega)))
            have HW7 := Lib.hid hw7
            have HR7 := Lib.hid q3
            clear hxs hxl r0 r1 hown hb q3 m3 hw7 hmv
            go_wp2_with fail
            rw [HW7.out]
            exact bodyPost_ret (v := .tuple #[patV false ov j cv, .int .i64 0]) (results_cell_tmpQ rfl _ _ w.heap.size _ _ _ _ _ rfl rfl HR7.out Tryz.underlying35 rfl (by kernel_rfl)) rfl HF.out
  · rw [decide_eq_false hns] at HNM
    have HBF : Hid (∀ W, Below w.heap.size w W → P (.returned (.tuple #[patV false none 0 0, .int .i64 2])) W) := Lib.hid fun W hb => by
      rw [← HP.out]
      have e1 : parsePV ns s.data.toList = (false, []) := by unfold parsePV; rw [if_neg hns]
      have e2 : parsePE ns s.data.toList = 2 := by unfold parsePE; rw [if_neg hns]
      refine ⟨none, 0, by rw [e1, e2]; rfl, by rw [e1]; exact fun h => by simp at h, by rw [e1]; exact Nat.le_refl _, fun k hk => ?_, hb⟩
      obtain ⟨a, ha, _⟩ := hk
      cases ha
    obtain ⟨k, hkk⟩ : ∃ k, ns.length = k := ⟨_, rfl⟩
    rw [hkk] at HNM ⊢
    clear hP hw1 b1 z1 r1 hN hns hz hn hc hkk HP
    go_enter Tryz.func76, Tryz.ntmps76
    go_wp2_with fail
    rw [HW1.out]
    refine HNM.out.mono ?_
    rintro e w2 ⟨rfl, q, rfl⟩
    have B2 := below_drewN w1 q
    have p0 := row_below HR1.out B2
    have bw2 := HB1.out.trans (B2.mono HB1.out.size)
    obtain ⟨t0, t1⟩ := pat_cells p0
    have f0 := frozen_of_row (w1.drewN q) w.heap.size 0 _ _ p0
    have f1 := frozen_of_row (w1.drewN q) w.heap.size 1 _ _ p0
    obtain ⟨p7, m7⟩ := two_set (.bool false) (.slice none 0 0) p0
    obtain ⟨w7, hw7⟩ : ∃ w7, ((w1.drewN q).setCell ⟨w.heap.size, 0, none⟩ (.bool false)).setCell ⟨w.heap.size, 1, none⟩ (.slice none 0 0) = w7 := ⟨_, rfl⟩
    rw [hw7] at p7 m7
    have HF := Lib.hid (HBF.out w7 (Moves.below bw2 bw2.size m7 (fun k hk => by omega)))
    have HW7 := Lib.hid hw7
    have HR7 := Lib.hid p7
    clear p0 p7 m7 hw7
    clear B2 bw2
    go_wp2_with fail
    rw [HW7.out]
    exact bodyPost_ret (v := .tuple #[patV false none 0 0, .int .i64 2]) (results_cell_tmpQ rfl _ _ w.heap.size _ _ _ _ _ rfl rfl HR7.out Tryz.underlying35 rfl (by kernel_rfl)) rfl HF.out
end Go.Proofs.YtnmhdcbpbaanoaaGreatDoor
