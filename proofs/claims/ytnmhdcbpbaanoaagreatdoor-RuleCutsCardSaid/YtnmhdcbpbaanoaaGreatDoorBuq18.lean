/- Shaken by bunq.py. -/
import Derived.Test.YtnmhdcbpbaanoaaGreatDoorBuq16
namespace Go.Proofs.YtnmhdcbpbaanoaaGreatDoor
open Go.RowKit Go.Shelf Go.Maps
attribute [local go_sem] Oper.semAt_some
attribute [local go_sem ↓] app_hide

def PatQ (r : Option (Bool × List ItemP)) (aU : Addr) (w : World) (e : Ending) (w' : World) : Prop := ∃ (st : Bool) (xs : List ItemP) (o : Option Addr) (cap : Nat), r.getD (false, []) = (st, xs) ∧ e = .returned (.tuple #[patV st o xs.length cap, errP aU r]) ∧ AtI w' o xs ∧ xs.length ≤ cap ∧ (∀ k, inQ o k → w.heap.size ≤ k ∧ k < w'.heap.size) ∧ Below w.heap.size w w'
def FromI (ns : List ByteArray) (w : World) (st : Bool) (l : List (List UInt8)) (j : Nat) (wr : World) : Prop :=
  ∃ (xs : List ItemP) (o : Option Addr) (cap : Nat), itemsR ns (l.take j) = some xs ∧ xs.length = j ∧ wr.heap[w.heap.size]? = some (patO false none 0 0) ∧ wr.heap[w.heap.size + 1]? = some (patO st o j cap) ∧ wr.ownsRow (w.heap.size + 2) 97 2 (.slice o j cap) j (cellsI xs) ∧ Below w.heap.size w wr
def fromR (ns : List ByteArray) (st : Bool) (l : List (List UInt8)) : Option (Bool × List ItemP) := if l.length ≤ 10 then (itemsR ns l).map fun xs => (st, xs) else none
theorem items_bad {ns : List ByteArray} {l : List (List UInt8)} {j : Nat} {t : List UInt8} (hj : l[j]? = some t) (h : itemZ ns t = none) : itemsR ns l = none := by
  have h1 : l = l.take j ++ [t] ++ l.drop (j + 1) := by
    have := List.take_append_drop (j + 1) l
    rw [List.take_add_one, hj] at this
    exact this.symm
  rw [h1]
  refine itemsR_none_append ns _ _ ?_
  rw [itemsR_snoc, h]
  cases itemsR ns (l.take j) <;> rfl
theorem items_step {ns : List ByteArray} {l : List (List UInt8)} {j : Nat} {t : List UInt8} {xs : List ItemP} {x : ItemP} (hj : l[j]? = some t) (h0 : itemsR ns (l.take j) = some xs) (h : itemZ ns t = some x) : itemsR ns (l.take (j + 1)) = some (xs ++ [x]) := by
  rw [List.take_add_one, hj]
  show itemsR ns (l.take j ++ [t]) = _
  rw [itemsR_snoc, h0, h]
  rfl
theorem own_inQ {w : World} {base n cap size : Nat} {e : TypeId} {o : Option Addr} {xs : List Value} (h : w.ownsRow base e size (.slice o n cap) n xs) : ∀ k, inQ o k → base ≤ k ∧ k < w.heap.size := by
  rintro k ⟨a, rfl, rfl⟩
  rcases h.2 with ⟨e, _⟩ | ⟨g, cap', cur, e, hb, hg, _⟩
  · cases e
  · cases e
    exact ⟨hb, (Array.getElem?_eq_some_iff.1 hg).1⟩
theorem own_movesQ {A B : World} {base : Nat} {e : TypeId} {size : Nat} {v : Value} {n : Nat} {xs : List Value} {S : Nat → Prop} (h : A.ownsRow base e size v n xs) (hm : Moves S A B) (hS : ∀ k, v.ownBlock = some k → ¬ S k) : B.ownsRow base e size v n xs := by
  refine ⟨h.1, ?_⟩
  rcases h.2 with hn | ⟨g, cap, cur, rfl, hg, hh, rest⟩
  · exact .inl hn
  · exact .inr ⟨g, cap, cur, rfl, hg, (hm.block _ (Array.getElem?_eq_some_iff.1 hh).1 (hS g (by simp [Value.ownBlock]))).trans hh, rest⟩
set_option maxRecDepth 100000 in
set_option maxHeartbeats 4000000 in
theorem patternOf_any (on po : Option Addr) (ns L : List ByteArray) (ncap pcap : Nat) (hns : namesL ns) (hn : ns.length ≤ 1000) (hz : ∀ s ∈ ns, s.size ≤ 1000) (hL : L.length ≤ 1000) (hLz : ∀ t ∈ L, t.size ≤ 1000000) (hLc : L.length ≤ pcap) (w : World) (aU aS : Addr) (hQ : GlobQ w aU aS) (hG : KGlob w) (hN : TxtAt w on ns) (hP : TxtAt w po L) :
    Calls Tryz.prog 149 #[.slice on ns.length ncap, .slice po L.length pcap] w (PatQ (fromParts ns (L.map (·.data.toList))) aU w) := by
  obtain ⟨P, hPP⟩ : ∃ P, PatQ (fromParts ns (L.map (·.data.toList))) aU w = P := ⟨_, rfl⟩
  have HP := Lib.hid hPP
  rw [hPP]
  have BAD : fromParts ns (L.map (·.data.toList)) = none → Hid (∀ W, Below w.heap.size w W → P (.returned (.tuple #[patV false none 0 0, errVQ aU])) W) := fun h => Lib.hid fun W hb => by
    rw [← HP.out, h]
    refine ⟨false, [], none, 0, rfl, rfl, fun hn => by simp at hn, Nat.le_refl _, fun k hk => ?_, hb⟩
    obtain ⟨a, ha, _⟩ := hk
    cases ha
  have OK : ∀ st xs, fromParts ns (L.map (·.data.toList)) = some (st, xs) → Hid (∀ W o cap, W.ownsRow (w.heap.size + 2) 97 2 (.slice o xs.length cap) xs.length (cellsI xs) → Below w.heap.size w W → P (.returned (.tuple #[patV st o xs.length cap, .nilIface])) W) := fun st xs h => Lib.hid fun W o cap ho hb => by
    rw [← HP.out, h]
    exact ⟨st, xs, o, cap, rfl, rfl, at_ownI ho, own_cap ho, fun k hk => by have := own_inQ ho k hk; omega, hb⟩
  have IT := Lib.hid (fun (t : ByteArray) (h : t ∈ L) W (hb : Below w.heap.size w W) => itemOf_any t (hLz t h) on ns ncap hns hn hz W aU aS (hQ.below hb) (hG.below hb) (hN.below hb))
  cases L with
  | nil =>
    clear hP hL hLc
    obtain ⟨W2, hW2⟩ : ∃ W2, (w.alloc (patO false none 0 0)).alloc (patO false none 0 0) = W2 := ⟨_, rfl⟩
    have bA : Below w.heap.size w (w.alloc (patO false none 0 0)) := (Below.refl _ _).alloc (Nat.le_refl _) _
    have b2 : Below w.heap.size w W2 := by rw [← hW2]; exact bA.alloc bA.size _
    have q0 : W2.heap[w.heap.size]? = some (patO false none 0 0) := by rw [← hW2]; exact row_below (heap_alloc_new _ _) ((Below.refl _ _).alloc (Nat.le_refl _) _)
    have q1 : W2.heap[w.heap.size + 1]? = some (patO false none 0 0) := by
      have := heap_alloc_new (w.alloc (patO false none 0 0)) (patO false none 0 0)
      rw [hW2] at this
      simpa using this
    obtain ⟨q3, m3⟩ := two_set (.bool false) (.slice none 0 0) q0
    obtain ⟨W3, hW3⟩ : ∃ W3, (W2.setCell ⟨w.heap.size, 0, none⟩ (.bool false)).setCell ⟨w.heap.size, 1, none⟩ (.slice none 0 0) = W3 := ⟨_, rfl⟩
    rw [hW3] at q3 m3
    have HF := Lib.hid ((OK false [] (rfl)).out W3 none 0 (World.ownsRow_nil _ _ _ _) (Moves.below b2 b2.size m3 (fun k hk => by omega)))
    obtain ⟨t0, t1⟩ := pat_cells q0
    obtain ⟨p0, p1⟩ := pat_cells q1
    have f0 := frozen_of_row W2 w.heap.size 0 _ _ q0
    have f1 := frozen_of_row W2 w.heap.size 1 _ _ q0
    have HW2 := Lib.hid hW2
    have HW3 := Lib.hid hW3
    have HR3 := Lib.hid q3
    clear hPP BAD OK hQ hN hG hns hz hn hLz IT bA b2 q0 q1 q3 m3 hW2 hW3
    go_enter Tryz.func149, Tryz.ntmps149
    go_wp2_with fail
    refine wp_scope_forth 0 (by simp [findLabel]; rfl) ?_
    go_wp2_with fail
    rw [HW2.out]
    refine wp_loop_rounds 1 ?_
    rw [rounds_succ]
    go_wp2_with fail
    rw [HW3.out]
    exact bodyPost_ret (v := .tuple #[patV false none 0 0, .nilIface]) (results_cell_tmpQ rfl _ _ w.heap.size _ _ _ _ _ rfl rfl HR3.out Tryz.underlying35 rfl (by kernel_rfl)) rfl HF.out
  | cons t r =>
    by_cases ht : t = ⟨#[94]⟩
    · subst ht
      have hfp : fromParts ns (((⟨#[94]⟩ : ByteArray) :: r).map (·.data.toList)) = fromR ns true (r.map (·.data.toList)) := by
        unfold fromParts fromR
        rw [List.map_cons, if_pos (show (((⟨#[94]⟩ : ByteArray).data.toList :: r.map (·.data.toList)).head? = some [94]) from rfl)]
        rfl
      have hte : ((⟨#[94]⟩ : ByteArray).toList == [94]) = true := by rw [Lib.toList_data]; rfl
      obtain ⟨g, off, rfl, hc⟩ := hP (by simp)
      have k00 : w.cell? ⟨g, off, none⟩ = some (.string ⟨#[94]⟩) := by have := hc 0 _ rfl; rwa [Nat.add_zero] at this
      have hg := World.block_lt_of_cell? w _ k00
      obtain ⟨m, hnn⟩ : ∃ m, r.length = m := ⟨_, rfl⟩
      have hlm : ((⟨#[94]⟩ : ByteArray) :: r).length = m + 1 := by rw [List.length_cons, hnn]
      rw [hlm] at hL hLc ⊢
      obtain ⟨pc, rfl⟩ : ∃ pc, pcap = pc + 1 := ⟨pcap - 1, by omega⟩
      obtain ⟨k, hkk⟩ : ∃ k, ns.length = k := ⟨_, rfl⟩
      by_cases hpc : pc = 0
      · subst hpc
        obtain rfl : m = 0 := by omega
        obtain rfl := List.eq_nil_of_length_eq_zero hnn
        clear hkk hlm hnn hL hLc
        obtain ⟨W2, hW2⟩ : ∃ W2, (w.alloc (patO false none 0 0)).alloc (patO true none 0 0) = W2 := ⟨_, rfl⟩
        have bA : Below w.heap.size w (w.alloc (patO false none 0 0)) := (Below.refl _ _).alloc (Nat.le_refl _) _
        have b2 : Below w.heap.size w W2 := by rw [← hW2]; exact bA.alloc bA.size _
        have q0 : W2.heap[w.heap.size]? = some (patO false none 0 0) := by rw [← hW2]; exact row_below (heap_alloc_new _ _) ((Below.refl _ _).alloc (Nat.le_refl _) _)
        have q1 : W2.heap[w.heap.size + 1]? = some (patO true none 0 0) := by
          have := heap_alloc_new (w.alloc (patO false none 0 0)) (patO true none 0 0)
          rw [hW2] at this
          simpa using this
        obtain ⟨q3, m3⟩ := two_set (.bool true) (.slice none 0 0) q0
        obtain ⟨W3, hW3⟩ : ∃ W3, (W2.setCell ⟨w.heap.size, 0, none⟩ (.bool true)).setCell ⟨w.heap.size, 1, none⟩ (.slice none 0 0) = W3 := ⟨_, rfl⟩
        rw [hW3] at q3 m3
        have HF := Lib.hid ((OK true [] (by rw [hfp]; rfl)).out W3 none 0 (World.ownsRow_nil _ _ _ _) (Moves.below b2 b2.size m3 (fun k hk => by omega)))
        obtain ⟨t0, t1⟩ := pat_cells q0
        obtain ⟨p0, p1⟩ := pat_cells q1
        have f0 := frozen_of_row W2 w.heap.size 0 _ _ q0
        have f1 := frozen_of_row W2 w.heap.size 1 _ _ q0
        have HW2 := Lib.hid hW2
        have HW3 := Lib.hid hW3
        have HR3 := Lib.hid q3
        clear hPP BAD OK hfp hc hP hQ hN hG hns hz hn hLz IT bA b2 q0 q1 q3 m3 hW2 hW3
        go_enter Tryz.func149, Tryz.ntmps149
        go_wp2_with fail
        refine wp_scope_forth 0 (by simp [findLabel]; rfl) ?_
        go_wp2_with fail
        rw [HW2.out]
        refine wp_loop_rounds 1 ?_
        rw [rounds_succ]
        go_wp2_with fail
        rw [HW3.out]
        exact bodyPost_ret (v := .tuple #[patV true none 0 0, .nilIface]) (results_cell_tmpQ rfl _ _ w.heap.size _ _ _ _ _ rfl rfl HR3.out Tryz.underlying35 rfl (by kernel_rfl)) rfl HF.out
      · rw [hkk] at IT ⊢
        rw [hfp] at BAD OK
        have hc' : ∀ (j : Nat) (x : ByteArray), r[j]? = some x → w.cell? ⟨g, off + 1 + j, none⟩ = some (.string x) := fun j x h => by
          have := hc (j + 1) x (by simpa using h)
          rwa [show off + (j + 1) = off + 1 + j from by omega] at this
        have HN := Lib.hid hnn
        have HC := Lib.hid hc'
        clear hc' hlm
        have hpm : m ≤ pc := by omega
        obtain ⟨l, hl⟩ : ∃ l, r.map (·.data.toList) = l := ⟨_, rfl⟩
        rw [hl] at BAD OK
        have HL := Lib.hid hl
        have hll : l.length = m := by rw [← hl, List.length_map, hnn]
        have hge : GlobQ w aU aS := hQ
        have hu := hge.utf
        have hlu := hge.ltU
        have hl0 : 0 < w.heap.size := by omega
        have hu1 := (hge.below (w' := w.alloc (patO false none 0 0)) ((Below.refl _ _).alloc (Nat.le_refl _) _)).utf
        have hu2 := cell_keepQ (w' := (w.alloc (patO false none 0 0)).alloc (patO true none 0 0)) ((Below.refl _ _).alloc (Nat.le_refl _) _) hu1
        obtain ⟨W2, hW2⟩ : ∃ W2, (w.alloc (patO false none 0 0)).alloc (patO true none 0 0) = W2 := ⟨_, rfl⟩
        have bA : Below w.heap.size w (w.alloc (patO false none 0 0)) := (Below.refl _ _).alloc (Nat.le_refl _) _
        have b2 : Below w.heap.size w W2 := by rw [← hW2]; exact bA.alloc bA.size _
        have q0 : W2.heap[w.heap.size]? = some (patO false none 0 0) := by rw [← hW2]; exact row_below (heap_alloc_new _ _) ((Below.refl _ _).alloc (Nat.le_refl _) _)
        have q1 : W2.heap[w.heap.size + 1]? = some (patO true none 0 0) := by
          have := heap_alloc_new (w.alloc (patO false none 0 0)) (patO true none 0 0)
          rw [hW2] at this
          simpa using this
        have HW2 := Lib.hid hW2
        by_cases h10 : 10 < m
        · have h11 : (10 : Int) < ((m : Nat) : Int) := by omega
          have HB := BAD (by unfold fromR; rw [if_neg (by omega)])
          obtain ⟨t0, t1⟩ := pat_cells q0
          have f0 := frozen_of_row W2 w.heap.size 0 _ _ q0
          have f1 := frozen_of_row W2 w.heap.size 1 _ _ q0
          obtain ⟨q3, m3⟩ := two_set (.bool false) (.slice none 0 0) q0
          obtain ⟨W3, hW3⟩ : ∃ W3, (W2.setCell ⟨w.heap.size, 0, none⟩ (.bool false)).setCell ⟨w.heap.size, 1, none⟩ (.slice none 0 0) = W3 := ⟨_, rfl⟩
          rw [hW3] at q3 m3
          have HF := Lib.hid (HB.out W3 (Moves.below b2 b2.size m3 (fun k hk => by omega)))
          have HW3 := Lib.hid hW3
          have HR3 := Lib.hid q3
          clear hPP BAD OK hc hnn hkk hl hll hfp hQ hN hG hns hz hn hLz hP IT bA b2 q0 q1 q3 m3 hW2 hW3 hge
          go_enter Tryz.func149, Tryz.ntmps149
          go_wp2_with fail
          refine wp_scope_forth 0 (by simp [findLabel]; rfl) ?_
          go_wp2_with fail
          rw [HW2.out]
          refine wp_goto ?_
          simp only [Exit.then]
          show Exit.jump _ _ _ _ _ _
          simp only [Exit.jump, true_and]
          go_wp2_with fail
          rw [HW3.out, Exit.noGoto_ret]
          exact bodyPost_ret (v := .tuple #[patV false none 0 0, errVQ aU]) (results_cell_tmpQ rfl _ _ w.heap.size _ _ _ _ _ rfl rfl HR3.out Tryz.underlying35 rfl (by kernel_rfl)) rfl HF.out
        · have hn10 : m ≤ 10 := by omega
          have hn11 : ((m : Nat) : Int) ≤ 10 := by omega
          have hn12 : ¬ (10 : Int) < ((m : Nat) : Int) := by omega
          have HST : Hid (FromI ns w true l 0 W2) := Lib.hid ⟨[], none, 0, rfl, rfl, q0, q1, World.ownsRow_nil _ _ _ _, b2⟩
          have BAD' : Hid (itemsR ns l = none → ∀ W, Below w.heap.size w W → P (.returned (.tuple #[patV false none 0 0, errVQ aU])) W) := Lib.hid fun h => (BAD (by unfold fromR; rw [if_pos (by omega), h]; rfl)).out
          have OK' : Hid (∀ xs, itemsR ns l = some xs → ∀ W o cap, W.ownsRow (w.heap.size + 2) 97 2 (.slice o xs.length cap) xs.length (cellsI xs) → Below w.heap.size w W → P (.returned (.tuple #[patV true o xs.length cap, .nilIface])) W) := Lib.hid fun xs h => (OK true xs (by unfold fromR; rw [if_pos (by omega), h]; rfl)).out
          have HNL := Lib.hid hll
          clear hPP BAD OK hc hnn hkk hl hll hfp hQ hN hG hns hz hn hLz hP bA b2 q0 q1 hW2 hge hu hlu hl0 hu1 hu2
          go_enter Tryz.func149, Tryz.ntmps149
          go_wp2_with fail
          refine wp_scope_forth 0 (by simp [findLabel]; rfl) ?_
          go_wp2_with fail
          rw [HW2.out]
          go_loopg [7, 29] (m) (fun k' v7 v29 wr => ∃ (j : Nat), v7 = .nilIface ∧ v29 = .int .i64 (j : Nat) ∧ j ≤ m ∧ m - j = k' ∧ Hid (FromI ns w true l j wr))
          case atStart => exact ⟨0, rfl, rfl, Nat.zero_le _, rfl, HST⟩
          case round =>
            obtain ⟨j, rfl, rfl, hj, rfl, HFR⟩ := hrel
            obtain ⟨xs, ov, cv, hxs, hxl, r0, r1, hown, hb⟩ := HFR.out
            have hj6 : j < 1000000 := by omega
            rcases Nat.lt_or_ge j m with hlt | hge
            · obtain ⟨u, hu⟩ : ∃ u, (r)[j]? = some u := ⟨_, List.getElem?_eq_getElem (by have := HN.out; omega)⟩
              have kj := cell_keepQ hb (HC.out j u hu)
              have hul : l[j]? = some u.data.toList := by rw [← HL.out, List.getElem?_map, hu]; rfl
              have bb : Below wr.heap.size wr (wr.alloc (itO (0, 0))) := (Below.refl _ _).alloc (Nat.le_refl _) _
              have HI := Lib.hid (IT.out u (List.mem_cons_of_mem _ (List.mem_of_getElem? hu)) (wr.alloc (itO (0, 0))) (hb.alloc hb.size _))
              have RI := Lib.hid (heap_alloc_new wr (itO (0, 0)))
              have HB4 := Lib.hid (hb.trans (bb.mono hb.size))
              have hltw := (Array.getElem?_eq_some_iff.1 r1).1
              have R0 := Lib.hid (row_below r0 bb)
              have R1 := Lib.hid (row_below r1 bb)
              have OWN := Lib.hid (own_below hown bb)
              have hsw : (wr.alloc (itO (0, 0))).heap.size = wr.heap.size + 1 := by simp
              have HSW := Lib.hid hsw
              have OWN2 : Hid (∀ k, (Value.slice ov j cv).ownBlock = some k → w.heap.size + 2 ≤ k ∧ k < wr.heap.size) := Lib.hid (hown.lt)
              unfold ItemQ at HI
              cases hz : itemZ ns u.data.toList with
              | none =>
                rw [hz] at HI
                have HBF := BAD'.out (items_bad hul hz)
                have HBF' := Lib.hid HBF
                have HI' : Hid (Calls Tryz.prog 165 #[.string u, .slice on k ncap] (wr.alloc (itO (0, 0))) fun e w' => e = .returned (.tuple #[itV (0, 0), errVQ aU]) ∧ Below (wr.alloc (itO (0, 0))).heap.size (wr.alloc (itO (0, 0))) w') := HI
                clear HI hz hxs r0 r1 hown hb bb hul hsw HBF
                go_wp2_with fail
                refine HI'.out.mono ?_
                rintro e w4 ⟨rfl, b4⟩
                have q4 := row_below RI.out b4
                have q0 := row_below R0.out b4
                obtain ⟨s0, s1⟩ := it_cells q4
                have g0 := frozen_of_row w4 wr.heap.size 0 _ _ q4
                have g1 := frozen_of_row w4 wr.heap.size 1 _ _ q4
                have bw4 := HB4.out.trans (b4.mono (HB4.out.size))
                obtain ⟨q5, m5⟩ := two_set (.int .i64 0) (.int .i64 0) q4
                obtain ⟨w5, hw5⟩ : ∃ w5, (w4.setCell ⟨wr.heap.size, 0, none⟩ (.int .i64 0)).setCell ⟨wr.heap.size, 1, none⟩ (.int .i64 0) = w5 := ⟨_, rfl⟩
                rw [hw5] at q5 m5
                have p0 := row_keep q0 m5 (by omega)
                obtain ⟨t0, t1⟩ := pat_cells p0
                have f0 := frozen_of_row w5 w.heap.size 0 _ _ p0
                have f1 := frozen_of_row w5 w.heap.size 1 _ _ p0
                obtain ⟨p7, m7⟩ := two_set (.bool false) (.slice none 0 0) p0
                obtain ⟨w7, hw7⟩ : ∃ w7, (w5.setCell ⟨w.heap.size, 0, none⟩ (.bool false)).setCell ⟨w.heap.size, 1, none⟩ (.slice none 0 0) = w7 := ⟨_, rfl⟩
                rw [hw7] at p7 m7
                have HF := Lib.hid (HBF'.out w7 (Moves.below (Moves.below bw4 bw4.size m5 (fun k hk => by omega)) (Nat.le_trans bw4.size m5.size) m7 (fun k hk => by omega)))
                have HW5 := Lib.hid hw5
                have HW7 := Lib.hid hw7
                have HR7 := Lib.hid p7
                clear b4 q4 q0 bw4 q5 m5 hw5 p0 p7 m7 hw7
                go_wp2_with fail
                rw [HW5.out]
                refine wp_goto ?_
                simp only [Exit.then, Exit.inBlock]
                show Exit.jump _ _ _ _ _ _
                simp only [Exit.jump, true_and]
                go_wp2_with fail
                rw [HW7.out, Exit.noGoto_ret]
                exact bodyPost_ret (v := .tuple #[patV false none 0 0, errVQ aU]) (results_cell_tmpQ rfl _ _ w.heap.size _ _ _ _ _ rfl rfl HR7.out Tryz.underlying35 rfl (by kernel_rfl)) rfl HF.out
              | some x =>
                rw [hz] at HI
                have HST2 := Lib.hid (items_step hul hxs hz)
                have HI' : Hid (Calls Tryz.prog 165 #[.string u, .slice on k ncap] (wr.alloc (itO (0, 0))) fun e w' => e = .returned (.tuple #[itV x, .nilIface]) ∧ Below (wr.alloc (itO (0, 0))).heap.size (wr.alloc (itO (0, 0))) w') := HI
                have HXL := Lib.hid hxl
                clear HI hz hxs r0 r1 hown hb bb hul hsw hxl
                go_wp2_with fail
                refine HI'.out.mono ?_
                rintro e w4 ⟨rfl, b4⟩
                have q4 := row_below RI.out b4
                have q0 := row_below R0.out b4
                have q1 := row_below R1.out b4
                have o4 := own_below OWN.out b4
                obtain ⟨s0, s1⟩ := it_cells q4
                have g0 := frozen_of_row w4 wr.heap.size 0 _ _ q4
                have g1 := frozen_of_row w4 wr.heap.size 1 _ _ q4
                have bw4 := HB4.out.trans (b4.mono (HB4.out.size))
                have hlt4 := (Array.getElem?_eq_some_iff.1 q4).1
                obtain ⟨q5, m5⟩ := two_set (.int .i64 x.1) (.int .i64 x.2) q4
                have sz5 : ((w4.setCell ⟨wr.heap.size, 0, none⟩ (.int .i64 x.1)).setCell ⟨wr.heap.size, 1, none⟩ (.int .i64 x.2)).heap.size = w4.heap.size := by simp
                have o5 := own_movesQ o4 m5 (fun k hk he => by have := (OWN2.out k hk).2; omega)
                obtain ⟨g6, c6, w6, hrun, own6, hgr, _⟩ := it_own (W := ((w4.setCell ⟨wr.heap.size, 0, none⟩ (.int .i64 x.1)).setCell ⟨wr.heap.size, 1, none⟩ (.int .i64 x.2)).alloc (itO x)) x (own_below o5 ((Below.refl _ _).alloc (Nat.le_refl _) _)) (by omega) (by have := bw4.size; simp; omega) (heap_alloc_new _ _)
                rw [sz5] at hrun
                have m56 : Moves (fun k => w.heap.size + 2 ≤ k) w4 w6 := (m5.mono fun k hk => by omega).trans ((Moves.of_below ((Below.refl _ _).alloc (Nat.le_refl _) _)).trans (Moves.mono (S := fun k => (Value.slice ov j cv).ownBlock = some k) ⟨hgr.os, hgr.tape, hgr.output, hgr.size, fun k hk hn => hgr.block k hk (fun e => hn e.symm)⟩ fun k hk => own_geR o5 hk))
                have u0 := row_keep q0 m56 (by omega)
                have u1 := row_keep q1 m56 (by omega)
                obtain ⟨v0, v1⟩ := pat_cells q1
                obtain ⟨y0, y1⟩ := pat_cells u1
                have h1 := frozen_of_row w6 (w.heap.size + 1) 1 _ _ u1
                obtain ⟨w7, hw7⟩ : ∃ w7, w6.setCell ⟨w.heap.size + 1, 1, none⟩ (.slice (some ⟨g6, 0, none⟩) (j + 1) c6) = w7 := ⟨_, rfl⟩
                have m7 : Moves (fun k => k = w.heap.size + 1) w6 w7 := by rw [← hw7]; exact Moves.setCell rfl
                have z1 : w7.heap[w.heap.size + 1]? = some (patO true (some ⟨g6, 0, none⟩) (j + 1) c6) := by rw [← hw7, heap_setCell_same _ _ _ _ _ _ u1]; rfl
                have HNEW : Hid (FromI ns w true l (j + 1) w7) := by
                  refine Lib.hid ⟨xs ++ [x], some ⟨g6, 0, none⟩, c6, HST2.out, by rw [List.length_append, HXL.out]; rfl, row_keep u0 m7 (by omega), z1, ?_, ?_⟩
                  · rw [cellsI_append]
                    exact own_moves own6 m7 (fun k hk he => by omega)
                  · exact Moves.below (Moves.below bw4 bw4.size m56 (fun k hk => by omega)) (Nat.le_trans bw4.size m56.size) m7 (fun k hk => by omega)
                have HW7 := Lib.hid hw7
                have ne1 : ¬ wr.heap.size = w.heap.size + 1 := by omega
                have ne2 : ¬ w.heap.size + 1 = wr.heap.size := by omega
                clear b4 q4 q0 q1 o4 bw4 q5 m5 sz5 o5 own6 hgr m56 u0 u1 hw7 m7 z1
                go_wp2_with fail
                rw [HW7.out]
                go_roundg (m - (j + 1))
                case measure => omega
                case rel => exact ⟨j + 1, rfl, by simp, by omega, rfl, HNEW⟩
            · obtain rfl : j = m := by omega
              rw [List.take_of_length_le (by rw [HNL.out]; exact Nat.le_refl _)] at hxs
              obtain ⟨t0, t1⟩ := pat_cells r0
              obtain ⟨p0, p1⟩ := pat_cells r1
              have f0 := frozen_of_row wr w.heap.size 0 _ _ r0
              have f1 := frozen_of_row wr w.heap.size 1 _ _ r0
              obtain ⟨q3, m3⟩ := two_set (.bool true) (.slice ov j cv) r0
              obtain ⟨w3, hw3⟩ : ∃ w3, (wr.setCell ⟨w.heap.size, 0, none⟩ (.bool true)).setCell ⟨w.heap.size, 1, none⟩ (.slice ov j cv) = w3 := ⟨_, rfl⟩
              rw [hw3] at q3 m3
              have HF : Hid (P (.returned (.tuple #[patV true ov j cv, .nilIface])) w3) := by
                have := OK'.out xs hxs w3 ov cv
                rw [hxl] at this
                exact Lib.hid (this (own_moves hown m3 (fun k hk he => by omega)) (Moves.below hb hb.size m3 (fun k hk => by omega)))
              have HW3 := Lib.hid hw3
              have HR3 := Lib.hid q3
              clear hxs hxl r0 r1 hown hb q3 m3 hw3
              go_wp2_with fail
              rw [HW3.out]
              exact bodyPost_ret (v := .tuple #[patV true ov j cv, .nilIface]) (results_cell_tmpQ rfl _ _ w.heap.size _ _ _ _ _ rfl rfl HR3.out Tryz.underlying35 rfl (by kernel_rfl)) rfl HF.out
    · have hfp : fromParts ns ((t :: r).map (·.data.toList)) = fromR ns false ((t :: r).map (·.data.toList)) := by
        unfold fromParts fromR
        rw [if_neg]
        rw [List.map_cons, List.head?_cons]
        intro h
        refine ht (ByteArray.ext (Array.toList_inj.1 ?_))
        exact Option.some.inj h
      have hte : (t.toList == [94]) = false := by
        rw [Lib.toList_data, beq_eq_false_iff_ne]
        intro h
        exact ht (ByteArray.ext (Array.toList_inj.1 h))
      rw [hfp] at BAD OK
      obtain ⟨g, off, rfl, hc⟩ := hP (by simp)
      have k00 : w.cell? ⟨g, off, none⟩ = some (.string t) := by have := hc 0 t rfl; rwa [Nat.add_zero] at this
      have hg := World.block_lt_of_cell? w _ k00
      obtain ⟨n, hnn⟩ : ∃ n, (t :: r).length = n := ⟨_, rfl⟩
      have hn0 : 0 < n := by rw [← hnn]; simp
      obtain ⟨k, hkk⟩ : ∃ k, ns.length = k := ⟨_, rfl⟩
      rw [hkk] at IT ⊢
      rw [hnn] at hL hLc ⊢
      have HN := Lib.hid hnn
      have HC := Lib.hid hc
      obtain ⟨l, hl⟩ : ∃ l, (t :: r).map (·.data.toList) = l := ⟨_, rfl⟩
      rw [hl] at BAD OK
      have HL := Lib.hid hl
      have hll : l.length = n := by rw [← hl, List.length_map, hnn]
      have hge : GlobQ w aU aS := hQ
      have hu := hge.utf
      have hlu := hge.ltU
      have hl0 : 0 < w.heap.size := by omega
      have hu1 := (hge.below (w' := w.alloc (patO false none 0 0)) ((Below.refl _ _).alloc (Nat.le_refl _) _)).utf
      have hu2 := cell_keepQ (w' := (w.alloc (patO false none 0 0)).alloc (patO false none 0 0)) ((Below.refl _ _).alloc (Nat.le_refl _) _) hu1
      obtain ⟨W2, hW2⟩ : ∃ W2, (w.alloc (patO false none 0 0)).alloc (patO false none 0 0) = W2 := ⟨_, rfl⟩
      have bA : Below w.heap.size w (w.alloc (patO false none 0 0)) := (Below.refl _ _).alloc (Nat.le_refl _) _
      have b2 : Below w.heap.size w W2 := by rw [← hW2]; exact bA.alloc bA.size _
      have q0 : W2.heap[w.heap.size]? = some (patO false none 0 0) := by rw [← hW2]; exact row_below (heap_alloc_new _ _) ((Below.refl _ _).alloc (Nat.le_refl _) _)
      have q1 : W2.heap[w.heap.size + 1]? = some (patO false none 0 0) := by
        have := heap_alloc_new (w.alloc (patO false none 0 0)) (patO false none 0 0)
        rw [hW2] at this
        simpa using this
      have HW2 := Lib.hid hW2
      by_cases h10 : 10 < n
      · have h11 : (10 : Int) < ((n : Nat) : Int) := by omega
        have HB := BAD (by unfold fromR; rw [if_neg (by omega)])
        obtain ⟨t0, t1⟩ := pat_cells q0
        have f0 := frozen_of_row W2 w.heap.size 0 _ _ q0
        have f1 := frozen_of_row W2 w.heap.size 1 _ _ q0
        obtain ⟨q3, m3⟩ := two_set (.bool false) (.slice none 0 0) q0
        obtain ⟨W3, hW3⟩ : ∃ W3, (W2.setCell ⟨w.heap.size, 0, none⟩ (.bool false)).setCell ⟨w.heap.size, 1, none⟩ (.slice none 0 0) = W3 := ⟨_, rfl⟩
        rw [hW3] at q3 m3
        have HF := Lib.hid (HB.out W3 (Moves.below b2 b2.size m3 (fun k hk => by omega)))
        have HW3 := Lib.hid hW3
        have HR3 := Lib.hid q3
        clear hPP BAD OK hc hnn hkk hl hll hfp hQ hN hG hns hz hn hLz hP IT bA b2 q0 q1 q3 m3 hW2 hW3 hge
        go_enter Tryz.func149, Tryz.ntmps149
        go_wp2_with fail
        refine wp_scope_forth 0 (by simp [findLabel]; rfl) ?_
        go_wp2_with fail
        rw [HW2.out]
        refine wp_goto ?_
        simp only [Exit.then]
        show Exit.jump _ _ _ _ _ _
        simp only [Exit.jump, true_and]
        go_wp2_with fail
        rw [HW3.out, Exit.noGoto_ret]
        exact bodyPost_ret (v := .tuple #[patV false none 0 0, errVQ aU]) (results_cell_tmpQ rfl _ _ w.heap.size _ _ _ _ _ rfl rfl HR3.out Tryz.underlying35 rfl (by kernel_rfl)) rfl HF.out
      · have hn10 : n ≤ 10 := by omega
        have hn11 : ((n : Nat) : Int) ≤ 10 := by omega
        have hn12 : ¬ (10 : Int) < ((n : Nat) : Int) := by omega
        have HST : Hid (FromI ns w false l 0 W2) := Lib.hid ⟨[], none, 0, rfl, rfl, q0, q1, World.ownsRow_nil _ _ _ _, b2⟩
        have BAD' : Hid (itemsR ns l = none → ∀ W, Below w.heap.size w W → P (.returned (.tuple #[patV false none 0 0, errVQ aU])) W) := Lib.hid fun h => (BAD (by unfold fromR; rw [if_pos (by omega), h]; rfl)).out
        have OK' : Hid (∀ xs, itemsR ns l = some xs → ∀ W o cap, W.ownsRow (w.heap.size + 2) 97 2 (.slice o xs.length cap) xs.length (cellsI xs) → Below w.heap.size w W → P (.returned (.tuple #[patV false o xs.length cap, .nilIface])) W) := Lib.hid fun xs h => (OK false xs (by unfold fromR; rw [if_pos (by omega), h]; rfl)).out
        have HNL := Lib.hid hll
        clear hPP BAD OK hc hnn hkk hl hll hfp hQ hN hG hns hz hn hLz hP bA b2 q0 q1 hW2 hge hu hlu hl0 hu1 hu2
        go_enter Tryz.func149, Tryz.ntmps149
        go_wp2_with fail
        refine wp_scope_forth 0 (by simp [findLabel]; rfl) ?_
        go_wp2_with fail
        rw [HW2.out]
        go_loopg [7, 29] (n) (fun k' v7 v29 wr => ∃ (j : Nat), v7 = .nilIface ∧ v29 = .int .i64 (j : Nat) ∧ j ≤ n ∧ n - j = k' ∧ Hid (FromI ns w false l j wr))
        case atStart => exact ⟨0, rfl, rfl, Nat.zero_le _, rfl, HST⟩
        case round =>
          obtain ⟨j, rfl, rfl, hj, rfl, HFR⟩ := hrel
          obtain ⟨xs, ov, cv, hxs, hxl, r0, r1, hown, hb⟩ := HFR.out
          have hj6 : j < 1000000 := by omega
          rcases Nat.lt_or_ge j n with hlt | hge
          · obtain ⟨u, hu⟩ : ∃ u, (t :: r)[j]? = some u := ⟨_, List.getElem?_eq_getElem (by have := HN.out; omega)⟩
            have kj := cell_keepQ hb (HC.out j u hu)
            have hul : l[j]? = some u.data.toList := by rw [← HL.out, List.getElem?_map, hu]; rfl
            have bb : Below wr.heap.size wr (wr.alloc (itO (0, 0))) := (Below.refl _ _).alloc (Nat.le_refl _) _
            have HI := Lib.hid (IT.out u (List.mem_of_getElem? hu) (wr.alloc (itO (0, 0))) (hb.alloc hb.size _))
            have RI := Lib.hid (heap_alloc_new wr (itO (0, 0)))
            have HB4 := Lib.hid (hb.trans (bb.mono hb.size))
            have hltw := (Array.getElem?_eq_some_iff.1 r1).1
            have R0 := Lib.hid (row_below r0 bb)
            have R1 := Lib.hid (row_below r1 bb)
            have OWN := Lib.hid (own_below hown bb)
            have hsw : (wr.alloc (itO (0, 0))).heap.size = wr.heap.size + 1 := by simp
            have HSW := Lib.hid hsw
            have OWN2 : Hid (∀ k, (Value.slice ov j cv).ownBlock = some k → w.heap.size + 2 ≤ k ∧ k < wr.heap.size) := Lib.hid (hown.lt)
            unfold ItemQ at HI
            cases hz : itemZ ns u.data.toList with
            | none =>
              rw [hz] at HI
              have HBF := BAD'.out (items_bad hul hz)
              have HBF' := Lib.hid HBF
              have HI' : Hid (Calls Tryz.prog 165 #[.string u, .slice on k ncap] (wr.alloc (itO (0, 0))) fun e w' => e = .returned (.tuple #[itV (0, 0), errVQ aU]) ∧ Below (wr.alloc (itO (0, 0))).heap.size (wr.alloc (itO (0, 0))) w') := HI
              clear HI hz hxs r0 r1 hown hb bb hul hsw HBF
              go_wp2_with fail
              refine HI'.out.mono ?_
              rintro e w4 ⟨rfl, b4⟩
              have q4 := row_below RI.out b4
              have q0 := row_below R0.out b4
              obtain ⟨s0, s1⟩ := it_cells q4
              have g0 := frozen_of_row w4 wr.heap.size 0 _ _ q4
              have g1 := frozen_of_row w4 wr.heap.size 1 _ _ q4
              have bw4 := HB4.out.trans (b4.mono (HB4.out.size))
              obtain ⟨q5, m5⟩ := two_set (.int .i64 0) (.int .i64 0) q4
              obtain ⟨w5, hw5⟩ : ∃ w5, (w4.setCell ⟨wr.heap.size, 0, none⟩ (.int .i64 0)).setCell ⟨wr.heap.size, 1, none⟩ (.int .i64 0) = w5 := ⟨_, rfl⟩
              rw [hw5] at q5 m5
              have p0 := row_keep q0 m5 (by omega)
              obtain ⟨t0, t1⟩ := pat_cells p0
              have f0 := frozen_of_row w5 w.heap.size 0 _ _ p0
              have f1 := frozen_of_row w5 w.heap.size 1 _ _ p0
              obtain ⟨p7, m7⟩ := two_set (.bool false) (.slice none 0 0) p0
              obtain ⟨w7, hw7⟩ : ∃ w7, (w5.setCell ⟨w.heap.size, 0, none⟩ (.bool false)).setCell ⟨w.heap.size, 1, none⟩ (.slice none 0 0) = w7 := ⟨_, rfl⟩
              rw [hw7] at p7 m7
              have HF := Lib.hid (HBF'.out w7 (Moves.below (Moves.below bw4 bw4.size m5 (fun k hk => by omega)) (Nat.le_trans bw4.size m5.size) m7 (fun k hk => by omega)))
              have HW5 := Lib.hid hw5
              have HW7 := Lib.hid hw7
              have HR7 := Lib.hid p7
              clear b4 q4 q0 bw4 q5 m5 hw5 p0 p7 m7 hw7
              go_wp2_with fail
              rw [HW5.out]
              refine wp_goto ?_
              simp only [Exit.then, Exit.inBlock]
              show Exit.jump _ _ _ _ _ _
              simp only [Exit.jump, true_and]
              go_wp2_with fail
              rw [HW7.out, Exit.noGoto_ret]
              exact bodyPost_ret (v := .tuple #[patV false none 0 0, errVQ aU]) (results_cell_tmpQ rfl _ _ w.heap.size _ _ _ _ _ rfl rfl HR7.out Tryz.underlying35 rfl (by kernel_rfl)) rfl HF.out
            | some x =>
              rw [hz] at HI
              have HST2 := Lib.hid (items_step hul hxs hz)
              have HI' : Hid (Calls Tryz.prog 165 #[.string u, .slice on k ncap] (wr.alloc (itO (0, 0))) fun e w' => e = .returned (.tuple #[itV x, .nilIface]) ∧ Below (wr.alloc (itO (0, 0))).heap.size (wr.alloc (itO (0, 0))) w') := HI
              have HXL := Lib.hid hxl
              clear HI hz hxs r0 r1 hown hb bb hul hsw hxl
              go_wp2_with fail
              refine HI'.out.mono ?_
              rintro e w4 ⟨rfl, b4⟩
              have q4 := row_below RI.out b4
              have q0 := row_below R0.out b4
              have q1 := row_below R1.out b4
              have o4 := own_below OWN.out b4
              obtain ⟨s0, s1⟩ := it_cells q4
              have g0 := frozen_of_row w4 wr.heap.size 0 _ _ q4
              have g1 := frozen_of_row w4 wr.heap.size 1 _ _ q4
              have bw4 := HB4.out.trans (b4.mono (HB4.out.size))
              have hlt4 := (Array.getElem?_eq_some_iff.1 q4).1
              obtain ⟨q5, m5⟩ := two_set (.int .i64 x.1) (.int .i64 x.2) q4
              have sz5 : ((w4.setCell ⟨wr.heap.size, 0, none⟩ (.int .i64 x.1)).setCell ⟨wr.heap.size, 1, none⟩ (.int .i64 x.2)).heap.size = w4.heap.size := by simp
              have o5 := own_movesQ o4 m5 (fun k hk he => by have := (OWN2.out k hk).2; omega)
              obtain ⟨g6, c6, w6, hrun, own6, hgr, _⟩ := it_own (W := ((w4.setCell ⟨wr.heap.size, 0, none⟩ (.int .i64 x.1)).setCell ⟨wr.heap.size, 1, none⟩ (.int .i64 x.2)).alloc (itO x)) x (own_below o5 ((Below.refl _ _).alloc (Nat.le_refl _) _)) (by omega) (by have := bw4.size; simp; omega) (heap_alloc_new _ _)
              rw [sz5] at hrun
              have m56 : Moves (fun k => w.heap.size + 2 ≤ k) w4 w6 := (m5.mono fun k hk => by omega).trans ((Moves.of_below ((Below.refl _ _).alloc (Nat.le_refl _) _)).trans (Moves.mono (S := fun k => (Value.slice ov j cv).ownBlock = some k) ⟨hgr.os, hgr.tape, hgr.output, hgr.size, fun k hk hn => hgr.block k hk (fun e => hn e.symm)⟩ fun k hk => own_geR o5 hk))
              have u0 := row_keep q0 m56 (by omega)
              have u1 := row_keep q1 m56 (by omega)
              obtain ⟨v0, v1⟩ := pat_cells q1
              obtain ⟨y0, y1⟩ := pat_cells u1
              have h1 := frozen_of_row w6 (w.heap.size + 1) 1 _ _ u1
              obtain ⟨w7, hw7⟩ : ∃ w7, w6.setCell ⟨w.heap.size + 1, 1, none⟩ (.slice (some ⟨g6, 0, none⟩) (j + 1) c6) = w7 := ⟨_, rfl⟩
              have m7 : Moves (fun k => k = w.heap.size + 1) w6 w7 := by rw [← hw7]; exact Moves.setCell rfl
              have z1 : w7.heap[w.heap.size + 1]? = some (patO false (some ⟨g6, 0, none⟩) (j + 1) c6) := by rw [← hw7, heap_setCell_same _ _ _ _ _ _ u1]; rfl
              have HNEW : Hid (FromI ns w false l (j + 1) w7) := by
                refine Lib.hid ⟨xs ++ [x], some ⟨g6, 0, none⟩, c6, HST2.out, by rw [List.length_append, HXL.out]; rfl, row_keep u0 m7 (by omega), z1, ?_, ?_⟩
                · rw [cellsI_append]
                  exact own_moves own6 m7 (fun k hk he => by omega)
                · exact Moves.below (Moves.below bw4 bw4.size m56 (fun k hk => by omega)) (Nat.le_trans bw4.size m56.size) m7 (fun k hk => by omega)
              have HW7 := Lib.hid hw7
              have ne1 : ¬ wr.heap.size = w.heap.size + 1 := by omega
              have ne2 : ¬ w.heap.size + 1 = wr.heap.size := by omega
              clear b4 q4 q0 q1 o4 bw4 q5 m5 sz5 o5 own6 hgr m56 u0 u1 hw7 m7 z1
              go_wp2_with fail
              rw [HW7.out]
              go_roundg (n - (j + 1))
              case measure => omega
              case rel => exact ⟨j + 1, rfl, by simp, by omega, rfl, HNEW⟩
          · obtain rfl : j = n := by omega
            rw [List.take_of_length_le (by rw [HNL.out]; exact Nat.le_refl _)] at hxs
            obtain ⟨t0, t1⟩ := pat_cells r0
            obtain ⟨p0, p1⟩ := pat_cells r1
            have f0 := frozen_of_row wr w.heap.size 0 _ _ r0
            have f1 := frozen_of_row wr w.heap.size 1 _ _ r0
            obtain ⟨q3, m3⟩ := two_set (.bool false) (.slice ov j cv) r0
            obtain ⟨w3, hw3⟩ : ∃ w3, (wr.setCell ⟨w.heap.size, 0, none⟩ (.bool false)).setCell ⟨w.heap.size, 1, none⟩ (.slice ov j cv) = w3 := ⟨_, rfl⟩
            rw [hw3] at q3 m3
            have HF : Hid (P (.returned (.tuple #[patV false ov j cv, .nilIface])) w3) := by
              have := OK'.out xs hxs w3 ov cv
              rw [hxl] at this
              exact Lib.hid (this (own_moves hown m3 (fun k hk he => by omega)) (Moves.below hb hb.size m3 (fun k hk => by omega)))
            have HW3 := Lib.hid hw3
            have HR3 := Lib.hid q3
            clear hxs hxl r0 r1 hown hb q3 m3 hw3
            go_wp2_with fail
            rw [HW3.out]
            exact bodyPost_ret (v := .tuple #[patV false ov j cv, .nilIface]) (results_cell_tmpQ rfl _ _ w.heap.size _ _ _ _ _ rfl rfl HR3.out Tryz.underlying35 rfl (by kernel_rfl)) rfl HF.out
end Go.Proofs.YtnmhdcbpbaanoaaGreatDoor
namespace Go.Proofs.YtnmhdcbpbaanoaaGreatDoor
open Go.RowKit Go.Shelf Go.Maps
attribute [local go_sem] Oper.semAt_some
attribute [local go_sem ↓] app_hide

def ParseR (ns : List ByteArray) (s : List UInt8) (E : Value) (w : World) (e : Ending) (w' : World) : Prop := ∃ (o : Option Addr) (cap : Nat), e = .returned (.tuple #[patV (parsePV ns s).1 o (parsePV ns s).2.length cap, E]) ∧ AtI w' o (parsePV ns s).2 ∧ (parsePV ns s).2.length ≤ cap ∧ (∀ k, inQ o k → w.heap.size ≤ k ∧ k < w'.heap.size) ∧ Below w.heap.size w w'
theorem cell_movesP {S : Nat → Prop} {w w' : World} {o : Option Addr} {l : List ItemP} {n : Nat} (h : AtI w o l) (hk : ∀ k, inQ o k → n ≤ k ∧ k < w.heap.size) (hm : Moves S w w') (hs : ∀ k, S k → k < n) : AtI w' o l := h.moves hm fun _ k hq hS => by have := hk k hq; have := hs k hS; omega
set_option maxRecDepth 100000 in
set_option maxHeartbeats 4000000 in
theorem parsed_anyQ (s : ByteArray) (hs : s.size ≤ 1000000) (on : Option Addr) (ns : List ByteArray) (ncap : Nat) (hn : ns.length ≤ 1000) (hz : ∀ s ∈ ns, s.size ≤ 1000) (w : World) (aU aS : Addr) (hQ : GlobQ w aU aS) (hG : KGlob w) (hN : TxtAt w on ns) :
    Calls Tryz.prog 139 #[.string s, .slice on ns.length ncap] w (ParseR ns s.data.toList (errN aU aS (parsePE ns s.data.toList)) w) := by
  obtain ⟨w1, hw1⟩ : ∃ w1, w.alloc (patO false none 0 0) = w1 := ⟨_, rfl⟩
  have b1 : Below w.heap.size w w1 := by rw [← hw1]; exact (Below.refl _ _).alloc (Nat.le_refl _) _
  have z1 : w1.heap.size = w.heap.size + 1 := by rw [← hw1]; simp
  have r1 : w1.heap[w.heap.size]? = some (patO false none 0 0) := by rw [← hw1]; exact heap_alloc_new _ _
  have HNM := Lib.hid (NamesK_any on ns ncap hn (fun s h => by have := hz s h; omega) w1 (hN.below b1))
  obtain ⟨P, hP⟩ : ∃ P, ParseR ns s.data.toList (errN aU aS (parsePE ns s.data.toList)) w = P := ⟨_, rfl⟩
  have HP := Lib.hid hP
  rw [hP]
  have HW1 := Lib.hid hw1
  have HB1 := Lib.hid b1
  have HR1 := Lib.hid r1
  have HZ1 := Lib.hid z1
  have HQ := Lib.hid hQ
  by_cases hns : namesL ns
  · rw [decide_eq_true hns] at HNM
    have HPO := Lib.hid (partsOf_any s hs)
    have HPA := Lib.hid (fun (L : List ByteArray) (po : Option Addr) (pcap : Nat) W (hb : Below w1.heap.size w1 W) (h1 : L.length ≤ 12) (h2 : ∀ t ∈ L, t.size ≤ s.size) (h3 : L.length ≤ pcap) (h4 : TxtAt W po L) => patternOf_any on po ns L ncap pcap hns hn hz (by omega) (fun t ht => by have := h2 t ht; omega) h3 W aU aS ((hQ.below b1).below hb) ((hG.below b1).below hb) ((hN.below b1).below hb) h4)
    have FIN : Hid (∀ st xs o cap E W, (readP ns s.data.toList).getD (false, []) = (st, xs) → E = errP aU (readP ns s.data.toList) → AtI W o xs → xs.length ≤ cap → (∀ k, inQ o k → w.heap.size ≤ k ∧ k < W.heap.size) → Below w.heap.size w W → P (.returned (.tuple #[patV st o xs.length cap, E])) W) := Lib.hid fun st xs o cap E W h1 h2 h3 h4 h5 h6 => by
      rw [← HP.out]
      have e1 : parsePV ns s.data.toList = (st, xs) := by unfold parsePV; rw [if_pos hns, h1]
      refine ⟨o, cap, ?_, ?_, ?_, h5, h6⟩
      · rw [e1, h2]
        unfold parsePE
        rw [if_pos hns]
        cases readP ns s.data.toList <;> rfl
      · rw [e1]; exact h3
      · rw [e1]; exact h4
    obtain ⟨n, hnn⟩ : ∃ n, ns.length = n := ⟨_, rfl⟩
    rw [hnn] at HNM HPA ⊢
    clear hP hw1 b1 z1 r1 hQ hG hN hns hz hn hnn
    go_enter Tryz.func139, Tryz.ntmps139
    go_wp2_with fail
    rw [HW1.out]
    refine HNM.out.mono ?_
    rintro e w2 ⟨rfl, b2⟩
    have HB2 := Lib.hid b2
    have r2 := row_below HR1.out b2
    have HR2 := Lib.hid r2
    clear b2 r2
    go_wp2_with fail
    refine (HPO.out w2).mono ?_
    rintro e w3 ⟨L, po, pcap, rfl, hown, b3, hl, hlz, hfr⟩
    have HCC := Lib.hid (HPA.out L po pcap w3 (HB2.out.trans (b3.mono HB2.out.size)) hl hlz (own_cap hown) (txt_ownR hown))
    have HFR := Lib.hid hfr
    have HB3 := Lib.hid ((HB1.out.trans (HB2.out.mono HB1.out.size)).trans (b3.mono (by have := HB1.out.size; have := HB2.out.size; omega)))
    have r3 := row_below HR2.out b3
    have HR3 := Lib.hid r3
    obtain ⟨q, hq⟩ : ∃ q, L.length = q := ⟨_, rfl⟩
    rw [hq] at HCC ⊢
    clear hown b3 hl hlz hfr r3 hq
    go_wp2_with fail
    refine HCC.out.mono ?_
    rintro e w4 ⟨st, xs, o, cap, hget, rfl, hat, hlc, hk, b4⟩
    rw [HFR.out] at hget ⊢
    have r4 := row_below HR3.out b4
    have bw4 := HB3.out.trans (b4.mono HB3.out.size)
    obtain ⟨E, hE⟩ : ∃ E, errP aU (readP ns s.data.toList) = E := ⟨_, rfl⟩
    obtain ⟨n2, hn2⟩ : ∃ n2, xs.length = n2 := ⟨_, rfl⟩
    obtain ⟨t0, t1⟩ := pat_cells r4
    have f0 := frozen_of_row w4 w.heap.size 0 _ _ r4
    have f1 := frozen_of_row w4 w.heap.size 1 _ _ r4
    obtain ⟨r5, m5⟩ := two_set (.bool st) (.slice o n2 cap) r4
    obtain ⟨w5, hw5⟩ : ∃ w5, (w4.setCell ⟨w.heap.size, 0, none⟩ (.bool st)).setCell ⟨w.heap.size, 1, none⟩ (.slice o n2 cap) = w5 := ⟨_, rfl⟩
    rw [hw5] at r5 m5
    have hlt3 : w.heap.size < w3.heap.size := (Array.getElem?_eq_some_iff.1 HR3.out).1
    have HF : Hid (P (.returned (.tuple #[patV st o n2 cap, E])) w5) := by
      have := FIN.out st xs o cap E w5 hget hE.symm (cell_movesP hat hk m5 (fun k hk => by omega)) hlc (fun k hq => by have := hk k hq; have := m5.size; omega) (Moves.below bw4 bw4.size m5 (fun k hk => by omega))
      rw [hn2] at this
      exact Lib.hid this
    have HW5 := Lib.hid hw5
    have HR5 := Lib.hid r5
    rw [hE, hn2]
    clear hget hat hlc hk b4 r4 bw4 hE hn2 r5 m5 hw5 hlt3
    go_wp2_with fail
    rw [HW5.out]
    exact bodyPost_ret (v := .tuple #[patV st o n2 cap, E]) (results_cell_tmpQ rfl _ _ w.heap.size _ _ _ _ _ rfl rfl HR5.out Tryz.underlying35 rfl (by kernel_rfl)) rfl HF.out
  · rw [decide_eq_false hns] at HNM
    have FIN : Hid (∀ W, Below w.heap.size w W → P (.returned (.tuple #[patV false none 0 0, errVQ aS])) W) := Lib.hid fun W hb => by
      rw [← HP.out]
      have e1 : parsePV ns s.data.toList = (false, []) := by unfold parsePV; rw [if_neg hns]
      have e2 : parsePE ns s.data.toList = 2 := by unfold parsePE; rw [if_neg hns]
      refine ⟨none, 0, by rw [e1, e2]; rfl, by rw [e1]; exact fun h => by simp at h, by rw [e1]; exact Nat.le_refl _, fun k hk => ?_, hb⟩
      obtain ⟨a, ha, _⟩ := hk
      cases ha
    obtain ⟨n, hnn⟩ : ∃ n, ns.length = n := ⟨_, rfl⟩
    rw [hnn] at HNM ⊢
    clear hP hw1 b1 z1 r1 hQ hG hN hns hz hn hnn
    go_enter Tryz.func139, Tryz.ntmps139
    go_wp2_with fail
    rw [HW1.out]
    refine HNM.out.mono ?_
    rintro e w2 ⟨rfl, b2⟩
    have B2 := HB1.out.trans (b2.mono HB1.out.size)
    have r2 := row_below HR1.out b2
    have hu := (HQ.out.below B2).sca
    have hlu := HQ.out.ltS
    have hg1 : ¬ w.heap.size = 1 := by omega
    have hg2 : ¬ 1 = w.heap.size := by omega
    obtain ⟨t0, t1⟩ := pat_cells r2
    have f0 := frozen_of_row w2 w.heap.size 0 _ _ r2
    have f1 := frozen_of_row w2 w.heap.size 1 _ _ r2
    obtain ⟨r3, m3⟩ := two_set (.bool false) (.slice none 0 0) r2
    obtain ⟨w3, hw3⟩ : ∃ w3, (w2.setCell ⟨w.heap.size, 0, none⟩ (.bool false)).setCell ⟨w.heap.size, 1, none⟩ (.slice none 0 0) = w3 := ⟨_, rfl⟩
    rw [hw3] at r3 m3
    have HF := Lib.hid (FIN.out w3.drew (Moves.below B2 B2.size m3.drew (fun k hk => by omega)))
    have HW3 := Lib.hid hw3
    have HR3 := Lib.hid r3
    clear b2 B2 r2 r3 m3 hw3 hlu
    go_wp2_with fail
    go_region
    all_goals
      go_wp2_with fail
      rw [HW3.out]
      exact bodyPost_ret (v := .tuple #[patV false none 0 0, errVQ aS]) (results_cell_tmpQ rfl _ _ w.heap.size _ _ _ _ _ rfl rfl (show w3.drew.heap[w.heap.size]? = _ from HR3.out) Tryz.underlying35 rfl (by kernel_rfl)) rfl HF.out
theorem parsePE_one (ns : List ByteArray) (s : List UInt8) : parsePE ns s = 0 ∨ parsePE ns s = 2 ∨ parsePE ns s = 80 := by
  unfold parsePE
  split
  · split <;> simp
  · simp
theorem printPE_one (ns : List ByteArray) (xs : List ItemP) : printPE ns xs = 0 ∨ printPE ns xs = 2 ∨ printPE ns xs = 80 := by
  unfold printPE
  split
  · split <;> simp
  · simp
set_option maxRecDepth 100000 in
set_option maxHeartbeats 4000000 in
theorem Parse_anyQ (s : ByteArray) (hs : s.size ≤ 1000000) (on : Option Addr) (ns : List ByteArray) (ncap : Nat) (hn : ns.length ≤ 1000) (hz : ∀ s ∈ ns, s.size ≤ 1000) (w : World) (aU aS : Addr) (hQ : GlobQ w aU aS) (hG : KGlob w) (hN : TxtAt w on ns) :
    Calls Tryz.prog 125 #[.string s, .slice on ns.length ncap] w (ParseR ns s.data.toList (.int .i64 (parsePE ns s.data.toList)) w) := by
  obtain ⟨P, hP⟩ : ∃ P, ParseR ns s.data.toList (.int .i64 (parsePE ns s.data.toList)) w = P := ⟨_, rfl⟩
  have HP := Lib.hid hP
  rw [hP]
  obtain ⟨W, hW⟩ : ∃ W, w.alloc (patO false none 0 0) = W := ⟨_, rfl⟩
  have A1 : Below w.heap.size w W := by rw [← hW]; exact (Below.refl _ _).alloc (Nat.le_refl _) _
  have z1 : W.heap.size = w.heap.size + 1 := by rw [← hW]; simp
  have r1 : W.heap[w.heap.size]? = some (patO false none 0 0) := by rw [← hW]; exact heap_alloc_new _ _
  have HC1 := Lib.hid (parsed_anyQ s hs on ns ncap hn hz W aU aS (hQ.below A1) (hG.below A1) (hN.below A1))
  obtain ⟨n, hnn⟩ : ∃ n, ns.length = n := ⟨_, rfl⟩
  rw [hnn] at HC1 ⊢
  have HA1 := Lib.hid A1
  have HR1 := Lib.hid r1
  have HW := Lib.hid hW
  have HQ := Lib.hid hQ
  have HZ1 := Lib.hid z1
  have hfol : Tryz.prog.follows .mixedOrders = true := by kernel_rfl
  clear hP hW A1 r1 hnn hN hG hz hn hQ z1
  go_enter Tryz.func125, Tryz.ntmps125
  go_wp2_with fail
  rw [HW.out]
  refine HC1.out.mono ?_
  rintro e w1 ⟨o, cap, rfl, hat, hlc, hk, b1⟩
  obtain ⟨st, hst⟩ : ∃ st, (parsePV ns s.data.toList).1 = st := ⟨_, rfl⟩
  obtain ⟨p, hp⟩ : ∃ p, (parsePV ns s.data.toList).2.length = p := ⟨_, rfl⟩
  obtain ⟨c, hc⟩ : ∃ c, parsePE ns s.data.toList = c := ⟨_, rfl⟩
  have hcc := parsePE_one ns s.data.toList
  rw [hc] at hcc
  rw [hst, hp, hc]
  have HB1 := HA1.out.trans (b1.mono HA1.out.size)
  have R2 := row_below HR1.out b1
  obtain ⟨w2, hw2⟩ : ∃ w2, w1.alloc (patO st o p cap) = w2 := ⟨_, rfl⟩
  have b2 : Below w1.heap.size w1 w2 := by rw [← hw2]; exact (Below.refl _ _).alloc (Nat.le_refl _) _
  have R3 := row_below R2 b2
  have R4 : w2.heap[w1.heap.size]? = some (patO st o p cap) := by rw [← hw2]; exact heap_alloc_new _ _
  obtain ⟨u0, u1⟩ := pat_cells R4
  obtain ⟨t0, t1⟩ := pat_cells R3
  have f0 := frozen_of_row w2 w.heap.size 0 _ _ R3
  have f1 := frozen_of_row w2 w.heap.size 1 _ _ R3
  have hw10 : w.heap.size < w1.heap.size := (Array.getElem?_eq_some_iff.1 R2).1
  have hw21 : w1.heap.size < w2.heap.size := World.block_lt_of_cell? _ _ u0
  have HB2 := HB1.trans (b2.mono HB1.size)
  have HNUM := Lib.hid (number_anyQ ((HQ.out.below HB2).drew) c hcc)
  obtain ⟨r5, m5⟩ := two_set (.bool st) (.slice o p cap) R3
  obtain ⟨w5, hw5⟩ : ∃ w5, (w2.setCell ⟨w.heap.size, 0, none⟩ (.bool st)).setCell ⟨w.heap.size, 1, none⟩ (.slice o p cap) = w5 := ⟨_, rfl⟩
  rw [hw5] at r5 m5
  have HPP : Hid (P (.returned (.tuple #[patV st o p cap, .int .i64 c])) w5.drew) := by
    rw [← HP.out]
    refine Lib.hid ⟨o, cap, by rw [hst, hp, hc], ?_, hlc, fun k hq => ?_, Moves.below HB2 HB2.size m5.drew (fun k hk => by omega)⟩
    · exact cell_movesP (n := W.heap.size) (hat.below b2) (fun k hq => by have := hk k hq; have := b2.size; omega) m5.drew (fun k hk => by have := HZ1.out; omega)
    · have h1 := hk k hq
      have h2 := m5.drew.size
      have := HZ1.out
      omega
  have HW2 := Lib.hid hw2
  have HW5 := Lib.hid hw5
  have HR5 := Lib.hid r5
  clear r5 m5 hw5 hw2 b1 b2 R2 R3 R4 HB2 HB1 HC1 hat hlc hk hst hp hc hcc
  go_wp2_with fail
  rw [HW2.out]
  go_region_with (go_at_call 124; refine HNUM.out.mono ?_; rintro e w' ⟨rfl, rfl⟩)
  all_goals
    go_simp
    go_wp2_with fail
    rw [HW5.out]
    exact bodyPost_ret (v := .tuple #[patV st o p cap, .int .i64 c]) (results_cell_tmpQ rfl _ _ w.heap.size _ _ _ _ _ rfl rfl (show w5.drew.heap[w.heap.size]? = _ from HR5.out) Tryz.underlying35 rfl (by kernel_rfl)) rfl HPP.out
set_option maxRecDepth 100000 in
set_option maxHeartbeats 4000000 in
theorem Print_anyQ (start : Bool) (o on : Option Addr) (xs : List ItemP) (ns : List ByteArray) (cap ncap : Nat) (hn : ns.length ≤ 1000) (hz : ∀ s ∈ ns, s.size ≤ 1000) (hxl : xs.length ≤ 1000) (w : World) (aU aS : Addr) (hQ : GlobQ w aU aS) (hG : KGlob w) (hA : AtI w o xs) (hN : TxtAt w on ns) :
    Calls Tryz.prog 95 #[patV start o xs.length cap, .slice on ns.length ncap] w fun e w' => e = .returned (.tuple #[strV (printPV ns start xs), .int .i64 (printPE ns xs)]) ∧ Below w.heap.size w w' := by
  obtain ⟨W, hW⟩ : ∃ W, w.alloc (patO start o xs.length cap) = W := ⟨_, rfl⟩
  have A1 : Below w.heap.size w W := by rw [← hW]; exact (Below.refl _ _).alloc (Nat.le_refl _) _
  have r1 : W.heap[w.heap.size]? = some (patO start o xs.length cap) := by rw [← hW]; exact heap_alloc_new _ _
  obtain ⟨q0, q1⟩ := pat_cells r1
  have HC1 := Lib.hid (printed_anyQ start o on xs ns cap ncap hn hz hxl W aU aS (hQ.below A1) (hG.below A1) (hA.below A1) (hN.below A1))
  unfold PrintedQ at HC1
  obtain ⟨S, hS⟩ : ∃ S, strV (printPV ns start xs) = S := ⟨_, rfl⟩
  obtain ⟨c, hc⟩ : ∃ c, printPE ns xs = c := ⟨_, rfl⟩
  have hcc := printPE_one ns xs
  rw [hS, hc] at HC1
  rw [hc] at hcc
  rw [hS, hc]
  obtain ⟨n, hnn⟩ : ∃ n, ns.length = n := ⟨_, rfl⟩
  obtain ⟨m, hmm⟩ : ∃ m, xs.length = m := ⟨_, rfl⟩
  rw [hnn, hmm] at HC1
  rw [hmm] at hW
  rw [hnn, hmm]
  have HA1 := Lib.hid A1
  have HW := Lib.hid hW
  have HQ := Lib.hid hQ
  have HCC := Lib.hid hcc
  clear hW A1 r1 hnn hmm hN hG hz hn hQ hA hS hc hcc hxl
  go_enter Tryz.func95, Tryz.ntmps95
  go_wp2_with fail
  rw [HW.out]
  refine HC1.out.mono ?_
  rintro e w1 ⟨rfl, b1⟩
  have HB1 := Lib.hid (HA1.out.trans (b1.mono HA1.out.size))
  have HNUM := Lib.hid (number_anyQ (HQ.out.below HB1.out) c HCC.out)
  clear b1
  go_wp2_with fail
  refine HNUM.out.mono ?_
  rintro e w2 ⟨rfl, rfl⟩
  go_wp2
  go_ret2
  exact ⟨rfl, HB1.out⟩
end Go.Proofs.YtnmhdcbpbaanoaaGreatDoor
