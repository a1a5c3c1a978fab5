/- reader.next: the scalar that what is left begins with. -/
import Derived.Test.YtcdgmamlmapbcaaDoorRowWalk
import Derived.Test.YtcdgmamlmapbcaaDoorJoin
import Derived.Test.YtcdgmamlmapbcaaDoorIs
import Derived.Test.YtcdgmamlmapbcaaDoorScope
namespace Go.Proofs.YtcdgmamlmapbcaaDoor
open Go.RowKit

theorem row_any (p : Nat) (s : ByteArray) (mb : Option Nat) (b : Nat) (w : World) (h : Rd w p s mb) :
    Calls Tryd.prog 69 #[.pointer (some ⟨p, 0, none⟩), .int .u8 (b : Nat)] w (RowPost p s mb b w) := by
  have hb : Rd (w.alloc (.cells zeroC 92)) p s mb := h.below ((Below.refl _ _).alloc (Nat.le_refl _) _)
  obtain ⟨k, hk, hl⟩ := run_known (w.alloc (.cells zeroC 92)) mb b hb.good
  by_cases h9 : k < 9
  · obtain rfl : k = rowIx b := by omega
    exact row_known p s mb b w h h9 hl
  · have : k = 9 := by have := rowIx_le b; omega
    subst this
    exact row_new p s mb b w h hl

theorem Glob.ne_map {w : World} {aU aS : Addr} (h : Glob w aU aS) {m : Nat} {es : Array MapEntry} {c : Nat} (hm : w.heap[m]? = some (.map es c)) :
    m ≠ 0 ∧ m ≠ 1 ∧ m ≠ aU.block ∧ m ≠ aS.block := by
  refine ⟨?_, ?_, ?_, ?_⟩
  · rintro rfl
    have := h.utf
    simp [World.cell?, hm] at this
  · rintro rfl
    have := h.sca
    simp [World.cell?, hm] at this
  · rintro rfl
    obtain ⟨c, t, hc⟩ := h.rowU
    rw [hm] at hc
    cases hc
  · rintro rfl
    obtain ⟨c, t, hc⟩ := h.rowS
    rw [hm] at hc
    cases hc
/-- The sentinels lie as they lay, where a reader's map alone has turned. -/
theorem Glob.moves {w w' : World} {aU aS : Addr} {p : Nat} {s : ByteArray} {mb : Option Nat} (h : Glob w aU aS) (hr : Rd w p s mb) (hm : Moves (fun k => mb = some k) w w') : Glob w' aU aS := by
  have hk : ∀ k, k < w.heap.size → (k = 0 ∨ k = 1 ∨ k = aU.block ∨ k = aS.block) → w'.heap[k]? = w.heap[k]? := by
    intro k hk hor
    refine hm.block k hk ?_
    intro e
    obtain ⟨es, c, hh, _⟩ := hr.good k e
    have := h.ne_map hh
    omega
  exact {
    utf := (World.cell?_of_block (w := w) (hk _ h.ltU (by simp))).trans h.utf
    sca := (World.cell?_of_block (w := w) (hk _ h.ltS (by simp))).trans h.sca
    ne := h.ne
    rowU := by obtain ⟨c, t, hc⟩ := h.rowU; exact ⟨c, t, (hk _ h.lt_aU (by simp)).trans hc⟩
    rowS := by obtain ⟨c, t, hc⟩ := h.rowS; exact ⟨c, t, (hk _ h.lt_aS (by simp)).trans hc⟩
    ltU := Nat.lt_of_lt_of_le h.ltU hm.size
    ltS := Nat.lt_of_lt_of_le h.ltS hm.size }

/-- What next answers. -/
def nextV (aU : Addr) (l : List UInt8) : Value :=
  match decL l with
  | some (r, n) => .tuple #[.int .i64 (r : Nat), .int .i64 (n : Nat), .nilIface]
  | none => .tuple #[.int .i64 0, .int .i64 0, errV aU]
def NextPost (p : Nat) (s : ByteArray) (mb : Option Nat) (aU : Addr) (w : World) (e : Ending) (w' : World) : Prop :=
  e = .returned (nextV aU s.data.toList) ∧ Rd w' p s mb ∧ Moves (fun k => mb = some k) w w'

theorem nextV_none {aU : Addr} {l : List UInt8} (h : decL l = none) : nextV aU l = .tuple #[.int .i64 0, .int .i64 0, errV aU] := by
  unfold nextV; rw [h]

theorem nextV_some {aU : Addr} {l : List UInt8} {r n : Nat} (h : decL l = some (r, n)) : nextV aU l = .tuple #[.int .i64 (r : Nat), .int .i64 (n : Nat), .nilIface] := by
  unfold nextV; rw [h]

set_option maxHeartbeats 400000 in
theorem next_end (p : Nat) (s : ByteArray) (mb : Option Nat) (w : World) (h : Rd w p s mb) (aU aS : Addr) (hG : Glob w aU aS) (hs : s.size = 0) :
    Calls Tryd.prog 54 #[.pointer (some ⟨p, 0, none⟩)] w (NextPost p s mb aU w) := by
  have c0 := h.cell0
  have hp := h.lt
  have hu := hG.utf
  have hltu := hG.ltU
  have e0 : (((s.size : Nat) : Int) == 0) = true := by rw [hs]; rfl
  have hd : decL s.data.toList = none := by
    have : s.data.toList = [] := List.eq_nil_of_length_eq_zero (by simpa using hs)
    rw [this]; rfl
  have HD := Lib.hid hd
  clear hs hd
  go_enter Tryd.func54, Tryd.ntmps54
  go_wp2_with fail
  refine wp_scope_forth 0 (by simp [findLabel]; rfl) ?_
  go_wp2_with (go_at_call 56; refine (left_any p s _ (h.below ((Below.refl _ _).alloc (Nat.le_refl _) _)).cell0).mono ?_; rintro e w' ⟨rfl, rfl⟩)
  refine wp_goto ?_
  simp only [Exit.then]
  show Exit.jump _ _ _ _ _ _
  simp only [Exit.jump, true_and]
  go_wp2
  go_region
  all_goals
    go_wp2
    rw [Exit.noGoto_ret]
    go_ret3
    refine ⟨?_, h.below ((Below.refl _ _).alloc (Nat.le_refl _) _).drew, Moves.of_below ((Below.refl _ _).alloc (Nat.le_refl _) _).drew⟩
    rw [nextV_none HD.out]
    rfl

theorem head_is (p : Nat) (s : ByteArray) (n : Nat) (w : World) (hc : w.cell? ⟨p, 0, none⟩ = some (.string s)) {bs : List UInt8} {len : Nat} (hb : s.data.toList.take n = bs) (hl : bs.length = len) :
    Calls Tryd.prog 70 #[.pointer (some ⟨p, 0, none⟩), .int .i64 (n : Nat)] w fun e w' => ∃ g cap, e = .returned (.slice (some ⟨g, 0, none⟩) len cap) ∧
      (∀ i, i < bs.length → w'.cell? ⟨g, i, none⟩ = some (.int .u8 ((bs.getD i 0).toNat : Nat))) ∧ Below w.heap.size w w' := by
  subst hb
  subst hl
  exact (head_any p s n w hc).mono fun e w' h => by
    obtain ⟨⟨v, he, g, cap, hv, hc⟩, hb⟩ := h
    exact ⟨g, cap, by rw [he, hv], hc, hb⟩
theorem fits_is (k : Nat) {bs : List UInt8} {len : Nat} (hl : bs.length = len) (h4 : bs.length ≤ 4) (g cap : Nat) (w : World) (hc : ∀ i, i < bs.length → w.cell? ⟨g, i, none⟩ = some (.int .u8 ((bs.getD i 0).toNat : Nat))) {r : Bool} (hr : fitsB k bs = r) :
    Calls Tryd.prog 71 #[rowV k, .slice (some ⟨g, 0, none⟩) len cap] w fun e w' => e = .returned (.bool r) ∧ Below w.heap.size w w' := by
  subst hl
  subst hr
  exact fits_any k bs g cap w hc h4
theorem join_is (k : Nat) {bs : List UInt8} {len : Nat} (hl : bs.length = len) (h4 : bs.length ≤ 4) (g cap : Nat) (w : World) (hc : ∀ i, i < bs.length → w.cell? ⟨g, i, none⟩ = some (.int .u8 ((bs.getD i 0).toNat : Nat))) (hk : k < 9) (hf : fitsB k bs = true) {r : Nat} (hr : joinB k bs = r) :
    Calls Tryd.prog 72 #[rowV k, .slice (some ⟨g, 0, none⟩) len cap] w fun e w' => e = .returned (.int .i64 (r : Nat)) ∧ Below w.heap.size w w' := by
  subst hl
  subst hr
  exact join_any k bs g cap w hc h4 hk hf
theorem cells_below {w w' : World} {g : Nat} {bs : List UInt8} (hc : ∀ i, i < bs.length → w.cell? ⟨g, i, none⟩ = some (.int .u8 ((bs.getD i 0).toNat : Nat))) (hb : Below w.heap.size w w') :
    ∀ i, i < bs.length → w'.cell? ⟨g, i, none⟩ = some (.int .u8 ((bs.getD i 0).toNat : Nat)) := fun i hi =>
  (hb.cell (p := ⟨g, i, none⟩) (block_lt_of_cell (hc i hi))).trans (hc i hi)
/-- What a text begins with, told by its first byte. -/
theorem decL_more {s : ByteArray} (hs : 0 < s.size) {k : Nat} (hk : rowIx s[0].toNat = k) {bs : List UInt8} (hb : s.data.toList.take (sz k) = bs) :
    decL s.data.toList = if k < 9 ∧ fitsB k bs = true then some (joinB k bs, sz k) else none := by
  have he : s.data.toList = s[0] :: s.data.toList.tail := by
    have h0 : s.data.toList ≠ [] := by
      intro e
      have h1 : s.data.toList.length = 0 := by rw [e]; rfl
      have h2 : s.data.toList.length = s.size := by simp
      omega
    obtain ⟨a, t, ht⟩ := List.exists_cons_of_ne_nil h0
    have ha : s[0] = a := by
      have : s.data.toList[0]? = some a := by rw [ht]; rfl
      rw [Array.getElem?_toList, Array.getElem?_eq_getElem (by simpa using hs)] at this
      exact Option.some.inj this
    rw [ht, ha]; rfl
  subst hk
  subst hb
  generalize s.data.toList = l at *
  rw [he]
  rfl

/-- What the walk knows from when the row has been found and stored in its variable, block q. -/
structure Mid (w w3 : World) (q p : Nat) (s : ByteArray) (mb : Option Nat) (k : Nat) (aU aS : Addr) : Prop where
  rd : Rd w3 p s mb
  mv : Moves (fun j => mb = some j) w w3
  row : w3.heap[q]? = some (.cells (rowV k).cells 92 (0, 0))
  gl : Glob w3 aU aS
theorem Mid.below {w w3 w4 : World} {q p : Nat} {s : ByteArray} {mb : Option Nat} {k : Nat} {aU aS : Addr} (h : Mid w w3 q p s mb k aU aS) (hb : Below w3.heap.size w3 w4) : Mid w w4 q p s mb k aU aS :=
  ⟨h.rd.below hb, h.mv.trans (Moves.of_below hb), (hb.block _ (Array.getElem?_eq_some_iff.1 h.row).1).trans h.row, h.gl.below hb⟩
theorem Mid.drew {w w3 : World} {q p : Nat} {s : ByteArray} {mb : Option Nat} {k : Nat} {aU aS : Addr} (h : Mid w w3 q p s mb k aU aS) : Mid w w3.drew q p s mb k aU aS :=
  h.below (Below.refl _ _).drew
theorem mid_of {w w3 : World} {p : Nat} {s : ByteArray} {mb : Option Nat} {k : Nat} {aU aS : Addr} (h : Rd w p s mb) (hG : Glob w aU aS) (h3 : Rd w3 p s mb) (hm : Moves (fun j => mb = some j) (w.alloc (.cells zeroC 92)) w3) :
    Mid w (w3.setRow w.heap.size (rowV k).cells) w.heap.size p s mb k aU aS ∧ w3.heap[w.heap.size]? = some (.cells zeroC 92 (0, 0)) := by
  have hq : w3.heap[w.heap.size]? = some (.cells zeroC 92 (0, 0)) := (hm.block _ (by simp) (fun e => by subst e; have := h.ltm; omega)).trans (heap_alloc_new _ _)
  have hmw : Moves (fun j => mb = some j) w w3 := (Moves.of_below ((Below.refl _ _).alloc (Nat.le_refl _) _)).trans hm
  have hp := h.lt
  have h4 : Rd (w3.setRow w.heap.size (rowV k).cells) p s mb := h3.keep (setRow_other _ _ _ _ (by omega)) fun m e => setRow_other _ _ _ _ (by subst e; have := h.ltm; omega)
  have hm4 : Moves (fun j => mb = some j) w (w3.setRow w.heap.size (rowV k).cells) := moves_setRow hmw (Nat.le_refl _)
  exact ⟨⟨h4, hm4, setRow_heap _ _ _ _ _ _ hq, hG.moves h hm4⟩, hq⟩

set_option maxHeartbeats 1000000 in
theorem next_more (p : Nat) (s : ByteArray) (mb : Option Nat) (w : World) (h : Rd w p s mb) (aU aS : Addr) (hG : Glob w aU aS) (hs : 0 < s.size) :
    Calls Tryd.prog 54 #[.pointer (some ⟨p, 0, none⟩)] w (NextPost p s mb aU w) := by
  have c0 := h.cell0
  have hp := h.lt
  have e0 : (((s.size : Nat) : Int) == 0) = false := by simpa using Nat.ne_of_gt hs
  go_enter Tryd.func54, Tryd.ntmps54
  go_wp2_with fail
  refine wp_scope_forth 0 (by simp [findLabel]; rfl) ?_
  go_wp2_with (go_at_call 56; refine (left_any p s _ (h.below ((Below.refl _ _).alloc (Nat.le_refl _) _)).cell0).mono ?_; rintro e w' ⟨rfl, rfl⟩)
  refine (row_any p s mb _ _ (h.below ((Below.refl _ _).alloc (Nat.le_refl _) _))).mono ?_
  rintro e w3 ⟨rfl, h3, hm3⟩
  generalize hk : rowIx s[0].toNat = k
  obtain ⟨hmid, hq⟩ := mid_of (k := k) (aU := aU) (aS := aS) h hG h3 hm3
  obtain ⟨w4, hw4⟩ : ∃ w4, w3.setRow w.heap.size (rowV k).cells = w4 := ⟨_, rfl⟩
  rw [hw4] at hmid
  obtain ⟨d0, d1, d2, d3, d4, d5⟩ := six hmid.row
  have c4 := hmid.rd.cell0
  obtain ⟨bs, hbs⟩ : ∃ bs, s.data.toList.take (sz k) = bs := ⟨_, rfl⟩
  obtain ⟨len, hlen⟩ : ∃ n, bs.length = n := ⟨_, rfl⟩
  have hl4 : bs.length ≤ 4 := by
    have := sz_le k
    rw [← hbs, List.length_take]
    omega
  have hD := decL_more hs hk hbs
  have HD := Lib.hid hD
  have HL4 := Lib.hid hl4
  have HLEN := Lib.hid hlen
  have HBS := Lib.hid hbs
  have HK := Lib.hid hk
  have HQ := Lib.hid hq
  have HW4 := Lib.hid hw4
  clear hk hq hw4 hm3 h3 c0 hbs hlen hl4 hD
  go_wp2_with (refine store_row rfl (.tmp 5) _ rfl w.heap.size k rfl rfl rfl HQ.out HW4.out ?_)
  go_region_with (go_at_call 70; refine Calls.mono (head_is p s (sz k) _ (by exact c4) HBS.out HLEN.out) ?_; rintro e w5 ⟨g, cap, rfl, hc5, hb5⟩)
  have hm5 := hmid.drew.below hb5
  have HC5 := Lib.hid hc5
  clear hb5 hmid c4 d0 d1 d2 d3 d4 d5 hc5
  obtain ⟨d0, d1, d2, d3, d4, d5⟩ := six hm5.row
  by_cases hk9 : k < 9
  · have he := eq_row hk9
    cases hf : fitsB k bs
    · have HF := Lib.hid hf
      have HDN : Hid (decL s.data.toList = none) := by rw [HD.out, hf]; exact Lib.hid (by simp)
      clear hf HD
      go_wp2_with (go_at_call 71; refine (fits_is k HLEN.out HL4.out g cap _ HC5.out HF.out).mono ?_; rintro e w6 ⟨rfl, hb6⟩)
      have hm6 := hm5.below hb6
      have hu := hm6.gl.utf
      clear d0 d1 d2 d3 d4 d5
      refine wp_goto ?_
      simp only [Exit.then]
      show Exit.jump _ _ _ _ _ _
      simp only [Exit.jump, true_and]
      go_wp2
      go_region
      all_goals
        go_wp2
        rw [Exit.noGoto_ret]
        go_ret3
        refine ⟨?_, hm6.drew.rd, hm6.drew.mv⟩
        rw [nextV_none HDN.out]
        rfl
    · have HF := Lib.hid hf
      have HDN : Hid (decL s.data.toList = some (joinB k bs, sz k)) := by rw [HD.out, hf]; exact Lib.hid (by simp [hk9])
      clear hf HD
      generalize hj : joinB k bs = r at HDN
      have HJ := Lib.hid hj
      clear hj
      go_wp2_with (go_at_call 71; refine (fits_is k HLEN.out HL4.out g cap _ HC5.out HF.out).mono ?_; rintro e w6 ⟨rfl, hb6⟩)
      have hm6 := hm5.below hb6
      have HC6 := Lib.hid (cells_below HC5.out hb6)
      clear d0 d1 d2 d3 d4 d5 hb6
      obtain ⟨d0, d1, d2, d3, d4, d5⟩ := six hm6.row
      go_region_with (go_at_call 72; refine Calls.mono (join_is k HLEN.out HL4.out g cap _ (by exact HC6.out) hk9 HF.out HJ.out) ?_; rintro e w7 ⟨rfl, hb7⟩; have hm7 := hm6.drew.below hb7; have j1 := (six hm7.row).2.1; have j0 := (six hm7.row).1)
      all_goals
        go_wp2
        show Exit.jump _ _ _ _ _ _
        simp only [Exit.jump]
        go_ret3
        refine ⟨?_, hm7.rd, hm7.mv⟩
        rw [nextV_some HDN.out]
        rfl
  · have hk : k = 9 := by have := rowIx_le s[0].toNat; rw [HK.out] at this; omega
    have he : ∀ w, (binOp .eql 92 (rowV k) zeroV).run Tryd.prog w = .ok (.bool true) w := by
      rw [hk]
      exact eq_zero
    have HDN : Hid (decL s.data.toList = none) := by rw [HD.out]; exact Lib.hid (by simp [hk9])
    clear hk hk9 HD
    go_wp2
    have hm6 := hm5
    have hu := hm6.gl.utf
    clear d0 d1 d2 d3 d4 d5
    refine wp_goto ?_
    simp only [Exit.then]
    show Exit.jump _ _ _ _ _ _
    simp only [Exit.jump, true_and]
    go_wp2
    go_region
    all_goals
      go_wp2
      rw [Exit.noGoto_ret]
      go_ret3
      refine ⟨?_, hm6.drew.rd, hm6.drew.mv⟩
      rw [nextV_none HDN.out]
      rfl

theorem next_any (p : Nat) (s : ByteArray) (mb : Option Nat) (w : World) (h : Rd w p s mb) (aU aS : Addr) (hG : Glob w aU aS) :
    Calls Tryd.prog 54 #[.pointer (some ⟨p, 0, none⟩)] w (NextPost p s mb aU w) := by
  rcases Nat.eq_zero_or_pos s.size with h0 | h0
  · exact next_end p s mb w h aU aS hG h0
  · exact next_more p s mb w h aU aS hG h0
end Go.Proofs.YtcdgmamlmapbcaaDoor
