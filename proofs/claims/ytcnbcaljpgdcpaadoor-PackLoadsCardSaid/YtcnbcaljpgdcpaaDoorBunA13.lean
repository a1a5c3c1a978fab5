/- blocks: the blocks taken off. opened: what stands between the mark and the sum. put, putNumber: bytes behind those that a box holds. putNumber, putRuns. A pack's block as a map's key; what is known of blocks; the writer. -/
import Derived.Test.YtcnbcaljpgdcpaaDoorBunA12
import Derived.Test.YtcnbcaljpgdcpaaDoorShelf
import Derived.Deep.RegionHeld3
import Derived.Test.YtcnbcaljpgdcpaaDoorBunA10
import Derived.Test.YtcnbcaljpgdcpaaDoorBunA8
import Derived.Test.YtcnbcaljpgdcpaaDoorBunA11
namespace Go.Proofs.YtcnbcaljpgdcpaaDoor
open Go.RowKit Go.Shelf Go.Maps
attribute [local go_sem] Oper.semAt_some
attribute [local go_sem ↓] app_hide

/-- Blocks' slices, each of a row that was laid since. -/
def BlkO (w W : World) (cs : List Value) (bs : List (List Int)) : Prop := ∀ (j : Nat) (b : List Int), bs[j]? = some b → ∃ so sc, cs[j]? = some (.slice so 256 sc) ∧ 256 ≤ sc ∧ b.length = 256 ∧ IntsT W so b ∧ ∀ k, inB so k → w.heap.size ≤ k ∧ ∃ cur, W.heap[k]? = some (.cells cur 3 (0, 0))
theorem IntsT.turn {S : Nat → Prop} {w w' : World} {o : Option Addr} {l : List Int} (h : IntsT w o l) (hm : Moves S w w') (hs : ∀ k, inB o k → ¬ S k) : IntsT w' o l := fun hn => by
  obtain ⟨g, off, rfl, hc⟩ := h hn
  have hg : ¬ S g := hs g ⟨_, rfl, rfl⟩
  exact ⟨g, off, rfl, fun j x hx => cell_moves hm hg (hc j x hx)⟩
theorem BlkO.turn {S : Nat → Prop} {w W W' : World} {cs : List Value} {bs : List (List Int)} (h : BlkO w W cs bs) (hm : Moves S W W') (hs : ∀ k, S k → w.heap.size ≤ k → ¬ ∃ cur, W.heap[k]? = some (.cells cur 3 (0, 0))) : BlkO w W' cs bs := fun j b hj => by
  obtain ⟨so, sc, h1, h2, h3, h4, h5⟩ := h j b hj
  have h6 : ∀ k, inB so k → ¬ S k := fun k hk hS => hs k hS (h5 k hk).1 (h5 k hk).2
  exact ⟨so, sc, h1, h2, h3, h4.turn hm h6, fun k hk => ⟨(h5 k hk).1, by obtain ⟨cur, h7⟩ := (h5 k hk).2; exact ⟨cur, row_keep h7 hm (h6 k hk)⟩⟩⟩
theorem infoIntsA : (Tryd.prog.info? 22).map (fun i => (i.zero, i.size, i.bytes)) = some (some (.slice none 0 0), 1, 24) := by kernel_rfl
theorem blk_push {w W : World} {base n : Nat} {o : Option Addr} {c : Nat} {cs : List Value} {bs : List (List Int)} {b : List Int} {so : Option Addr} {sc : Nat} (ho : W.ownsRow base 22 1 (.slice o n c) n cs) (hb : BlkO w W cs bs) (hn : bs.length = n) (hbase : base ≤ W.heap.size) (hn2 : n ≤ 1000000) (hw : w.heap.size ≤ base)
    (hl : b.length = 256) (hsc : 256 ≤ sc) (hi : IntsT W so b) (hso : ∀ k, inB so k → w.heap.size ≤ k ∧ ∃ cur, W.heap[k]? = some (.cells cur 3 (0, 0))) :
    ∃ o' c' w6, (appSem #[23, 23] 23 #[.slice o n c, .slice (some ⟨W.heap.size, 0, none⟩) 1 1]).run Tryd.prog (W.alloc (.cells #[.slice so 256 sc] 22)) = .ok (.slice o' (n + 1) c') w6 ∧ Hid (∃ cs', w6.ownsRow base 22 1 (.slice o' (n + 1) c') (n + 1) cs' ∧ BlkO w w6 cs' (bs ++ [b]) ∧ Below w.heap.size W w6 ∧ Moves (fun k => w.heap.size ≤ k) W w6) := by
  obtain ⟨i0, hi0, hz0, hz1, hz2⟩ := info_parts infoIntsA
  have a1 : Below W.heap.size W (W.alloc (.cells #[.slice so 256 sc] 22)) := (Below.refl _ _).alloc (Nat.le_refl _) _
  obtain ⟨v', w6, hr, h2, h3, h4, h5⟩ := run_append_own_at (P := Tryd.prog) (W.alloc (.cells #[.slice so 256 sc] 22)) base 23 23 22 i0 (.slice none 0 0) 1 24 Tryd.underlying23 hi0 hz0 hz1 hz2 rfl (by decide) (.slice o n c) n cs (own_below ho a1) ⟨W.heap.size, 0, none⟩ 1 1 [.slice so 256 sc] rfl
    (cell_one_new _ _ _) (by simp [Value.oneCell']) (by unfold maxLen; omega) (by omega) (by have := a1.size; omega)
  obtain ⟨o', c', rfl⟩ := own_form h2
  have m6 : Moves (fun k => inB o k) W w6 := (Moves.of_below a1).trans ⟨h3.os, h3.tape, h3.output, h3.size, fun k hk hs => h3.block k hk fun e => hs (own_inU e.symm)⟩
  have hob : ∀ k, inB o k → base ≤ k ∧ ∃ cur, W.heap[k]? = some (.cells cur 22 (0, 0)) := fun k hk => by
    obtain ⟨a, rfl, rfl⟩ := hk
    obtain ⟨cur, h6, h7⟩ := own_rowT ho (show (Value.slice (some a) n c).ownBlock = some a.block from rfl)
    exact ⟨h7, cur, h6⟩
  have hne : ∀ k, inB o k → ¬ ∃ cur, W.heap[k]? = some (.cells cur 3 (0, 0)) := fun k hk ⟨cur2, h9⟩ => by
    obtain ⟨_, cur, h8⟩ := hob k hk
    rw [h8] at h9
    injection h9 with h9
    injection h9 with _ h10 _
    exact absurd h10 (by decide)
  have hcl : cs.length = n := by have := ho.1; omega
  refine ⟨o', c', w6, hr, Lib.hid ⟨cs ++ [.slice so 256 sc], h2, fun j x hj => ?_, Moves.below (Below.refl _ _) (by have := a1.size; omega) m6 (fun k hk => by have := (hob k hk).1; omega), m6.mono fun k hk => by have := (hob k hk).1; omega⟩⟩
  rcases Nat.lt_or_ge j n with hlt | hge
  · rw [List.getElem?_append_left (by omega)] at hj
    obtain ⟨so2, sc2, g1, g2⟩ := (hb.turn m6 (fun k hk _ => hne k hk)) j x hj
    exact ⟨so2, sc2, by rw [List.getElem?_append_left (by omega)]; exact g1, g2⟩
  · rw [List.getElem?_append_right (by omega)] at hj
    have h0 : j - bs.length = 0 := by have := (List.getElem?_eq_some_iff.1 hj).1; simp at this; omega
    rw [h0] at hj
    cases hj
    have h6 : ∀ k, inB so k → ¬ inB o k := fun k hk h => hne k h (hso k hk).2
    exact ⟨so, sc, by rw [List.getElem?_append_right (by omega), show j - cs.length = 0 by omega]; rfl, hsc, hl, hi.turn m6 h6, fun k hk => ⟨(hso k hk).1, by obtain ⟨cur, h7⟩ := (hso k hk).2; exact ⟨cur, row_keep h7 m6 (h6 k hk)⟩⟩⟩
theorem blksT_own {w W : World} {base : Nat} {o : Option Addr} {c : Nat} {cs : List Value} {bs : List (List Int)} (ho : W.ownsRow base 22 1 (.slice o bs.length c) bs.length cs) (hb : BlkO w W cs bs) : BlksT W o bs := fun hn => by
  rcases ho.2 with ⟨_, h0⟩ | ⟨g, cap', cur, e, _, hg, _, _, _, htake⟩
  · omega
  · obtain ⟨rfl, rfl⟩ : o = some ⟨g, 0, none⟩ ∧ c = cap' := by simpa using e
    refine ⟨g, 0, rfl, fun j b hj => ?_⟩
    obtain ⟨so, sc, h1, h2, h3, h4, _⟩ := hb j b hj
    refine ⟨so, sc, ?_, by omega, h4⟩
    rw [Nat.zero_add, cell_of_row _ _ j _ _ _ hg, h3]
    rw [← htake, List.getElem?_take] at h1
    split at h1
    · rwa [Array.getElem?_toList] at h1
    · cases h1
/-- What is read of the blocks. -/
def getBl (l : List UInt8) : Option (List (List Int) × List UInt8) := if valB 2 l > 300 then none else getBs (valB 2 l) (l.drop 2)
/-- What blocks answers. -/
def BlocksQ (B : Nat) (l : List UInt8) (w : World) (e : Ending) (w' : World) : Prop := Moves (fun k => k = B) w w' ∧ ∃ s : ByteArray, LeftAt w' B s ∧ s.size ≤ l.length ∧
  match getBl l with
  | none => ∃ part, e = .returned (.tuple #[.slice none 0 0, faultW part 60])
  | some p => ∃ bo c, e = .returned (.tuple #[.slice bo p.1.length c, .nilIface]) ∧ p.1.length ≤ 300 ∧ (∀ b ∈ p.1, b.length = 256) ∧ (∀ W', Moves (fun k => k < w.heap.size) w' W' → BlksT W' bo p.1) ∧ s.data.toList = p.2
theorem getBs_snoc : ∀ (n : Nat) {l : List UInt8} {bs : List (List Int)} {r : List UInt8}, getBs n l = some (bs, r) → ∀ {b : List Int} {r' : List UInt8}, getN 1 256 r = some (b, r') → getBs (n + 1) l = some (bs ++ [b], r')
  | 0, l, bs, r, h, b, r', h2 => by
    cases h
    simp [getBs, h2]
  | n + 1, l, bs, r, h, b, r', h2 => by
    unfold getBs at h
    split at h
    · cases h
    · rename_i p hp
      cases hq : getBs n p.2 with
      | none => rw [hq] at h; cases h
      | some q =>
        rw [hq] at h
        cases h
        have := getBs_snoc n hq h2
        rw [getBs, hp]
        simp [this]
theorem getBs_stop : ∀ (n : Nat) {l : List UInt8} {bs : List (List Int)} {r : List UInt8} (m : Nat), getBs n l = some (bs, r) → getN 1 256 r = none → n < m → getBs m l = none
  | 0, l, bs, r, 0, h, h2, hm => by omega
  | 0, l, bs, r, m + 1, h, h2, hm => by
    cases h
    simp [getBs, h2]
  | n + 1, l, bs, r, 0, h, h2, hm => by omega
  | n + 1, l, bs, r, m + 1, h, h2, hm => by
    unfold getBs at h
    split at h
    · cases h
    · rename_i p hp
      cases hq : getBs n p.2 with
      | none => rw [hq] at h; cases h
      | some q =>
        rw [hq] at h
        cases h
        have := getBs_stop n m hq h2 (by omega)
        rw [getBs, hp]
        simp [this]
set_option maxRecDepth 100000 in
set_option maxHeartbeats 4000000 in
theorem blocks_any (B : Nat) (s0 : ByteArray) (h2 : 2 ≤ s0.size) (hs0 : s0.size ≤ 700000) (w : World) (hB : LeftAt w B s0) :
    Calls Tryd.prog 56 #[.pointer (some ⟨B, 0, none⟩)] w (BlocksQ B s0.data.toList w) := by
  obtain ⟨P, hP⟩ : ∃ P, BlocksQ B s0.data.toList w = P := ⟨_, rfl⟩
  have HP := Lib.hid hP
  rw [hP]
  have HN := Lib.hid (num_two s0 w hB h2 (by omega))
  obtain ⟨l, hl⟩ : ∃ l, s0.data.toList = l := ⟨_, rfl⟩
  rw [hl] at HN HP
  obtain ⟨n, hn⟩ : ∃ n, valB 2 l = n := ⟨_, rfl⟩
  rw [hn] at HN
  obtain ⟨w1, hw1⟩ : ∃ w1, w.setCell ⟨B, 0, none⟩ (.string (s0.extract 2 s0.size)) = w1 := ⟨_, rfl⟩
  rw [hw1] at HN
  obtain ⟨s1, hs1⟩ : ∃ s1, s0.extract 2 s0.size = s1 := ⟨_, rfl⟩
  have hd1 : s1.data.toList = l.drop 2 := by rw [← hs1, drop_toList, hl]
  have hL1 : LeftAt w1 B s1 := by rw [← hw1, hs1]; exact hB.set s1
  have lB := (Array.getElem?_eq_some_iff.1 hB).1
  have hz1 : s1.size ≤ l.length := by rw [size_list, hd1, List.length_drop]; omega
  have hz0 : l.length ≤ 700000 := by rw [← hl, ← size_list]; exact hs0
  have m1 : Moves (fun k => k = B) w w1 := by rw [← hw1]; exact Moves.setCell rfl
  have hnb : n < 65536 := by rw [← hn]; exact valB_lt (.inr rfl) l
  have HN2 := Lib.hid hn
  have HM1 := Lib.hid m1
  have HL1 := Lib.hid hL1
  have HD1 := Lib.hid hd1
  clear hP hB hl hn hw1 hs1 hd1 hL1 m1 hs0
  go_enter Tryd.func56, Tryd.ntmps56
  go_wp2_with fail
  refine HN.out.mono ?_
  rintro e w1' ⟨rfl, rfl⟩
  rcases Nat.lt_or_ge 300 n with hgt | hle
  · have hgt2 : ((n : Nat) : Int) > 300 := by omega
    have HPP : Hid (∀ part, P (.returned (.tuple #[.slice none 0 0, faultW part 60])) w1) := by
      rw [← HP.out]
      refine Lib.hid fun part => ⟨HM1.out, s1, HL1.out, hz1, ?_⟩
      unfold getBl
      rw [if_pos (by rw [HN2.out]; exact hgt)]
      exact ⟨part, rfl⟩
    clear HN
    go_wp2_with fail
    refine (inA_any _ _ _).mono ?_
    rintro e w2 ⟨rfl, rfl⟩
    go_wp2
    exact HPP.out _
  · have hgt2 : ¬ ((n : Nat) : Int) > 300 := by omega
    obtain ⟨i0, hi0, hy0, hy1, hy2⟩ := info_parts infoIntsA
    obtain ⟨w2, hmk, hown, hgr⟩ := run_makeSlice_owned (P := Tryd.prog) w1 w1.heap.size 23 22 i0 (.slice none 0 0) 1 Tryd.underlying23 hi0 hy0 hy1 .i64 .i64 n (by omega) (by rw [hy2]; omega) (by unfold maxLen; omega) (Nat.le_refl _)
    have b2 : Below w1.heap.size w1 w2 := ⟨hgr.os, hgr.tape, hgr.output, hgr.size, fun k hk => hgr.block k hk (by simp)⟩
    have HI0 : Hid (∃ cs, w2.ownsRow w1.heap.size 22 1 (.slice (some ⟨w1.heap.size, 0, none⟩) 0 n) 0 cs ∧ BlkO w1 w2 cs [] ∧ Moves (fun k => k = B) w w2 ∧ w1.heap.size ≤ w2.heap.size ∧ LeftAt w2 B s1 ∧ s1.size ≤ l.length ∧ getBs 0 (l.drop 2) = some ([], s1.data.toList)) :=
      Lib.hid ⟨[], hown, fun j b hj => by simp at hj, HM1.out.trans (Moves.of_below b2), b2.size, row_below HL1.out b2, hz1, by rw [HD1.out]; rfl⟩
    have HB1 := Lib.hid (show B < w1.heap.size from (Array.getElem?_eq_some_iff.1 HL1.out).1)
    clear hown hgr b2 HN hi0 hy0 hy1 hy2 hz1
    go_wp2_with fail
    go_loopg [5, 18] n (fun q v5 v18 wr => ∃ (j : Nat) (o : Option Addr) (c : Nat) (bs : List (List Int)) (s : ByteArray), v18 = .int .i64 (j : Nat) ∧ v5 = .slice o j c ∧ j ≤ n ∧ q = n - j ∧ bs.length = j ∧ Hid (∃ cs, wr.ownsRow w1.heap.size 22 1 (.slice o j c) j cs ∧ BlkO w1 wr cs bs ∧ Moves (fun k => k = B) w wr ∧ w1.heap.size ≤ wr.heap.size ∧ LeftAt wr B s ∧ s.size ≤ l.length ∧ getBs j (l.drop 2) = some (bs, s.data.toList)))
    case atStart => exact ⟨0, _, _, [], s1, rfl, rfl, Nat.zero_le _, rfl, rfl, HI0⟩
    case round =>
      obtain ⟨j, o, c, bs, s, rfl, rfl, hj, rfl, hbl, HI⟩ := hrel
      obtain ⟨cs, hown, hblk, hmv, hzr, hleft, hsz, hget⟩ := HI.out
      rcases Nat.lt_or_ge j n with hlt | hge
      · have hj1 : j < 1000000 := by omega
        have HC := Lib.hid (numbers_any (.inl rfl) B 256 ⟨#[98, 108, 111, 99, 107]⟩ s (by omega) (by omega) (by omega) wr hleft)
        clear hown hblk hmv hzr hleft hsz hget
        go_wp2_with fail
        refine HC.out.mono ?_
        rintro e w3 ⟨hm3, s3, hl3, hz3, hres⟩
        obtain ⟨cs, hown, hblk, hmv, hzr, hleft, hsz, hget⟩ := HI.out
        cases hgn : getN 1 256 s.data.toList with
        | none =>
          rw [hgn] at hres
          obtain ⟨part, rfl⟩ := hres
          have HPP : Hid (P (.returned (.tuple #[.slice none 0 0, faultW part 60])) w3) := by
            rw [← HP.out]
            refine Lib.hid ⟨hmv.trans hm3, s3, hl3, by rw [← size_list] at hz3; omega, ?_⟩
            unfold getBl
            rw [HN2.out, if_neg (by omega), getBs_stop j n hget hgn hlt]
            exact ⟨part, rfl⟩
          clear hown hblk hmv hzr hleft hsz hget hm3 hl3 hz3 hgn HC HI HI0
          go_wp2
          exact HPP.out
        | some p =>
          rw [hgn] at hres
          obtain ⟨so, sc, rfl, hsc, hpl, hints, hd3, hso⟩ := hres
          have hB3 := HB1.out
          have hown3 := own_moves1N hown hm3 (fun k hk e => by obtain ⟨_, _, h⟩ := own_rowT hown hk; omega)
          have hblk3 := hblk.turn hm3 (fun k hk hw => by omega)
          have hz3' := hm3.size
          obtain ⟨o', c', w6, hr6, hpush⟩ := blk_push (w := w1) hown3 hblk3 hbl (by omega) (by omega) (Nat.le_refl _) hpl hsc hints (fun k hk => ⟨by have := (hso k hk).1; omega, (hso k hk).2⟩)
          have HI6 : Hid (∃ cs, w6.ownsRow w1.heap.size 22 1 (.slice o' (j + 1) c') (j + 1) cs ∧ BlkO w1 w6 cs (bs ++ [p.1]) ∧ Moves (fun k => k = B) w w6 ∧ w1.heap.size ≤ w6.heap.size ∧ LeftAt w6 B s3 ∧ s3.size ≤ l.length ∧ getBs (j + 1) (l.drop 2) = some (bs ++ [p.1], s3.data.toList)) := by
            obtain ⟨cs', g1, g2, g3, g4⟩ := hpush.out
            have m36 : Moves (fun k => k = B) w w6 := by
              have m13 := hmv.trans hm3
              refine ⟨g4.os.trans m13.os, g4.tape.trans m13.tape, g4.output.trans m13.output, Nat.le_trans m13.size g4.size, fun k hk hs => (g4.block k (Nat.lt_of_lt_of_le hk m13.size) (fun h => ?_)).trans (m13.block k hk hs)⟩
              have := HM1.out.size
              omega
            exact Lib.hid ⟨cs', g1, g2, m36, by have := g4.size; omega, row_keep hl3 g4 (by omega), by rw [← size_list] at hz3; omega, by rw [hd3]; exact getBs_snoc j hget hgn⟩
          have hbl6 : (bs ++ [p.1]).length = j + 1 := by simp [hbl]
          clear hown hblk hmv hzr hleft hsz hget hm3 hl3 hz3 hgn HC HI HI0 hpl hints hd3 hso hown3 hblk3 hz3' hpush
          go_wp2
          go_roundg (n - (j + 1))
          case measure => omega
          case rel => exact ⟨j + 1, o', c', bs ++ [p.1], s3, by simp, rfl, by omega, rfl, hbl6, HI6⟩
      · obtain rfl : j = n := by omega
        have HPP : Hid (P (.returned (.tuple #[.slice o j c, .nilIface])) wr) := by
          rw [← HP.out]
          refine Lib.hid ⟨hmv, s, hleft, hsz, ?_⟩
          unfold getBl
          rw [HN2.out, if_neg (by omega), hget]
          refine ⟨o, c, by rw [hbl], by simp only; omega, fun b hb => ?_, fun W' hm => ?_, rfl⟩
          rotate_left 1
          · have hz1 := HM1.out.size
            exact blksT_own (base := w1.heap.size) (by rw [hbl]; exact own_moves1N hown hm (fun k hk hs => by obtain ⟨_, _, h⟩ := own_rowT hown hk; omega)) (hblk.turn hm (fun k hk hw => by omega))
          obtain ⟨i, hi⟩ := List.mem_iff_getElem?.1 hb
          exact (hblk i b hi).choose_spec.choose_spec.2.2.1
        clear hown hblk hmv hzr hleft hsz hget HI HI0
        go_wp2
        exact HPP.out
end Go.Proofs.YtcnbcaljpgdcpaaDoor

namespace Go.Proofs.YtcnbcaljpgdcpaaDoor
open Go.RowKit Go.Shelf Go.Maps
attribute [local go_sem] Oper.semAt_some

/-- What opened answers. -/
def OpenQ (l : List UInt8) (w : World) (e : Ending) (w' : World) : Prop := Below w.heap.size w w' ∧ ((headE l = 0 ∧ ∃ s : ByteArray, e = .returned (.tuple #[.agg #[.string s], .nilIface]) ∧ s.data.toList = (l.take (l.length - 2)).drop 3) ∨ (headE l ≠ 0 ∧ ∃ part, e = .returned (.tuple #[.agg #[.string ⟨#[]⟩], faultW part (headE l)])))
theorem hasP_eq (l : List UInt8) : Lib.hasPrefix l [86, 84, 49] = decide (l.take 3 = markB) := by
  unfold Lib.hasPrefix
  rw [Bool.eq_iff_iff, decide_eq_true_iff, List.isPrefixOf_iff_prefix, List.prefix_iff_eq_take]
  exact eq_comm
theorem valB_end (s : ByteArray) (h : 2 ≤ s.size) : valB 2 (s.data.toList.drop (s.size - 2)) = 256 * (s[s.size - 2]'(by omega)).toNat + (s[s.size - 1]'(by omega)).toNat := by
  show 256 * ((s.data.toList.drop (s.size - 2)).getD 0 0).toNat + ((s.data.toList.drop (s.size - 2)).getD 1 0).toNat = _
  have h0 : (s.data.toList.drop (s.size - 2))[0]? = some (s[s.size - 2]'(by omega)) := by
    rw [List.getElem?_drop, Nat.add_zero, Array.getElem?_toList]; exact Array.getElem?_eq_getElem (by show s.size - 2 < s.size; omega)
  have h1 : (s.data.toList.drop (s.size - 2))[1]? = some (s[s.size - 1]'(by omega)) := by
    rw [List.getElem?_drop, show s.size - 2 + 1 = s.size - 1 by omega, Array.getElem?_toList]; exact Array.getElem?_eq_getElem (by show s.size - 1 < s.size; omega)
  rw [List.getD_eq_getElem?_getD, h0, List.getD_eq_getElem?_getD, h1]
  rfl
theorem take_ext (s : ByteArray) (n : Nat) : (s.extract 0 n).data.toList = s.data.toList.take n := by
  rw [Lib.extract_data]
  apply List.ext_getElem?
  intro i
  simp [List.getElem?_take]
set_option maxRecDepth 100000 in
set_option maxHeartbeats 4000000 in
theorem opened_any (s : ByteArray) (hs : s.size ≤ 700000) (w : World) : Calls Tryd.prog 55 #[.string s] w (OpenQ s.data.toList w) := by
  obtain ⟨P, hP⟩ : ∃ P, OpenQ s.data.toList w = P := ⟨_, rfl⟩
  have HP := Lib.hid hP
  rw [hP]
  have hsl := size_list s
  obtain ⟨W, hW⟩ : ∃ W, w.alloc (.cells #[.string ⟨#[]⟩] 91) = W := ⟨_, rfl⟩
  have A1 : Below w.heap.size w W := by rw [← hW]; exact (Below.refl _ _).alloc (Nat.le_refl _) _
  have r0 : W.heap[w.heap.size]? = some (.cells #[.string ⟨#[]⟩] 91 (0, 0)) := by rw [← hW]; exact heap_alloc_new _ _
  have c0 : W.cell? ⟨w.heap.size, 0, none⟩ = some (.string ⟨#[]⟩) := by rw [cell_of_row _ _ 0 _ _ _ r0]; rfl
  have f0 : W.frozen? ⟨w.heap.size, 0, none⟩ = false := frozen_of_row _ _ _ _ _ r0
  have l0 := (Array.getElem?_eq_some_iff.1 r0).1
  have HPX := Lib.hid (Tryd.strings_HasPrefix s ⟨#[86, 84, 49]⟩)
  have hhp := hasP_eq s.data.toList
  have HW := Lib.hid hW
  have HA1 := Lib.hid A1
  have HR0 := Lib.hid r0
  clear hP hW A1 r0
  go_enter Tryd.func55, Tryd.ntmps55
  have END : Hid (∀ (W' : World) (t : ByteArray) (ev : Value), Below w.heap.size w W' → W'.heap[w.heap.size]? = some (.cells #[.string t] 91 (0, 0)) → ((headE s.data.toList = 0 ∧ ev = .nilIface ∧ t.data.toList = (s.data.toList.take (s.data.toList.length - 2)).drop 3) ∨ (headE s.data.toList ≠ 0 ∧ t = ⟨#[]⟩ ∧ ∃ part, ev = faultW part (headE s.data.toList))) → P (.returned (.tuple #[.agg #[.string t], ev])) W') := by
    rw [← HP.out]
    refine Lib.hid fun W' t ev hb hr h => ⟨hb, ?_⟩
    rcases h with ⟨h1, h2, h3⟩ | ⟨h1, h2, part, h3⟩
    · exact .inl ⟨h1, t, by rw [h2], h3⟩
    · exact .inr ⟨h1, part, by rw [h2, h3]⟩
  have SET : Hid (∀ (W' : World) (t : ByteArray), Below W.heap.size W W' → Below w.heap.size w (W'.setCell ⟨w.heap.size, 0, none⟩ (.string t)) ∧ (W'.setCell ⟨w.heap.size, 0, none⟩ (.string t)).heap[w.heap.size]? = some (.cells #[.string t] 91 (0, 0))) := by
    refine Lib.hid fun W' t hb => ⟨(HA1.out.trans (hb.mono HA1.out.size)).setCell (p := ⟨w.heap.size, 0, none⟩) (Nat.le_refl _) _, ?_⟩
    rw [heap_setCell_same _ _ 0 _ _ _ (row_below HR0.out hb)]; rfl
  rcases Nat.lt_or_ge s.size 7 with hlt | hge
  · have hd : ((s.size : Nat) : Int) < 7 := by omega
    have hE : headE s.data.toList = 60 := by unfold headE; rw [if_pos (.inl (by rw [← hsl]; exact hlt))]
    have HPP : Hid (∀ part, P (.returned (.tuple #[.agg #[.string ⟨#[]⟩], faultW part 60])) (W.setCell ⟨w.heap.size, 0, none⟩ (.string ⟨#[]⟩))) := Lib.hid fun part => END.out _ _ _ (SET.out W ⟨#[]⟩ (Below.refl _ _)).1 (SET.out W ⟨#[]⟩ (Below.refl _ _)).2 (.inr ⟨by rw [hE]; decide, rfl, part, by rw [hE]⟩)
    have HR := Lib.hid (SET.out W ⟨#[]⟩ (Below.refl _ _)).2
    clear END SET hE hhp HPX hsl
    go_wp2_with fail
    rw [HW.out]
    refine (inA_any _ _ _).mono ?_
    rintro e w2 ⟨rfl, rfl⟩
    go_wp2_with fail
    exact bodyPost_ret (v := .tuple #[.agg #[.string ⟨#[]⟩], faultW _ 60]) (results_cell_tmpT rfl _ _ w.heap.size _ _ _ _ _ rfl rfl HR.out Tryd.underlying91 rfl (by kernel_rfl)) rfl (HPP.out _)
  · have hd : ¬ ((s.size : Nat) : Int) < 7 := by omega
    by_cases hp : s.data.toList.take 3 = markB
    · rw [decide_eq_true hp] at hhp
      have HHP := Lib.hid hhp
      have hw2 : IntKind.i64.wrap (((s.size : Nat) : Int) - 2) = ((s.size - 2 : Nat) : Int) := by rw [show ((s.size : Nat) : Int) - 2 = ((s.size - 2 : Nat) : Int) from by omega]; exact wrap_id (by omega) (by omega)
      have hw1 : IntKind.i64.wrap (((s.size : Nat) : Int) - 1) = ((s.size - 1 : Nat) : Int) := by rw [show ((s.size : Nat) : Int) - 1 = ((s.size - 1 : Nat) : Int) from by omega]; exact wrap_id (by omega) (by omega)
      have HSL := Lib.hid hsl
      clear hsl hhp
      go_wp2_with fail
      rw [HW.out]
      refine (HPX.out W).mono ?_
      rintro e w2 ⟨rfl, rfl⟩
      rw [show Lib.hasPrefix s.data.toList (⟨#[86, 84, 49]⟩ : ByteArray).data.toList = true from HHP.out]
      go_wp2_with fail
      have hi2 : s.size - 2 < s.size := by omega
      have hi1 : s.size - 1 < s.size := by omega
      have hve := valB_end s (by omega)
      obtain ⟨x, hx⟩ : ∃ x, s[s.size - 2].toNat = x := ⟨_, rfl⟩
      obtain ⟨y, hy⟩ : ∃ x, s[s.size - 1].toNat = x := ⟨_, rfl⟩
      have hxb : x < 256 := by rw [← hx]; exact u8_lt _
      have hyb : y < 256 := by rw [← hy]; exact u8_lt _
      rw [hx, hy] at hve
      obtain ⟨t, ht⟩ : ∃ t, s.extract 0 (s.size - 2) = t := ⟨_, rfl⟩
      have htl : t.data.toList = s.data.toList.take (s.size - 2) := by rw [← ht]; exact take_ext _ _
      have htz : t.size ≤ s.size := by rw [size_list, htl, List.length_take, ← HSL.out]; omega
      have htz3 : 3 ≤ t.size := by rw [size_list, htl, List.length_take, ← HSL.out]; omega
      obtain ⟨q, hq⟩ : ∃ q, sumA t.data.toList = q := ⟨_, rfl⟩
      have KJ : Hid (∀ W', Below w2.heap.size w2 W' → Calls Tryd.prog 73 #[.int .u8 (x : Nat), .int .u8 (y : Nat)] W' fun e W'' => e = .returned (partV x y) ∧ Below w2.heap.size w2 W'') := Lib.hid fun W' hb => (joined_any x y W').mono fun e W'' ⟨h1, h2⟩ => ⟨h1, h2 ▸ hb⟩
      have KN : Hid (∀ W', Below w2.heap.size w2 W' → Calls Tryd.prog 74 #[partV x y] W' fun e W'' => e = .returned (.int .i64 ((256 * x + y : Nat) : Int)) ∧ Below w2.heap.size w2 W'') := Lib.hid fun W' hb => (number_any x y hxb hyb W').mono fun e W'' ⟨h1, h2⟩ => ⟨h1, h2 ▸ hb⟩
      have KS : Hid (∀ W', Below w2.heap.size w2 W' → Calls Tryd.prog 16 #[.string t] W' fun e W'' => e = .returned (.int .i64 ((q : Nat) : Int)) ∧ Below w2.heap.size w2 W'') := Lib.hid fun W' hb => by
        have := sum_any t (by omega) W'
        rw [hq] at this
        exact this.mono fun e W'' ⟨h1, h2⟩ => ⟨h1, h2 ▸ hb⟩
      have HD : Below w2.heap.size w2 w2.drew := (Below.refl _ _).drew
      have hfol : Tryd.prog.follows .mixedOrders = true := by kernel_rfl
      have HVE := Lib.hid hve
      have HTL := Lib.hid htl
      have HQ := Lib.hid hq
      have hHE : headE s.data.toList = if 256 * x + y = q then 0 else 61 := by
        unfold headE
        rw [if_neg (by rw [← HSL.out]; intro h; rcases h with h | h; { omega }; { exact h hp }), ← HSL.out, hve, ← htl, hq]
        by_cases h : 256 * x + y = q
        · rw [if_pos h, if_neg (by omega)]
        · rw [if_neg h, if_pos h]
      have HHE := Lib.hid hHE
      rw [ht]
      clear hve htl hq hHE ht hp
      go_region_held3 (fun W' => Below w2.heap.size w2 W') (first | assumption | exact HD | go_keep) (first | (go_at_call 73; refine (KJ.out _ (by first | assumption | exact HD | exact hg)).mono ?_; rintro e w5 ⟨rfl, hg⟩) | (go_at_call 74; refine (KN.out _ (by first | assumption | exact HD | exact hg)).mono ?_; rintro e w6 ⟨rfl, hg⟩) | (go_at_call 16; refine (KS.out _ (by first | assumption | exact HD | exact hg)).mono ?_; rintro e w7 ⟨rfl, hg⟩))
      all_goals
        have HG := Lib.hid hg
        have r7 := row_below HR0.out hg
        have k7 : w7.cell? ⟨w.heap.size, 0, none⟩ = some (.string ⟨#[]⟩) := by rw [cell_of_row _ _ 0 _ _ _ r7]; rfl
        have f7 : w7.frozen? ⟨w.heap.size, 0, none⟩ = false := frozen_of_row _ _ _ _ _ r7
        have l7 := (Array.getElem?_eq_some_iff.1 r7).1
        clear hg HD KJ KN KS r7 c0 f0 l0
        by_cases hxy : 256 * x + y = q
        · have hb : ((256 * ((x : Nat) : Int) + ((y : Nat) : Int)) != ((q : Nat) : Int)) = false := by simp; omega
          have hE : headE s.data.toList = 0 := by rw [HHE.out, if_pos hxy]
          have hz : 3 ≤ t.size := htz3
          have HPP : Hid (P (.returned (.tuple #[.agg #[.string (t.extract 3 t.size)], .nilIface])) (w7.setCell ⟨w.heap.size, 0, none⟩ (.string (t.extract 3 t.size)))) := Lib.hid (END.out _ _ _ (SET.out w7 _ HG.out).1 (SET.out w7 _ HG.out).2 (.inl ⟨hE, rfl, by rw [drop_toList, HTL.out, HSL.out]⟩))
          have HR := Lib.hid (SET.out w7 (t.extract 3 t.size) HG.out).2
          clear END SET hE hxy
          go_wp2_with fail
          exact bodyPost_ret (v := .tuple #[.agg #[.string (t.extract 3 t.size)], .nilIface]) (results_cell_tmpT rfl _ _ w.heap.size _ _ _ _ _ rfl rfl HR.out Tryd.underlying91 rfl (by kernel_rfl)) rfl HPP.out
        · have hb : ((256 * ((x : Nat) : Int) + ((y : Nat) : Int)) != ((q : Nat) : Int)) = true := by simp; omega
          have hE : headE s.data.toList = 61 := by rw [HHE.out, if_neg hxy]
          have HPP : Hid (∀ part, P (.returned (.tuple #[.agg #[.string ⟨#[]⟩], faultW part 61])) (w7.setCell ⟨w.heap.size, 0, none⟩ (.string ⟨#[]⟩))) := Lib.hid fun part => END.out _ _ _ (SET.out w7 ⟨#[]⟩ HG.out).1 (SET.out w7 ⟨#[]⟩ HG.out).2 (.inr ⟨by rw [hE]; decide, rfl, part, by rw [hE]⟩)
          have HR := Lib.hid (SET.out w7 ⟨#[]⟩ HG.out).2
          clear END SET hE hxy
          go_wp2_with fail
          refine (inA_any _ _ _).mono ?_
          rintro e w8 ⟨rfl, rfl⟩
          go_wp2_with fail
          exact bodyPost_ret (v := .tuple #[.agg #[.string ⟨#[]⟩], faultW _ 61]) (results_cell_tmpT rfl _ _ w.heap.size _ _ _ _ _ rfl rfl HR.out Tryd.underlying91 rfl (by kernel_rfl)) rfl (HPP.out _)
    · have hE : headE s.data.toList = 60 := by unfold headE; rw [if_pos (.inr hp)]
      have HPP : Hid (∀ part, P (.returned (.tuple #[.agg #[.string ⟨#[]⟩], faultW part 60])) (W.setCell ⟨w.heap.size, 0, none⟩ (.string ⟨#[]⟩))) := Lib.hid fun part => END.out _ _ _ (SET.out W ⟨#[]⟩ (Below.refl _ _)).1 (SET.out W ⟨#[]⟩ (Below.refl _ _)).2 (.inr ⟨by rw [hE]; decide, rfl, part, by rw [hE]⟩)
      have HR := Lib.hid (SET.out W ⟨#[]⟩ (Below.refl _ _)).2
      rw [decide_eq_false hp] at hhp
      have HHP := Lib.hid hhp
      clear END SET hE hhp hsl hp
      go_wp2_with fail
      rw [HW.out]
      refine (HPX.out W).mono ?_
      rintro e w2 ⟨rfl, rfl⟩
      rw [show Lib.hasPrefix s.data.toList (⟨#[86, 84, 49]⟩ : ByteArray).data.toList = false from HHP.out]
      go_wp2_with fail
      refine (inA_any _ _ _).mono ?_
      rintro e w3 ⟨rfl, rfl⟩
      go_wp2_with fail
      exact bodyPost_ret (v := .tuple #[.agg #[.string ⟨#[]⟩], faultW _ 60]) (results_cell_tmpT rfl _ _ w.heap.size _ _ _ _ _ rfl rfl HR.out Tryd.underlying91 rfl (by kernel_rfl)) rfl (HPP.out _)
end Go.Proofs.YtcnbcaljpgdcpaaDoor

namespace Go.Proofs.YtcnbcaljpgdcpaaDoor
open Go.RowKit Go.Shelf Go.Maps
attribute [local go_sem] Oper.semAt_some
attribute [local go_sem ↓] app_hide

/-- The bytes that the first cell of a block holds, in a row of the call's own. -/
def LaidC (w : World) (base B : Nat) (tail : Array Value) (ty : TypeId) (l : List UInt8) : Prop := ∃ o c, w.heap[B]? = some (.cells (#[.slice o l.length c] ++ tail) ty (0, 0)) ∧ w.ownsRow base 5 1 (.slice o l.length c) l.length (byteCells l)
/-- The block of that row. -/
def RowOf (w : World) (B k : Nat) : Prop := ∃ a n c, w.cell? ⟨B, 0, none⟩ = some (.slice (some a) n c) ∧ a.block = k
theorem laidO_cell {w : World} {B : Nat} {tail : Array Value} {ty : TypeId} {v : Value} (h : w.heap[B]? = some (.cells (#[v] ++ tail) ty (0, 0))) : w.cell? ⟨B, 0, none⟩ = some v := by
  rw [cell_of_row _ _ 0 _ _ _ h, Array.getElem?_append_left (by simp)]; rfl
theorem laidO_set {w : World} {B : Nat} {tail : Array Value} {ty : TypeId} {v : Value} (h : w.heap[B]? = some (.cells (#[v] ++ tail) ty (0, 0))) (v' : Value) : (w.setCell ⟨B, 0, none⟩ v').heap[B]? = some (.cells (#[v'] ++ tail) ty (0, 0)) := by
  rw [heap_setCell_same _ _ 0 _ _ _ h]
  congr 2
  apply Array.ext'
  simp
theorem LaidC.row {w : World} {base B : Nat} {tail : Array Value} {ty : TypeId} {l : List UInt8} (h : LaidC w base B tail ty l) (hty : ty ≠ 5) {k : Nat} (hk : RowOf w B k) : base ≤ k ∧ k < w.heap.size ∧ k ≠ B ∧ ∃ cur, w.heap[k]? = some (.cells cur 5 (0, 0)) := by
  obtain ⟨o, c, hB, ho⟩ := h
  obtain ⟨a, n, c', h1, rfl⟩ := hk
  rw [laidO_cell hB] at h1
  cases h1
  obtain ⟨cur, h2, h3⟩ := own_rowT ho (show (Value.slice (some a) l.length c).ownBlock = some a.block from rfl)
  refine ⟨h3, (Array.getElem?_eq_some_iff.1 h2).1, fun e => ?_, cur, h2⟩
  rw [e, hB] at h2
  injection h2 with h2
  injection h2 with _ h4 _
  exact hty h4
/-- What a call leaves that lays more bytes. -/
structure LaidM (w w' : World) (base B : Nat) (tail : Array Value) (ty : TypeId) (l m : List UInt8) : Prop where
  lies : LaidC w' base B tail ty (l ++ m)
  moves : Moves (fun k => k = B ∨ RowOf w B k) w w'
  row : ∀ k, RowOf w' B k → RowOf w B k ∨ w.heap.size ≤ k
theorem LaidC.below {w w' : World} {base B : Nat} {tail : Array Value} {ty : TypeId} {l : List UInt8} (h : LaidC w base B tail ty l) (hb : Below w.heap.size w w') : LaidM w w' base B tail ty l [] := by
  obtain ⟨o, c, hB, ho⟩ := h
  have hB' := row_below hB hb
  refine ⟨⟨o, c, by rw [List.append_nil]; exact hB', by rw [List.append_nil]; exact own_below ho hb⟩, Moves.of_below hb, fun k ⟨a, n, c', h1, h2⟩ => .inl ⟨a, n, c', ?_, h2⟩⟩
  rw [laidO_cell hB'] at h1
  rw [laidO_cell hB]
  exact h1
theorem LaidM.trans {w w1 w2 : World} {base B : Nat} {tail : Array Value} {ty : TypeId} {l m m' : List UInt8} (h : LaidM w w1 base B tail ty l m) (k : LaidM w1 w2 base B tail ty (l ++ m) m') : LaidM w w2 base B tail ty l (m ++ m') := by
  have z1 := h.moves.size
  refine ⟨by rw [← List.append_assoc]; exact k.lies, ⟨k.moves.os.trans h.moves.os, k.moves.tape.trans h.moves.tape, k.moves.output.trans h.moves.output, Nat.le_trans z1 k.moves.size, fun j hj hs => ?_⟩, fun j hj => ?_⟩
  · refine (k.moves.block j (Nat.lt_of_lt_of_le hj z1) fun hx => ?_).trans (h.moves.block j hj hs)
    rcases hx with rfl | hx
    · exact hs (.inl rfl)
    · rcases h.row j hx with h1 | h1
      · exact hs (.inr h1)
      · omega
  · rcases k.row j hj with h1 | h1
    · exact h.row j h1
    · exact .inr (by omega)
theorem infoByteA : (Tryd.prog.info? 5).map (fun i => (i.zero, i.size, i.bytes)) = some (some (.int .u8 0), 1, 1) := by kernel_rfl
theorem app_laid (o so : Option Addr) (n c m sc : Nat) (w : World) : (appSem #[74, 39] 74 #[.slice o n c, .slice so m sc]).run Tryd.prog w = (appSem #[74, 74] 74 #[.slice o n c, .slice so m sc]).run Tryd.prog w := by
  obtain ⟨i0, hi, hz0, hz1, hz2⟩ := info_parts infoByteA
  simp [appSem, Builtin.append_, run_underlying Tryd.underlying74, run_underlying Tryd.underlying39, sizeOf, typeInfo, hi]
/-- Where bytes stand. -/
def AtB (w : World) (o : Option Addr) (l : List UInt8) : Prop := ∃ g off, o = some ⟨g, off, none⟩ ∧ ∀ (j : Nat) (u : UInt8), l[j]? = some u → w.cell? ⟨g, off + j, none⟩ = some (.int .u8 (u.toNat : Nat))
theorem AtB.below {w w' : World} {o : Option Addr} {l : List UInt8} (h : AtB w o l) (hb : Below w.heap.size w w') : AtB w' o l := by
  obtain ⟨g, off, ho, hc⟩ := h
  exact ⟨g, off, ho, fun j u hj => cell_keepT hb (hc j u hj)⟩
set_option maxRecDepth 100000 in
theorem put_anyA {base B : Nat} {tail : Array Value} {ty : TypeId} {l : List UInt8} (hty : ty ≠ 5) (m : List UInt8) (so : Option Addr) (sc : Nat) (w : World) (hL : LaidC w base B tail ty l) (hbase : base ≤ w.heap.size) (hm : AtB w so m) (hlen : l.length + m.length ≤ 100000000) :
    Calls Tryd.prog 48 #[.pointer (some ⟨B, 0, none⟩), .slice so m.length sc] w fun e w' => (∃ v, e = .returned v) ∧ LaidM w w' base B tail ty l m := by
  have hRow := fun k => hL.row hty (k := k)
  obtain ⟨o, c, hB, ho⟩ := hL
  obtain ⟨g, off, rfl, hc⟩ := hm
  obtain ⟨i0, hi, hz0, hz1, hz2⟩ := info_parts infoByteA
  obtain ⟨v', w6, hr, h2, h3, h4, h5⟩ := run_append_own_at (P := Tryd.prog) w base 74 74 5 i0 (.int .u8 0) 1 1 Tryd.underlying74 hi hz0 hz1 hz2 rfl (by decide) (.slice o l.length c) l.length (byteCells l) ho ⟨g, off, none⟩ m.length sc (byteCells m) (by simp [byteCells])
    (fun j u hj => by
      unfold byteCells at hj
      rw [List.getElem?_map] at hj
      cases hx : m[j]? with
      | none => rw [hx] at hj; cases hj
      | some x => rw [hx] at hj; cases hj; rw [show (⟨g, off, none⟩ : Addr).add j = ⟨g, off + j, none⟩ by unfold Addr.add; split <;> simp_all]; exact hc j x hx)
    (by intro x hx; obtain ⟨y, _, rfl⟩ := List.mem_map.1 hx; rfl) (by unfold maxLen; omega) (by omega) hbase
  have hr' := (app_laid o (some ⟨g, off, none⟩) l.length c m.length sc w).trans hr
  obtain ⟨o', c', rfl⟩ := own_form h2
  have k0 := laidO_cell hB
  have f0 : w.frozen? ⟨B, 0, none⟩ = false := frozen_of_row _ _ _ _ _ hB
  have hself : ∀ k, (Value.slice o l.length c).ownBlock = some k → RowOf w B k := fun k hk => by
    obtain ⟨a, rfl, rfl⟩ := own_inU hk
    exact ⟨a, _, _, k0, rfl⟩
  have m6 : Moves (fun k => RowOf w B k) w w6 := ⟨h3.os, h3.tape, h3.output, h3.size, fun k hk hs => h3.block k hk fun e => hs (hself k e.symm)⟩
  have hB6 : w6.heap[B]? = some (.cells (#[.slice o l.length c] ++ tail) ty (0, 0)) := row_keep hB m6 (fun h => (hRow B h).2.2.1 rfl)
  have k6 := laidO_cell hB6
  have f6 : w6.frozen? ⟨B, 0, none⟩ = false := frozen_of_row _ _ _ _ _ hB6
  have lB := (Array.getElem?_eq_some_iff.1 hB).1
  have lB6 := (Array.getElem?_eq_some_iff.1 hB6).1
  have hB7 := laidO_set hB6 (.slice o' (l.length + m.length) c')
  have HQ : Hid (LaidM w (w6.setCell ⟨B, 0, none⟩ (.slice o' (l.length + m.length) c')) base B tail ty l m) := by
    refine Lib.hid ⟨⟨o', c', by rw [List.length_append]; exact hB7, ?_⟩, (m6.mono fun k hk => .inr hk).trans (Moves.setCell (.inl rfl)), fun k hk => ?_⟩
    · rw [List.length_append, show byteCells (l ++ m) = byteCells l ++ byteCells m by simp [byteCells]]
      refine own_moves1N h2 (Moves.setCell (S := fun k => k = B) rfl) (fun k hk e => ?_)
      subst e
      obtain ⟨cur, h6, _⟩ := own_rowT h2 hk
      rw [hB6] at h6
      injection h6 with h6
      injection h6 with _ h7 _
      exact hty h7
    · obtain ⟨a, n, c2, h6, rfl⟩ := hk
      rw [laidO_cell hB7] at h6
      cases h6
      rcases h5 with h7 | h7
      · exact .inl (hself _ (h7.symm.trans rfl))
      · refine .inr ?_
        have : a.block = w.heap.size := by simpa [Value.ownBlock] using h7
        omega
  obtain ⟨n, hn⟩ : ∃ n, l.length = n := ⟨_, rfl⟩
  obtain ⟨q, hq⟩ : ∃ n, m.length = n := ⟨_, rfl⟩
  rw [hn] at k0 k6
  rw [hn, hq] at hr' HQ
  rw [hq]
  clear hB ho hc hr h2 h3 h4 h5 hself m6 hB6 hB7 hRow hn hq hi hz0 hz1 hz2
  go_enter Tryd.func48, Tryd.ntmps48
  go_wp2
  go_end0
  exact ⟨⟨_, rfl⟩, HQ.out⟩
end Go.Proofs.YtcnbcaljpgdcpaaDoor

namespace Go.Proofs.YtcnbcaljpgdcpaaDoor
open Go.RowKit Go.Shelf Go.Maps
attribute [local go_sem] Oper.semAt_some
attribute [local go_sem ↓] app_hide

theorem one_byte (w : World) (n : Nat) (h : n < 256) : AtB (w.alloc (.cells #[.int .u8 (n : Nat)] 5)) (some ⟨w.heap.size, 0, none⟩) [UInt8.ofNat n] := by
  refine ⟨_, 0, rfl, fun j u hj => ?_⟩
  cases j with
  | zero =>
    cases hj
    rw [u8_nat h, cell_of_row _ _ 0 _ _ _ (heap_alloc_new _ _)]; rfl
  | succ j => simp at hj
set_option maxRecDepth 100000 in
theorem putOne {base B : Nat} {tail : Array Value} {ty : TypeId} {l : List UInt8} (hty : ty ≠ 5) (n : Nat) (h : n < 256) (w : World) (hL : LaidC w base B tail ty l) (hbase : base ≤ w.heap.size) (hlen : l.length ≤ 99999000) :
    Calls Tryd.prog 48 #[.pointer (some ⟨B, 0, none⟩), .slice (some ⟨w.heap.size, 0, none⟩) 1 1] (w.alloc (.cells #[.int .u8 (n : Nat)] 5)) fun e w' => (∃ v, e = .returned v) ∧ LaidM w w' base B tail ty l [UInt8.ofNat n] := by
  have a1 : Below w.heap.size w (w.alloc (.cells #[.int .u8 (n : Nat)] 5)) := (Below.refl _ _).alloc (Nat.le_refl _) _
  have h1 := hL.below a1
  have h2 := h1.lies
  rw [List.append_nil] at h2
  refine (put_anyA hty [UInt8.ofNat n] (some ⟨w.heap.size, 0, none⟩) 1 _ h2 (by have := a1.size; omega) (one_byte w n h) (by simp; omega)).mono ?_
  rintro e w' ⟨he, hm⟩
  exact ⟨he, by have := h1.trans (m' := [UInt8.ofNat n]) (by rw [List.append_nil]; exact hm); rwa [List.nil_append] at this⟩
set_option maxRecDepth 100000 in
theorem putNum1 {base B : Nat} {tail : Array Value} {ty : TypeId} {l : List UInt8} (hty : ty ≠ 5) (n : Nat) (h : n < 65536) (w : World) (hL : LaidC w base B tail ty l) (hbase : base ≤ w.heap.size) (hlen : l.length ≤ 99998000) :
    Calls Tryd.prog 49 #[.pointer (some ⟨B, 0, none⟩), .int .i64 1, .int .i64 (n : Nat)] w fun e w' => (∃ v, e = .returned v) ∧ LaidM w w' base B tail ty l (numB 1 n) := by
  have HP := Lib.hid (parted_any n (by omega) w)
  have HR := Lib.hid (rest_any (n / 256) (n % 256) (by omega) w)
  have HB := Lib.hid (putOne hty (n % 256) (by omega) w hL hbase (by omega))
  clear hL hbase hlen hty
  go_enter Tryd.func49, Tryd.ntmps49
  go_wp2_with fail
  refine HP.out.mono ?_
  rintro e w1 ⟨rfl, rfl⟩
  go_wp2_with fail
  refine HR.out.mono ?_
  rintro e w1 ⟨rfl, rfl⟩
  go_wp2_with fail
  refine HB.out.mono ?_
  rintro e w2 ⟨⟨v, rfl⟩, hm⟩
  have HM := Lib.hid hm
  clear hm HB
  go_wp2
  go_end0
  exact ⟨⟨_, rfl⟩, HM.out⟩
set_option maxRecDepth 100000 in
theorem putNum2 {base B : Nat} {tail : Array Value} {ty : TypeId} {l : List UInt8} (hty : ty ≠ 5) (n : Nat) (h : n < 65536) (w : World) (hL : LaidC w base B tail ty l) (hbase : base ≤ w.heap.size) (hlen : l.length ≤ 99998000) :
    Calls Tryd.prog 49 #[.pointer (some ⟨B, 0, none⟩), .int .i64 2, .int .i64 (n : Nat)] w fun e w' => (∃ v, e = .returned v) ∧ LaidM w w' base B tail ty l (numB 2 n) := by
  have HP := Lib.hid (parted_any n (by omega) w)
  have HR := Lib.hid (fun w => rest_any (n / 256) (n % 256) (by omega) w)
  have HG := Lib.hid (greater_any (n / 256) (n % 256) (by omega) w)
  have HA := Lib.hid (putOne hty (n / 256) (by omega) w hL hbase (by omega))
  have HB := Lib.hid (fun w1 (hm : LaidM w w1 base B tail ty l [UInt8.ofNat (n / 256)]) => putOne hty (n % 256) (by omega) w1 hm.lies (Nat.le_trans hbase hm.moves.size) (by simp; omega))
  clear hL hbase hlen hty
  go_enter Tryd.func49, Tryd.ntmps49
  go_wp2_with fail
  refine HP.out.mono ?_
  rintro e w1 ⟨rfl, rfl⟩
  go_wp2_with fail
  refine HG.out.mono ?_
  rintro e w1 ⟨rfl, rfl⟩
  go_wp2_with fail
  refine HA.out.mono ?_
  rintro e w2 ⟨⟨v, rfl⟩, hm⟩
  have HB2 := Lib.hid (HB.out w2 hm)
  have HM := Lib.hid hm
  clear hm HB HA
  go_wp2_with fail
  refine (HR.out w2).mono ?_
  rintro e w1 ⟨rfl, rfl⟩
  go_wp2_with fail
  refine HB2.out.mono ?_
  rintro e w3 ⟨⟨v3, rfl⟩, hm3⟩
  have HM3 := Lib.hid (HM.out.trans hm3)
  clear hm3 HB2
  go_wp2
  go_end0
  exact ⟨⟨_, rfl⟩, HM3.out⟩
theorem putNum {k : Nat} (hk : k = 1 ∨ k = 2) {base B : Nat} {tail : Array Value} {ty : TypeId} {l : List UInt8} (hty : ty ≠ 5) (n : Nat) (h : n < 65536) (w : World) (hL : LaidC w base B tail ty l) (hbase : base ≤ w.heap.size) (hlen : l.length ≤ 99998000) :
    Calls Tryd.prog 49 #[.pointer (some ⟨B, 0, none⟩), .int .i64 (k : Nat), .int .i64 (n : Nat)] w fun e w' => (∃ v, e = .returned v) ∧ LaidM w w' base B tail ty l (numB k n) := by
  rcases hk with rfl | rfl
  · exact putNum1 hty n h w hL hbase hlen
  · exact putNum2 hty n h w hL hbase hlen
theorem AtU.turn {S : Nat → Prop} {w w' : World} {o : Option Addr} {l : List (Nat × Int)} (h : AtU w o l) (hm : Moves S w w') (hs : ∀ k, inB o k → ¬ S k) : AtU w' o l := fun hn => by
  obtain ⟨g, off, rfl, hc⟩ := h hn
  have hg : ¬ S g := hs g ⟨_, rfl, rfl⟩
  refine ⟨g, off, rfl, fun j x hx => ?_⟩
  obtain ⟨h0, h1⟩ := hc j x hx
  exact ⟨cell_moves hm hg h0, cell_moves hm hg h1⟩
theorem flat_len {k : Nat} (hk : k = 1 ∨ k = 2) : ∀ rs : List (Nat × Int), (rs.flatMap (encB2 k)).length = rs.length * (2 * k)
  | [] => by simp
  | r :: rs => by rw [List.flatMap_cons, List.length_append, enc_len hk, flat_len hk rs, List.length_cons, Nat.add_mul]; omega
set_option maxRecDepth 100000 in
set_option maxHeartbeats 2000000 in
theorem putRuns_any {k : Nat} (hk : k = 1 ∨ k = 2) {base B : Nat} {tail : Array Value} {ty : TypeId} {l : List UInt8} (hty : ty ≠ 5) (uo : Option Addr) (uc : Nat) (rs : List (Nat × Int)) (hrs : ∀ r ∈ rs, fitR k r) (hn : rs.length ≤ 10000) (w : World) (hL : LaidC w base B tail ty l) (hbase : base ≤ w.heap.size) (hlen : l.length ≤ 50000000) (hA : AtU w uo rs) (hsep : ∀ j, inB uo j → j ≠ B ∧ ¬ RowOf w B j) :
    Calls Tryd.prog 51 #[.pointer (some ⟨B, 0, none⟩), .int .i64 (k : Nat), .slice uo rs.length uc] w fun e w' => (∃ v, e = .returned v) ∧ LaidM w w' base B tail ty l (rs.flatMap (encB2 k)) := by
  obtain ⟨n, hnn⟩ : ∃ n, rs.length = n := ⟨_, rfl⟩
  rw [hnn] at hn ⊢
  obtain ⟨P, hP⟩ : ∃ P, (fun (e : Ending) w' => (∃ v, e = .returned v) ∧ LaidM w w' base B tail ty l (rs.flatMap (encB2 k))) = P := ⟨_, rfl⟩
  have HP := Lib.hid hP
  rw [hP]
  have HN := Lib.hid hnn
  have HA := Lib.hid hA
  have HS := Lib.hid hsep
  have HF := Lib.hid hrs
  have HBS := Lib.hid hbase
  have HLN := Lib.hid hlen
  have HK := Lib.hid hk
  have HT := Lib.hid hty
  have h0 := hL.below (Below.refl _ _)
  have H0 := Lib.hid h0
  clear hP hnn hA hsep hrs hL h0 hbase hlen hk hty
  go_enter Tryd.func51, Tryd.ntmps51
  go_wp2_with fail
  go_loopg [10] n (fun q v wr => ∃ (j : Nat), v = .int .i64 (j : Nat) ∧ j ≤ n ∧ q = n - j ∧ Hid (LaidM w wr base B tail ty l ((rs.take j).flatMap (encB2 k))))
  case atStart => exact ⟨0, rfl, Nat.zero_le _, rfl, H0⟩
  case round =>
    obtain ⟨j, rfl, hj, rfl, HI⟩ := hrel
    rcases Nat.lt_or_ge j n with hlt | hge
    · have hj1 : j < 1000000 := by omega
      obtain ⟨x, hx⟩ : ∃ x, rs[j]? = some x := ⟨_, List.getElem?_eq_getElem (by rw [HN.out]; exact hlt)⟩
      have hfit := HF.out x (List.mem_of_getElem? hx)
      obtain ⟨g, off, rfl, hc⟩ := (HA.out.turn HI.out.moves (fun i hi hs => hs.elim (HS.out i hi).1 (HS.out i hi).2)) (by rw [HN.out]; omega)
      obtain ⟨k0, k1⟩ := hc j x hx
      have hg := World.block_lt_of_cell? wr _ k0
      have htk : (rs.take (j + 1)).flatMap (encB2 k) = (rs.take j).flatMap (encB2 k) ++ encB2 k x := by rw [List.take_add_one, hx]; simp
      have hlj : ((rs.take j).flatMap (encB2 k)).length ≤ 40000 := by rw [flat_len HK.out, List.length_take]; rcases HK.out with h | h <;> rw [h] <;> omega
      obtain ⟨a, b⟩ := x
      obtain ⟨q, hq⟩ : ∃ q : Nat, b = (q : Nat) := ⟨b.toNat, by have := hfit.2.2.1; simp only at this; omega⟩
      subst hq
      have hab : 1 ≤ a ∧ a ≤ 65536 ∧ q < 65536 := by
        obtain ⟨f1, f2, f3, f4⟩ := hfit
        simp only at f1 f2 f4
        rcases HK.out with h | h <;> rw [h] at f2 f4 <;> simp only [limB] at f2 f4 <;> simp at f2 f4 <;> omega
      obtain ⟨h1a, h2a, h3q⟩ := hab
      obtain ⟨p, rfl⟩ : ∃ p, a = p + 1 := ⟨a - 1, by omega⟩
      have hw1 : IntKind.i64.wrap (((p + 1 : Nat) : Int) - 1) = ((p : Nat) : Int) := by rw [show ((p + 1 : Nat) : Int) - 1 = ((p : Nat) : Int) from by omega]; exact wrap_id (by omega) (by omega)
      obtain ⟨w2, hw2⟩ : ∃ w2, wr.alloc (runO (p + 1, (q : Nat))) = w2 := ⟨_, rfl⟩
      have b2 : Below wr.heap.size wr w2 := by rw [← hw2]; exact (Below.refl _ _).alloc (Nat.le_refl _) _
      have r2 : w2.heap[wr.heap.size]? = some (runO (p + 1, (q : Nat))) := by rw [← hw2]; exact heap_alloc_new _ _
      have HI2 := Lib.hid (HI.out.trans (HI.out.lies.below b2))
      rw [List.append_nil] at HI2
      have HC1 := Lib.hid (putNum HK.out HT.out p (by omega) w2 HI2.out.lies (Nat.le_trans HBS.out HI2.out.moves.size) (by rw [List.length_append]; have := HLN.out; omega))
      obtain ⟨c0, c1⟩ := runO_cells r2
      have hl2 := (Array.getElem?_eq_some_iff.1 r2).1
      have HR2 := Lib.hid r2
      have HW2 := Lib.hid hw2
      have HTK := Lib.hid htk
      clear hc hx hfit htk b2 r2 hw2
      go_wp2_with fail
      rw [show wr.alloc (.cells #[.int .i64 (((p : Nat) : Int) + 1), .int .i64 ((q : Nat) : Int)] 49) = w2 from HW2.out]
      refine HC1.out.mono ?_
      rintro e w3 ⟨⟨v, rfl⟩, hm3⟩
      have hB3 : ¬ (wr.heap.size = B ∨ RowOf w2 B wr.heap.size) := by
        have hlies := HI.out.lies
        rintro (h | h)
        · obtain ⟨o, c, hB, _⟩ := hlies
          have := (Array.getElem?_eq_some_iff.1 hB).1
          omega
        · obtain ⟨_, _, _, cur, h5⟩ := HI2.out.lies.row HT.out h
          rw [HR2.out] at h5
          injection h5 with h5
          injection h5 with _ h6 _
          exact absurd h6 (by decide)
      have r3 := row_keep HR2.out hm3.moves hB3
      obtain ⟨d0, d1⟩ := runO_cells r3
      have hl3 := (Array.getElem?_eq_some_iff.1 r3).1
      have HI3 := Lib.hid (HI2.out.trans hm3)
      have HC2 := Lib.hid (putNum HK.out HT.out q h3q w3 HI3.out.lies (Nat.le_trans HBS.out HI3.out.moves.size) (by rw [List.length_append, List.length_append, numB_len HK.out]; have := HLN.out; have := HK.out; omega))
      clear r3 hm3 hB3 c0 c1 HC1
      go_wp2_with fail
      refine HC2.out.mono ?_
      rintro e w4 ⟨⟨v4, rfl⟩, hm4⟩
      have HI4 : Hid (LaidM w w4 base B tail ty l ((rs.take (j + 1)).flatMap (encB2 k))) := by
        rw [HTK.out]
        have := HI3.out.trans hm4
        rw [List.append_assoc] at this
        exact Lib.hid this
      clear hm4 HC2 d0 d1 hl2 hl3
      go_wp2
      go_roundg (n - (j + 1))
      case measure => omega
      case rel => exact ⟨j + 1, by simp, by omega, rfl, HI4⟩
    · obtain rfl : j = n := by omega
      have hI := HI.out
      rw [List.take_of_length_le (by rw [HN.out]; exact Nat.le_refl _)] at hI
      have HQ := Lib.hid hI
      clear hI HI
      go_wp2
      go_end0
      rw [← HP.out]
      exact ⟨⟨_, rfl⟩, HQ.out⟩
end Go.Proofs.YtcnbcaljpgdcpaaDoor

namespace Go.Proofs.YtcnbcaljpgdcpaaDoor
open Go.RowKit Go.Shelf Go.Maps

theorem blkLaidA : laidOutB Tryd.prog = true := by kernel_rfl
theorem blkRowA : 82 < Tryd.prog.types.size := of_decide_eq_true (by kernel_rfl)
theorem blkKeyTA : Tryd.prog.keyType 82 = true := by kernel_rfl
theorem blkWideA : (match Tryd.prog.underlying 82 with | some (.array _ _) | some (.struct _) => true | _ => false) = true := by kernel_rfl
set_option maxRecDepth 100000 in
theorem blkLawA : WideMaps.KeyLaw Tryd.prog 82 := deep_law_laid blkLaidA (m := 3) (by omega) blkRowA (by kernel_rfl) blkWideA
theorem keyBlkA : Keyed Tryd.prog 82 := Keyed.of_law blkLawA
theorem blkCellsA : Tryd.prog.cellsOf 82 = 256 := by kernel_rfl
theorem key_blkA {c : List Int} (hc : fitsL c) : keyOf Tryd.prog 82 (.agg (cellsI c)) = some (kB c) := by
  have hlen : (cellsI c).toList.length = c.length := by simp [cellsI]
  have hform : (Value.agg (cellsI c)).formed Tryd.prog 82 = true := by
    simp [Value.formed, Tryd.underlying82, blkCellsA, cellsI_size, hc.2]
  have hl : Tryd.prog.keyLits (Tryd.prog.types.size + 1) 82 (cellsI c).toList = some (c.map (Lit.int .i64)) := by
    rw [blkTypes]
    unfold Program.keyLits
    simp only [Tryd.underlying82]
    rw [if_pos (by rw [hlen, hc.2, blkCellsA]), mapM_some _ (fun i => [Lit.int .i64 (c.getD i 0)]) _ fun i hi => ?_]
    · rw [Option.map_some, ← flat_one c, hc.2]
    · have hi' : i < c.length := by rw [hc.2]; exact List.mem_range.1 hi
      have hv := hc.1 c[i] (List.getElem_mem hi')
      have e : ((cellsI c).toList.drop (i * Tryd.prog.cellsOf 3)).take (Tryd.prog.cellsOf 3) = [.int .i64 (c.getD i 0)] := by
        rw [intCells, Nat.mul_one]
        have h1 : (cellsI c).toList = c.map (Value.int .i64) := rfl
        rw [h1, List.drop_eq_getElem_cons (by rw [List.length_map]; exact hi')]
        simp [List.getD, List.getElem?_eq_getElem hi']
      have hw : (Lit.int .i64 (c.getD i 0)).wf = true := by
        rw [show c.getD i 0 = c[i] by simp [List.getD, List.getElem?_eq_getElem hi']]
        have e1 : IntKind.i64.min = -9223372036854775808 := by decide
        have e2 : IntKind.i64.max = 9223372036854775807 := by decide
        simp [Lit.wf, e1, e2]
        omega
      rw [e]
      unfold Program.keyLits
      simp only [Tryd.underlying3]
      rw [if_pos (by first | exact ⟨rfl, hw⟩ | exact ⟨trivial, hw⟩)]
  unfold keyOf
  rw [Tryd.underlying82]
  simp only
  rw [if_pos (by rw [blkKeyTA, hform]; rfl), show (Value.agg (cellsI c)).cells.toList = (cellsI c).toList from rfl, hl]
  rfl
theorem blk_infoA : (Tryd.prog.info? 82).map (·.size) = some 256 := by kernel_rfl
/-- A map's value, read as itself. -/
def heldR (v : Value) : Option (DataW Value × List MemPlace) := some (.held v, [])
/-- A slice of a known block's bytes: in a row of its own. -/
def KnownV (w : World) (base B : Nat) (v : Value) (l : List UInt8) : Prop := ∃ g cap cur, v = .slice (some ⟨g, 0, none⟩) l.length cap ∧ base ≤ g ∧ w.heap[g]? = some (.cells cur 5 (0, 0)) ∧ (∀ (j : Nat) (u : UInt8), l[j]? = some u → cur[j]? = some (.int .u8 (u.toNat : Nat))) ∧ ¬ RowOf w B g
/-- What is known: each block's bytes. -/
def KnownA (w : World) (base B M n : Nat) : Prop := ∃ D, w.ownsMap Tryd.prog 82 heldR M n D ∧ ∀ c z, fitsL c → has D (kB c) = true → ∃ v, D.atKey (kB c) z = .held v ∧ KnownV w base B v (runsB 1 c)
abbrev wrO (v : Value) (M : Nat) : Obj := .cells (#[v] ++ #[.map (some M)]) 76 (0, 0)
/-- The writer's state. -/
structure WrI (w : World) (base B M : Nat) (l : List UInt8) (n : Nat) : Prop where
  lt : B < base ∧ M < base ∧ B ≠ M
  laid : LaidC w base B #[.map (some M)] 76 l
  known : KnownA w base B M n
theorem KnownV.turn {w w' : World} {base B : Nat} {v : Value} {l : List UInt8} {S : Nat → Prop} (h : KnownV w base B v l) (hm : Moves S w w') (hS : ∀ k, S k → base ≤ k → RowOf w B k ∨ ∃ t c, t ≠ 5 ∧ w.heap[k]? = some (.cells c t (0, 0))) (hr : ∀ k, RowOf w' B k → RowOf w B k ∨ w.heap.size ≤ k) : KnownV w' base B v l := by
  obtain ⟨g, cap, cur, rfl, hb, hg, hc, hn⟩ := h
  refine ⟨g, cap, cur, rfl, hb, row_keep hg hm (fun hs => ?_), hc, fun hr' => ?_⟩
  · rcases hS g hs hb with h1 | ⟨t, c, ht, h1⟩
    · exact hn h1
    · rw [hg] at h1
      injection h1 with h1
      injection h1 with _ h2 _
      exact ht h2.symm
  · rcases hr g hr' with h1 | h1
    · exact hn h1
    · have := (Array.getElem?_eq_some_iff.1 hg).1; omega
theorem KnownV.at {w : World} {base B : Nat} {v : Value} {l : List UInt8} (h : KnownV w base B v l) : ∃ o cap, v = .slice o l.length cap ∧ AtB w o l := by
  obtain ⟨g, cap, cur, rfl, hb, hg, hc, hn⟩ := h
  exact ⟨_, cap, rfl, g, 0, rfl, fun j u hj => by rw [Nat.zero_add, cell_of_row _ _ j _ _ _ hg]; exact hc j u hj⟩
theorem runsB_pos {c : List Int} (h : fitsL c) : 0 < (runsB 1 c).length ∧ (runsB 1 c).length ≤ 512 := by
  have h1 := expR_runs c
  have h2 := h.2
  have h3 := runsL_len c
  unfold runsB
  rw [flat_len (.inl rfl)]
  refine ⟨?_, by omega⟩
  cases hr : runsL c with
  | nil => rw [hr] at h1; rw [← h1] at h2; cases h2
  | cons a r => simp
end Go.Proofs.YtcnbcaljpgdcpaaDoor
