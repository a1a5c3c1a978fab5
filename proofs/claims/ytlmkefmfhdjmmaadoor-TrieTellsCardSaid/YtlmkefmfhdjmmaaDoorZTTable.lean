/- Table: a trie cut. -/
import Derived.Test.YtlmkefmfhdjmmaaDoorZTRefOwn
import Derived.Test.YtlmkefmfhdjmmaaDoorZTRefPut
import Derived.BigQuiet
namespace Go.Proofs.YtlmkefmfhdjmmaaDoor
open Go.RowKit Go.Shelf Go.Maps
attribute [local go_sem] Oper.semAt_some
attribute [local go_sem ↓] app_hide

def tableT (t : TrieD) : TrieD := (t.1.take 4360, (t.2.take 30).map fun b => b.take 260)
theorem IntsT.take {w : World} {o : Option Addr} {l : List Int} (h : IntsT w o l) (k : Nat) : IntsT w o (l.take k) := fun hn => by
  rw [List.length_take] at hn
  obtain ⟨g, off, ho, hc⟩ := h (by omega)
  refine ⟨g, off, ho, fun j x hx => hc j x ?_⟩
  rw [List.getElem?_take] at hx
  split at hx
  · exact hx
  · cases hx
/-- The blocks cut so far. -/
def CutC (w : World) (cs : List Value) (bs : List (List Int)) : Prop := ∀ (j : Nat) (b : List Int), bs[j]? = some b → ∃ so sc, cs[j]? = some (.slice so (b.take 260).length sc) ∧ (b.take 260).length ≤ sc ∧ IntsT w so (b.take 260)
/-- Between two rounds. -/
structure TabI (w W3 : World) (io : Option Addr) (k ic : Nat) (bs : List (List Int)) (j : Nat) (o : Option Addr) (c : Nat) (wr : World) : Prop where
  row : wr.heap[w.heap.size + 2]? = some (trieO io k ic o j c)
  own : ∃ cs, wr.ownsRow W3.heap.size 25 1 (.slice o j c) j cs ∧ CutC w cs (bs.take j)
  kept : Moves (fun x => x = w.heap.size + 2) W3 wr
theorem tab_step {w W3 wr : World} {io : Option Addr} {k ic : Nat} {bs : List (List Int)} {j : Nat} {o : Option Addr} {c : Nat} (h : TabI w W3 io k ic bs j o c wr) (hz : W3.heap.size = w.heap.size + 3) (hj : j ≤ 1000) {b : List Int} (hb : bs[j]? = some b) (so : Option Addr) (sc : Nat) (hsc : (b.take 260).length ≤ sc) (hB : IntsT w so (b.take 260)) :
    ∃ g9 c9 w9, (appSem #[26, 26] 26 #[.slice o j c, .slice (some ⟨wr.heap.size, 0, none⟩) 1 1]).run Tryd.prog (wr.alloc (.cells #[.slice so (b.take 260).length sc] 25)).drew = .ok (.slice (some ⟨g9, 0, none⟩) (j + 1) c9) w9 ∧
      w9.cell? ⟨w.heap.size + 2, 1, none⟩ = some (.slice o j c) ∧ w9.frozen? ⟨w.heap.size + 2, 1, none⟩ = false ∧ w.heap.size + 2 < w9.heap.size ∧
      TabI w W3 io k ic bs (j + 1) (some ⟨g9, 0, none⟩) c9 (w9.setCell ⟨w.heap.size + 2, 1, none⟩ (.slice (some ⟨g9, 0, none⟩) (j + 1) c9)) := by
  obtain ⟨cs, hcs, hcut⟩ := h.own
  have hzk := h.kept.size
  have a8 : Below wr.heap.size wr (wr.drew.alloc (.cells #[.slice so (b.take 260).length sc] 25)) := ((Below.refl wr.heap.size wr).drew).alloc (Nat.le_refl _) _
  have hcs8 := own_below hcs a8
  obtain ⟨j0, hj0, hy0, hy1, hy2⟩ := info_parts infoIntsT
  obtain ⟨v9, w9, hr9, h29, h39, h49, hat9⟩ := run_append_own_at (P := Tryd.prog) (wr.drew.alloc (.cells #[.slice so (b.take 260).length sc] 25)) W3.heap.size 26 26 25 j0 (.slice none 0 0) 1 24 Tryd.underlying26 hj0 hy0 hy1 hy2 rfl (by decide) _ j cs hcs8 ⟨wr.heap.size, 0, none⟩ 1 1 [.slice so (b.take 260).length sc] rfl
    (cell_one_new wr.drew _ _) (by simp [Value.oneCell']) (by unfold maxLen; omega) (by omega) (by have := a8.size; omega)
  obtain ⟨o9, c9, rfl⟩ := own_form h29
  obtain ⟨g9, rfl⟩ : ∃ g9, o9 = some ⟨g9, 0, none⟩ := by
    rcases h29.2 with ⟨_, h0⟩ | ⟨g, cap, cu, h', _⟩
    · omega
    · exact ⟨g, by injection h'⟩
  have hob : ∀ x, (Value.slice o j c).ownBlock = some x → W3.heap.size ≤ x := fun x hx => by
    obtain ⟨_, _, h3⟩ := own_rowT hcs hx
    exact h3
  have m9 : Moves (fun x => (Value.slice o j c).ownBlock = some x) wr w9 := (Moves.of_below a8).trans ((Moves.of_grownN h39).mono fun x hx => hx.symm)
  have row9 := row_keep h.row m9 (fun hx => by have := hob _ hx; omega)
  obtain ⟨e0, e1, e2, e3, e4⟩ := trie_cells row9
  refine ⟨g9, c9, w9, hr9, e1, e3, e4, ⟨trie_set2 _ row9, ⟨cs ++ [.slice so (b.take 260).length sc], own_moves1N h29 (Moves.setCell (S := fun x => x = w.heap.size + 2) rfl) (fun x hx e => ?_), fun i d hd => ?_⟩, ?_⟩⟩
  · obtain ⟨_, _, h3⟩ := own_rowT h29 hx
    omega
  · have hcl : cs.length = j := by have := hcs.1; omega
    rw [List.take_add_one, hb] at hd
    have htl : (bs.take j).length = j := by rw [List.length_take]; have := (List.getElem?_eq_some_iff.1 hb).1; omega
    rcases Nat.lt_or_ge i j with hl | hl
    · rw [List.getElem?_append_left (by omega)] at hd
      obtain ⟨so', sc', k1, k2, k3⟩ := hcut i d hd
      exact ⟨so', sc', by rw [List.getElem?_append_left (by omega)]; exact k1, k2, k3⟩
    · rw [List.getElem?_append_right (by omega)] at hd
      have h0 : i - (bs.take j).length = 0 := by have := (List.getElem?_eq_some_iff.1 hd).1; simp at this; omega
      rw [h0] at hd
      cases hd
      exact ⟨so, sc, by rw [List.getElem?_append_right (by omega), show i - cs.length = 0 by omega]; rfl, hsc, hB⟩
  · have mm : Moves (fun x => x = w.heap.size + 2 ∨ W3.heap.size ≤ x) W3 (w9.setCell ⟨w.heap.size + 2, 1, none⟩ (.slice (some ⟨g9, 0, none⟩) (j + 1) c9)) := ((h.kept.mono fun x hx => .inl hx).trans (m9.mono fun x hx => .inr (hob x hx))).trans (Moves.setCell (.inl rfl))
    exact ⟨mm.os, mm.tape, mm.output, mm.size, fun x hx hs => mm.block x hx (by omega)⟩
/-- A store into a trie's own box. -/
theorem IntsT.box {w w2 : World} {B : Nat} {x y : Option Addr} {xl xc yl yc : Nat} {ty : TypeId} {o : Option Addr} {l : List Int} (h : IntsT w o l) (hB : w.heap[B]? = some (.cells #[.slice x xl xc, .slice y yl yc] ty (0, 0))) (hm : Moves (fun k => k = B) w w2) : IntsT w2 o l := fun hn => by
  obtain ⟨g, off, ho, hc⟩ := h hn
  refine ⟨g, off, ho, fun j z hz => cell_moves hm ?_ (hc j z hz)⟩
  rintro rfl
  have h1 := hc j z hz
  rw [cell_of_row _ _ _ _ _ _ hB] at h1
  rcases hk : off + j with _ | _ | k
  · rw [hk] at h1; cases h1
  · rw [hk] at h1; cases h1
  · rw [hk] at h1; cases h1
theorem TrieT.box {w w2 : World} {B : Nat} {x y : Option Addr} {xl xc yl yc : Nat} {ty : TypeId} {io bo : Option Addr} {t : TrieD} (h : TrieT w io bo t) (hB : w.heap[B]? = some (.cells #[.slice x xl xc, .slice y yl yc] ty (0, 0))) (hn : ∀ k, inB bo k → k ≠ B) (hm : Moves (fun k => k = B) w w2) : TrieT w2 io bo t :=
  ⟨h.ix.box hB hm, fun hl => by
    obtain ⟨g, off, ho, hc⟩ := h.bl hl
    refine ⟨g, off, ho, fun j b hb => ?_⟩
    obtain ⟨so, sc, h1, h2, h3⟩ := hc j b hb
    exact ⟨so, sc, cell_moves hm (fun e => hn g ⟨_, ho, rfl⟩ e) h1, h2, h3.box hB hm⟩⟩
set_option maxRecDepth 100000 in
set_option maxHeartbeats 8000000 in
theorem table_any (io bo : Option Addr) (t : TrieD) (ic bc : Nat) (hic : t.1.length ≤ ic) (w : World) (hA : TrieT w io bo t) :
    Calls Tryd.prog 16 #[trieV io t.1.length ic bo t.2.length bc] w fun e w' => ∃ bo' bc', e = .returned (trieV io (tableT t).1.length ic bo' (tableT t).2.length bc') ∧ Below w.heap.size w w' ∧ TrieT w' io bo' (tableT t) ∧ ∀ x, inB bo' x → w.heap.size ≤ x := by
  obtain ⟨P, hP⟩ : ∃ P, (fun (e : Ending) (w' : World) => ∃ bo' bc', e = .returned (trieV io (tableT t).1.length ic bo' (tableT t).2.length bc') ∧ Below w.heap.size w w' ∧ TrieT w' io bo' (tableT t) ∧ ∀ x, inB bo' x → w.heap.size ≤ x) = P := ⟨_, rfl⟩
  have HP := Lib.hid hP
  rw [hP]
  obtain ⟨W, hW⟩ : ∃ W, (w.alloc (trieO io t.1.length ic bo t.2.length bc)).alloc (trieO none 0 0 none 0 0) = W := ⟨_, rfl⟩
  have A1 : Below w.heap.size w W := by rw [← hW]; exact ((Below.refl _ _).alloc (Nat.le_refl _) _).alloc (by simp) _
  have z1 : W.heap.size = w.heap.size + 2 := by rw [← hW]; simp
  have r0 : W.heap[w.heap.size]? = some (trieO io t.1.length ic bo t.2.length bc) := by rw [← hW, Below.heap_alloc _ _ _ (by simp)]; exact heap_alloc_new _ _
  have r1 : W.heap[w.heap.size + 1]? = some (trieO none 0 0 none 0 0) := by
    rw [← hW]
    have := heap_alloc_new (w.alloc (trieO io t.1.length ic bo t.2.length bc)) (trieO none 0 0 none 0 0)
    rwa [World.size_alloc] at this
  obtain ⟨n, hn⟩ : ∃ n, t.1.length = n := ⟨_, rfl⟩
  obtain ⟨q, hq⟩ : ∃ n, t.2.length = n := ⟨_, rfl⟩
  rw [hn] at hic
  rw [hn, hq] at r0 hW ⊢
  obtain ⟨k, hk⟩ : ∃ k, min n 4360 = k := ⟨_, rfl⟩
  have hk2 : min ((n : Nat) : Int) 4360 = ((k : Nat) : Int) := by omega
  have hkn : k ≤ n := by omega
  have hkc : k ≤ ic := by omega
  obtain ⟨W3, hW3⟩ : ∃ W3, W.alloc (trieO io k ic none 0 0) = W3 := ⟨_, rfl⟩
  have b3 : Below W.heap.size W W3 := by rw [← hW3]; exact (Below.refl _ _).alloc (Nat.le_refl _) _
  have z3 : W3.heap.size = w.heap.size + 3 := by rw [← hW3]; simp; omega
  obtain ⟨c0, c1, _, _, cl⟩ := trie_cells r0
  have HR3 : Hid (W3.heap[w.heap.size + 2]? = some (trieO io k ic none 0 0)) := Lib.hid (by
    rw [← hW3]
    have := heap_alloc_new W (trieO io k ic none 0 0)
    rwa [z1] at this)
  have HRA := Lib.hid (row_below r0 b3)
  have HRB := Lib.hid (row_below r1 b3)
  have HB3 := Lib.hid (A1.trans (b3.mono A1.size))
  have HA := Lib.hid hA
  have HN := Lib.hid hn
  have HQ := Lib.hid hq
  have HK := Lib.hid hk
  have HW := Lib.hid hW
  have HW3 := Lib.hid hW3
  have HZ3 := Lib.hid z3
  clear hP hW A1 r0 r1 hn hq hk hA hW3 b3 z3
  go_enter Tryd.func16, Tryd.ntmps16
  go_wp2_with fail
  rw [HW.out, HW3.out]
  have hz3 : w.heap.size + 2 < W3.heap.size := by rw [HZ3.out]; omega
  have HI0 : Hid (TabI w W3 io k ic t.2 0 none 0 W3) := Lib.hid ⟨HR3.out, ⟨[], World.ownsRow_nil _ _ _ _, fun j b h => by simp at h⟩, Moves.refl _ _⟩
  go_loopg [4] (min q 30) (fun d v wr => ∃ (j : Nat) (o : Option Addr) (c : Nat), v = .int .i64 (j : Nat) ∧ j ≤ min q 30 ∧ min q 30 - j = d ∧ Hid (TabI w W3 io k ic t.2 j o c wr))
  case atStart => exact ⟨0, none, 0, rfl, Nat.zero_le _, rfl, HI0⟩
  case round =>
    obtain ⟨j, o, c, rfl, hj, rfl, HI⟩ := hrel
    have hwj : IntKind.i64.wrap (((j : Nat) : Int) + 1) = ((j + 1 : Nat) : Int) := by rw [show ((j : Nat) : Int) + 1 = ((j + 1 : Nat) : Int) from by omega]; exact wrap_id (by omega) (by omega)
    have hI := HI.out
    obtain ⟨e0, e1, e2, e3, e4⟩ := trie_cells hI.row
    have hbr : Below (w.heap.size + 2) W3 wr := ⟨hI.kept.os, hI.kept.tape, hI.kept.output, hI.kept.size, fun x hx => hI.kept.block x (by rw [HZ3.out]; omega) (by omega)⟩
    have hra : wr.heap[w.heap.size]? = some (trieO io n ic bo q bc) := (hbr.block _ (by omega)).trans HRA.out
    obtain ⟨f0, f1, f2, f3, f4⟩ := trie_cells hra
    have hbw : Below w.heap.size w wr := HB3.out.trans (hbr.mono (by omega))
    rcases Nat.lt_or_ge j (min q 30) with hlt | hge
    · have hj1 : ((j : Nat) : Int) < ((q : Nat) : Int) := by omega
      have hj2 : ((j : Nat) : Int) < 30 := by omega
      have hj3 : j < q := by omega
      obtain ⟨b, hb⟩ : ∃ b, t.2[j]? = some b := ⟨_, List.getElem?_eq_getElem (by rw [HQ.out]; exact hj3)⟩
      obtain ⟨g, off, rfl, hx⟩ := HA.out.bl (by rw [HQ.out]; omega)
      obtain ⟨so, sc, k0w, hsc, hbi⟩ := hx j b hb
      have k0 := cell_keepT hbw k0w
      have hg := World.block_lt_of_cell? _ _ k0
      have hst := tab_step hI HZ3.out (by omega) hb so sc (by rw [List.length_take]; omega) (hbi.take 260)
      obtain ⟨bl, hbl⟩ : ∃ n, b.length = n := ⟨_, rfl⟩
      obtain ⟨kl, hkl⟩ : ∃ n, (b.take 260).length = n := ⟨_, rfl⟩
      have hkl2 : min ((bl : Nat) : Int) 260 = ((kl : Nat) : Int) := by rw [List.length_take] at hkl; omega
      have hkb : kl ≤ bl := by rw [List.length_take] at hkl; omega
      have hkc2 : kl ≤ sc := by omega
      rw [hbl] at k0
      rw [hkl] at hst
      obtain ⟨g9, c9, w9, hr9, s1, s3, s4, hI9⟩ := hst
      have HI9 := Lib.hid hI9
      have hfol : Tryd.prog.follows .mixedOrders = true := by kernel_rfl
      clear hI hI9 hx hbi k0w hsc hb hbl hkl hbr hra hbw
      go_wp2_with fail
      go_region
      all_goals
        go_simp
        go_wp2_with fail
        go_roundg (min q 30 - (j + 1))
        case measure => omega
        case rel => exact ⟨j + 1, some ⟨g9, 0, none⟩, c9, rfl, by omega, rfl, HI9⟩
    · have hjm : j = min q 30 := by omega
      have hj30 : j ≤ 1000 := by omega
      obtain ⟨cs, hcs, hcut⟩ := hI.own
      obtain ⟨t0, t1, g0, g1, tl⟩ := trie_cells ((hbr.block _ (by omega)).trans HRB.out)
      have hrb : wr.heap[w.heap.size + 1]? = some (trieO none 0 0 none 0 0) := (hbr.block _ (by omega)).trans HRB.out
      obtain ⟨r5, m5⟩ := trie_set (.slice io k ic) (.slice o j c) hrb
      obtain ⟨w5, hw5⟩ : ∃ w5, (wr.setCell ⟨w.heap.size + 1, 0, none⟩ (.slice io k ic)).setCell ⟨w.heap.size + 1, 1, none⟩ (.slice o j c) = w5 := ⟨_, rfl⟩
      rw [hw5] at r5 m5
      have hb5 : Below w.heap.size w w5 := Moves.below hbw hbw.size m5 (fun x hx => by omega)
      have hl1 : (tableT t).1.length = k := by unfold tableT; simp only [List.length_take, HN.out]; have := HK.out; omega
      have hl2 : (tableT t).2.length = j := by unfold tableT; simp only [List.length_map, List.length_take, HQ.out]; omega
      have hbs : t.2.take j = t.2.take 30 := by
        rw [hjm]
        rcases Nat.le_total q 30 with h | h
        · rw [Nat.min_eq_left h, List.take_of_length_le (by rw [HQ.out]; exact Nat.le_refl _), List.take_of_length_le (by rw [HQ.out]; exact h)]
        · rw [Nat.min_eq_right h]
      have hown : ∀ x, inB o x → w.heap.size ≤ x := by
        rintro x ⟨d, rfl, rfl⟩
        obtain ⟨_, _, h3⟩ := own_rowT hcs (show (Value.slice (some d) j c).ownBlock = some d.block from rfl)
        have := HZ3.out
        omega
      have HPP : Hid (P (.returned (trieV io k ic o j c)) w5) := by
        rw [← HP.out]
        refine Lib.hid ⟨o, c, by rw [hl1, hl2], hb5, ⟨(HA.out.ix.take 4360).below hb5, fun hn => ?_⟩, hown⟩
        rw [hl2] at hn
        rcases hcs.2 with ⟨_, h0⟩ | ⟨g, cap', cur, e, _, hg, _, _, _, htake⟩
        · omega
        · obtain ⟨rfl, rfl⟩ : o = some ⟨g, 0, none⟩ ∧ c = cap' := by simpa using e
          have hge : W3.heap.size ≤ g := by
            obtain ⟨_, _, h3⟩ := own_rowT hcs (show (Value.slice (some ⟨g, 0, none⟩) j c).ownBlock = some g from rfl)
            exact h3
          have hg5 : w5.heap[g]? = some (.cells cur 25 (0, 0)) := row_keep hg m5 (by omega)
          refine ⟨g, 0, rfl, fun i d hd => ?_⟩
          unfold tableT at hd
          simp only [List.getElem?_map] at hd
          cases hbd : (t.2.take 30)[i]? with
          | none => rw [hbd] at hd; cases hd
          | some b =>
            rw [hbd] at hd
            cases hd
            obtain ⟨so, sc, k1, k2, k3⟩ := hcut i b (by rw [hbs]; exact hbd)
            refine ⟨so, sc, ?_, k2, k3.below hb5⟩
            rw [Nat.zero_add, cell_of_row _ _ i _ _ _ hg5]
            rw [← htake, List.getElem?_take] at k1
            split at k1
            · rwa [Array.getElem?_toList] at k1
            · cases k1
      have HW5 := Lib.hid hw5
      have HR5 := Lib.hid r5
      have hcase : (¬ ((j : Nat) : Int) < ((q : Nat) : Int)) ∨ (((j : Nat) : Int) < ((q : Nat) : Int) ∧ ¬ ((j : Nat) : Int) < 30) := by omega
      clear hown hI hcs hcut hrb r5 m5 hw5 hb5 hl1 hl2 hbs hbr hra hbw hjm hge hj
      rcases hcase with h1 | ⟨h1, h2⟩
      all_goals
        go_wp2_with fail
        rw [HW5.out]
        exact bodyPost_ret (v := trieV io k ic o j c) (results_cell_row rfl _ _ (w.heap.size + 1) _ _ _ _ rfl HR5.out Tryd.underlying28 rfl (by kernel_rfl)) rfl HPP.out
end Go.Proofs.YtlmkefmfhdjmmaaDoor
