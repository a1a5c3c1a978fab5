/- marks.part: a line's sides. marks.rule: the rule that a line's sides say. sourceOf's reader: the rule that a line says. shown: sets' texts are known. The document's own Split; a text put behind others. source.lines: the lines of a text, each with its number. -/
import Derived.Test.YtnmhdcbpbaanoaaGreatDoorBunA21
import Derived.Test.YtnmhdcbpbaanoaaGreatDoorBunA20
import Derived.Test.YtnmhdcbpbaanoaaGreatDoorBunA18
namespace Go.Proofs.YtnmhdcbpbaanoaaGreatDoor
open Go.RowKit Go.Shelf Go.Maps
attribute [local go_sem] Oper.semAt_some

abbrev sideV (q : List UInt8 × List UInt8 × Int) : Value := .agg #[strV q.1, strV q.2.1, .int .i32 q.2.2]
/-- What holds between two rounds. -/
def ParI (s : ByteArray) (w : World) (p : Nat) (wr : World) : Prop :=
  NoM s.data.toList p ∧ wr.heap[w.heap.size + 1]? = some (.stringIter s p) ∧ wr.heap[w.heap.size]? = some (.cells #[.string ⟨#[]⟩, .string ⟨#[]⟩, .int .i32 0] 107 (0, 0)) ∧ Below w.heap.size w wr
theorem ParI.next {s : ByteArray} {w wr : World} {p q : Nat} (h : ParI s w p wr) (hn : NoM s.data.toList q) : ParI s w q (wr.iterAt (w.heap.size + 1) s q) :=
  ⟨hn, Lib.iterAt_heap _ _ _ p q h.2.1, by rw [Lib.iterAt_other _ _ _ _ _ (by omega)]; exact h.2.2.1, Lib.below_iterAt h.2.2.2 (by omega) s q⟩
/-- What holds within a drawn order: the answer's box is as it was. -/
def ParS (w W : World) : Prop := W.heap[w.heap.size]? = some (.cells #[.string ⟨#[]⟩, .string ⟨#[]⟩, .int .i32 0] 107 (0, 0)) ∧ Below w.heap.size w W
theorem ParS.below {w A B : World} (h : ParS w A) (hb : Below A.heap.size A B) : ParS w B := ⟨row_below h.1 hb, h.2.trans (hb.mono h.2.size)⟩
theorem ParS.cells {w W : World} (h : ParS w W) : w.heap.size < W.heap.size ∧ W.cell? ⟨w.heap.size, 0, none⟩ = some (.string ⟨#[]⟩) ∧ W.cell? ⟨w.heap.size, 1, none⟩ = some (.string ⟨#[]⟩) ∧ W.cell? ⟨w.heap.size, 2, none⟩ = some (.int .i32 0) ∧ W.frozen? ⟨w.heap.size, 0, none⟩ = false ∧ W.frozen? ⟨w.heap.size, 1, none⟩ = false ∧ W.frozen? ⟨w.heap.size, 2, none⟩ = false :=
  ⟨(Array.getElem?_eq_some_iff.1 h.1).1, three_cells h.1⟩
theorem ParS.done {w W : World} (h : ParS w W) (a b c : Value) : (((W.setCell ⟨w.heap.size, 0, none⟩ a).setCell ⟨w.heap.size, 1, none⟩ b).setCell ⟨w.heap.size, 2, none⟩ c).heap[w.heap.size]? = some (.cells #[a, b, c] 107 (0, 0)) ∧ Below w.heap.size w (((W.setCell ⟨w.heap.size, 0, none⟩ a).setCell ⟨w.heap.size, 1, none⟩ b).setCell ⟨w.heap.size, 2, none⟩ c) :=
  ⟨(three_setJ a b c h.1).1, Moves.below h.2 h.2.size (three_setJ a b c h.1).2 (fun k hk => by omega)⟩
set_option maxRecDepth 100000 in
set_option maxHeartbeats 4000000 in
theorem partJ_any (b : Nat) (s : ByteArray) (hs : s.size ≤ 1000000) (w : World) (hM : MarkMap w b) :
    Calls Tryz.prog 102 #[.map (some b), .string s] w fun e w' => e = .returned (sideV (sidesT s.data.toList)) ∧ Below w.heap.size w w' := by
  obtain ⟨P, hP⟩ : ∃ P, (fun (e : Ending) (w' : World) => e = .returned (sideV (sidesT s.data.toList)) ∧ Below w.heap.size w w') = P := ⟨_, rfl⟩
  have HP := Lib.hid hP
  rw [hP]
  obtain ⟨w1, hw1⟩ : ∃ w1, w.alloc (.cells #[.string ⟨#[]⟩, .string ⟨#[]⟩, .int .i32 0] 107) = w1 := ⟨_, rfl⟩
  have b1 : Below w.heap.size w w1 := by rw [← hw1]; exact (Below.refl _ _).alloc (Nat.le_refl _) _
  have z1 : w1.heap.size = w.heap.size + 1 := by rw [← hw1]; simp
  have r1 : w1.heap[w.heap.size]? = some (.cells #[.string ⟨#[]⟩, .string ⟨#[]⟩, .int .i32 0] 107 (0, 0)) := by rw [← hw1]; exact heap_alloc_new _ _
  have HZ1 := Lib.hid z1
  have HB1 := Lib.hid b1
  have HR1 := Lib.hid r1
  have HMM := Lib.hid hM
  clear hP b1 z1 r1 hM
  go_enter Tryz.func102, Tryz.ntmps102
  go_wp2_with fail
  go_loopg [5] (s.size) (fun k' v wr => ∃ p : Nat, p ≤ s.size ∧ k' = s.size - p ∧ Hid (ParI s w p wr))
  case atStart =>
    refine ⟨0, Nat.zero_le _, rfl, Lib.hid ⟨NoM.zero _, ?_, ?_, ?_⟩⟩
    · rw [← HZ1.out]; exact World.iter_heap w1 s 0
    · exact (Below.heap_alloc w1 (.stringIter s 0) w.heap.size (by have := HZ1.out; omega)).trans HR1.out
    · exact HB1.out.alloc (by have := HZ1.out; omega) _
  case round =>
    obtain ⟨p, hp, rfl, HI⟩ := hrel
    have hit : wr.heap[w1.heap.size]? = some (.stringIter s p) := by rw [HZ1.out]; exact HI.out.2.1
    have hpm : p ≤ 1000000 := by omega
    rcases Nat.lt_or_ge p s.size with hlt | hge
    · have hg := get_listQ s p hlt
      rcases Nat.lt_or_ge (s[p]'hlt).toNat 128 with ha | ha
      · have hnx := Lib.run_next_ascii_at (P := Tryz.prog) wr w1.heap.size s p 0 hit hlt ha
        obtain ⟨c, hc⟩ : ∃ c, s[p]'hlt = c := ⟨_, rfl⟩
        rw [hc] at hg hnx ha
        by_cases hm : c = 43 ∨ c = 47
        · obtain ⟨w2, hw2⟩ : ∃ w2, wr.iterAt w1.heap.size s (p + 1) = w2 := ⟨_, rfl⟩
          rw [hw2] at hnx
          have r2 : w2.heap[w.heap.size]? = some (.cells #[.string ⟨#[]⟩, .string ⟨#[]⟩, .int .i32 0] 107 (0, 0)) := by rw [← hw2, Lib.iterAt_other _ _ _ _ _ (by have := HZ1.out; omega)]; exact HI.out.2.2.1
          have b2 : Below w.heap.size w w2 := by rw [← hw2]; exact Lib.below_iterAt HI.out.2.2.2 (by have := HZ1.out; omega) _ _
          have hmk := mark_ok (HMM.out.below b2) (c := ((c.toNat : Nat) : Int)) (wf_i32 (by omega) (by omega))
          have hyes : isMark ((c.toNat : Nat) : Int) = true := by
            unfold isMark
            rcases hm with rfl | rfl <;> rfl
          rw [hyes] at hmk
          obtain ⟨X, hX⟩ : ∃ X, s.extract 0 p = X := ⟨_, rfl⟩
          obtain ⟨Y, hY⟩ : ∃ Y, s.extract (p + 1) s.size = Y := ⟨_, rfl⟩
          have hXs : X.size ≤ s.size := by rw [← hX]; exact cut_sizeQ s _ _ (by omega)
          have hYs : Y.size ≤ s.size := by rw [← hY]; exact cut_sizeQ s _ _ (Nat.le_refl _)
          have hXl : X.data.toList = s.data.toList.take p := by rw [← hX, cut_listQ]; simp
          have hYl : Y.data.toList = s.data.toList.drop (p + 1) := by rw [← hY]; exact rest_listQ s _
          have hwp : IntKind.i64.wrap (((p : Nat) : Int) + 1) = ((p + 1 : Nat) : Int) := wrap_id (by omega) (by omega)
          have HT := Lib.hid (fun W => trimJ_any X W (by omega))
          have HU := Lib.hid (fun W => trimJ_any Y W (by omega))
          rw [hXl] at HT
          rw [hYl] at HU
          have HPP : Hid (∀ W, Below w.heap.size w W → P (.returned (.agg #[strV (trimL (s.data.toList.take p)), strV (trimL (s.data.toList.drop (p + 1))), .int .i32 ((c.toNat : Nat) : Int)])) W) := by
            rw [← HP.out]
            exact Lib.hid fun W h => ⟨by rw [sidesT_at HI.out.1 hg hm], h⟩
          obtain ⟨TX, hTX⟩ : ∃ r : ByteArray, ⟨(trimL (s.data.toList.take p)).toArray⟩ = r := ⟨_, rfl⟩
          obtain ⟨TY, hTY⟩ : ∃ r : ByteArray, ⟨(trimL (s.data.toList.drop (p + 1))).toArray⟩ = r := ⟨_, rfl⟩
          simp only [strV, hTX] at HT HPP
          simp only [strV, hTY] at HU HPP
          have HD : Hid (ParS w w2.drew) := Lib.hid (ParS.below ⟨r2, b2⟩ ((Below.refl _ _).drew))
          have HT2 : Hid (∀ W, Hid (ParS w W) → Calls Tryz.prog 126 #[.string X] W fun e w' => e = .returned (.string TX) ∧ Hid (ParS w w')) := Lib.hid fun W h => (HT.out W).mono fun e w' h2 => ⟨h2.1, Lib.hid (h.out.below h2.2)⟩
          have HU2 : Hid (∀ W, Hid (ParS w W) → Calls Tryz.prog 126 #[.string Y] W fun e w' => e = .returned (.string TY) ∧ Hid (ParS w w')) := Lib.hid fun W h => (HU.out W).mono fun e w' h2 => ⟨h2.1, Lib.hid (h.out.below h2.2)⟩
          clear hg hm hyes HI hit hXl hYl hTX hTY hXs hYs r2 b2 HP HMM HR1 hc HT HU
          go_wp2_with fail
          go_region_with (go_at_call 126; first | (with_reducible refine (HT2.out _ (by first | exact hg | exact HD)).mono ?_; rintro e w3 ⟨rfl, hg⟩; obtain ⟨l0, f0, f1, f2, g0, g1, g2⟩ := hg.out.cells) | (with_reducible refine (HU2.out _ (by first | exact hg | exact HD)).mono ?_; rintro e w3 ⟨rfl, hg⟩; obtain ⟨l0, f0, f1, f2, g0, g1, g2⟩ := hg.out.cells))
          all_goals
            go_wp2
            have h9 := hg.out.done (.string TX) (.string TY) (.int .i32 ((c.toNat : Nat) : Int))
            exact bodyPost_ret (v := .agg #[.string TX, .string TY, .int .i32 ((c.toNat : Nat) : Int)]) (results_cellJ rfl _ _ w.heap.size _ _ _ _ rfl h9.1 Tryz.underlying107 rfl (by kernel_rfl)) rfl (HPP.out _ h9.2)
        · have HN : Hid (ParI s w (p + 1) (wr.iterAt w1.heap.size s (p + 1))) := Lib.hid (by rw [HZ1.out]; exact HI.out.next (HI.out.1.skip hg hm))
          have hmk := mark_ok (HMM.out.below HN.out.2.2.2) (c := ((c.toNat : Nat) : Int)) (wf_i32 (by omega) (by omega))
          have hno : isMark ((c.toNat : Nat) : Int) = false := by
            unfold isMark
            rw [decide_eq_false (fun h => hm (.inl (bytes_eq (b := 43) (show c.toNat = 43 by omega)))), decide_eq_false (fun h => hm (.inr (bytes_eq (b := 47) (show c.toNat = 47 by omega))))]
            rfl
          rw [hno] at hmk
          clear hg hc hm hno HI hit
          go_wp2
          go_roundg (s.size - (p + 1))
          case measure => omega
          case rel => exact ⟨p + 1, by omega, rfl, HN⟩
      · obtain ⟨k1, k2, k3⟩ := high_bytes s p hlt ha
        have kr := (decode_high s p hlt ha).1
        have kl := decode_le s p
        have hnx := Lib.run_next_any_at (P := Tryz.prog) wr w1.heap.size s p 0 hit hlt
        obtain ⟨c, hc⟩ : ∃ c, (Utf8.decode s p).1 = c := ⟨_, rfl⟩
        obtain ⟨k, hk⟩ : ∃ k, (Utf8.decode s p).2 = k := ⟨_, rfl⟩
        rw [hk] at k1 k2 k3 hnx
        rw [hc] at kr kl hnx
        have HN : Hid (ParI s w (p + k) (wr.iterAt w1.heap.size s (p + k))) := Lib.hid (by rw [HZ1.out]; exact HI.out.next (HI.out.1.high k3))
        have hmk := mark_ok (HMM.out.below HN.out.2.2.2) (c := ((c : Nat) : Int)) (wf_i32 (by omega) (by omega))
        have hno : isMark ((c : Nat) : Int) = false := by
          unfold isMark
          rw [decide_eq_false (by omega), decide_eq_false (by omega)]
          rfl
        rw [hno] at hmk
        clear hg hc hno HI hit hk k3 kr kl
        go_wp2
        go_roundg (s.size - (p + k))
        case measure => omega
        case rel => exact ⟨p + k, by omega, rfl, HN⟩
    · obtain rfl : p = s.size := by omega
      have hnx := Lib.run_next_end_at (P := Tryz.prog) wr w1.heap.size s s.size 0 hit (by omega)
      have HS : Hid (ParS w wr) := Lib.hid HI.out.2.2
      obtain ⟨l0, f0, f1, f2, g0, g1, g2⟩ := HS.out.cells
      have h9 := HS.out.done (.string ⟨#[]⟩) (.string ⟨#[]⟩) (.int .i32 0)
      have HQ : Hid (P (.returned (.agg #[.string ⟨#[]⟩, .string ⟨#[]⟩, .int .i32 0])) ((((wr.setCell ⟨w.heap.size, 0, none⟩ (.string ⟨#[]⟩)).setCell ⟨w.heap.size, 1, none⟩ (.string ⟨#[]⟩)).setCell ⟨w.heap.size, 2, none⟩ (.int .i32 0)))) := by
        rw [← HP.out]
        exact Lib.hid ⟨by rw [sidesT_none (show NoM s.data.toList s.data.toList.length from by have := HI.out.1; rwa [show s.data.toList.length = s.size from Array.length_toList])], h9.2⟩
      have H9 := Lib.hid h9.1
      clear h9 HI hit HP HR1 HMM
      go_wp2
      exact bodyPost_ret (v := .agg #[.string ⟨#[]⟩, .string ⟨#[]⟩, .int .i32 0]) (results_cellJ rfl _ _ w.heap.size _ _ _ _ rfl H9.out Tryz.underlying107 rfl (by kernel_rfl)) rfl HQ.out
end Go.Proofs.YtnmhdcbpbaanoaaGreatDoor

namespace Go.Proofs.YtnmhdcbpbaanoaaGreatDoor
open Go.RowKit Go.Shelf Go.Maps
attribute [local go_sem] Oper.semAt_some

abbrev markB : ByteArray := ⟨#[108, 105, 110, 101, 32, 119, 105, 116, 104, 111, 117, 116, 32, 109, 97, 114, 107]⟩
abbrev sideB : ByteArray := ⟨#[115, 105, 100, 101]⟩
abbrev zeroR : Array Value := #[.bool false, .slice none 0 0, .bool false, .slice none 0 0, .bool false]
theorem five_setJ {w : World} {g : Nat} {t : TypeId} {u0 u1 u2 u3 u4 : Value} (a b c d e : Value) (h : w.heap[g]? = some (.cells #[u0, u1, u2, u3, u4] t (0, 0))) :
    (((((w.setCell ⟨g, 0, none⟩ a).setCell ⟨g, 1, none⟩ b).setCell ⟨g, 2, none⟩ c).setCell ⟨g, 3, none⟩ d).setCell ⟨g, 4, none⟩ e).heap[g]? = some (.cells #[a, b, c, d, e] t (0, 0)) ∧ Moves (fun k => k = g) w (((((w.setCell ⟨g, 0, none⟩ a).setCell ⟨g, 1, none⟩ b).setCell ⟨g, 2, none⟩ c).setCell ⟨g, 3, none⟩ d).setCell ⟨g, 4, none⟩ e) := by
  have h1 : (w.setCell ⟨g, 0, none⟩ a).heap[g]? = some (.cells #[a, u1, u2, u3, u4] t (0, 0)) := by rw [heap_setCell_same _ _ _ _ _ _ h]; rfl
  have h2 : ((w.setCell ⟨g, 0, none⟩ a).setCell ⟨g, 1, none⟩ b).heap[g]? = some (.cells #[a, b, u2, u3, u4] t (0, 0)) := by rw [heap_setCell_same _ _ _ _ _ _ h1]; rfl
  have h3 : (((w.setCell ⟨g, 0, none⟩ a).setCell ⟨g, 1, none⟩ b).setCell ⟨g, 2, none⟩ c).heap[g]? = some (.cells #[a, b, c, u3, u4] t (0, 0)) := by rw [heap_setCell_same _ _ _ _ _ _ h2]; rfl
  have h4 : ((((w.setCell ⟨g, 0, none⟩ a).setCell ⟨g, 1, none⟩ b).setCell ⟨g, 2, none⟩ c).setCell ⟨g, 3, none⟩ d).heap[g]? = some (.cells #[a, b, c, d, u4] t (0, 0)) := by rw [heap_setCell_same _ _ _ _ _ _ h3]; rfl
  exact ⟨by rw [heap_setCell_same _ _ _ _ _ _ h4]; rfl, ((((Moves.setCell (S := fun k => k = g) rfl).trans (Moves.setCell (S := fun k => k = g) rfl)).trans (Moves.setCell (S := fun k => k = g) rfl)).trans (Moves.setCell (S := fun k => k = g) rfl)).trans (Moves.setCell (S := fun k => k = g) rfl)⟩
set_option maxRecDepth 100000 in
set_option maxHeartbeats 1000000 in
theorem mruleJ_none (b : Nat) (on : Option Addr) (n ncap : Nat) (w : World) :
    Calls Tryz.prog 101 #[.map (some b), .agg #[.string ⟨#[]⟩, .string ⟨#[]⟩, .int .i32 0], .slice on n ncap] w fun e w' => e = .returned (.tuple #[.agg zeroR, partVJ markB 90]) ∧ Below w.heap.size w w' := by
  obtain ⟨w1, hw1⟩ : ∃ w1, w.alloc (.cells #[.string ⟨#[]⟩, .string ⟨#[]⟩, .int .i32 0] 107) = w1 := ⟨_, rfl⟩
  have b1 : Below w.heap.size w w1 := by rw [← hw1]; exact (Below.refl _ _).alloc (Nat.le_refl _) _
  have z1 : w1.heap.size = w.heap.size + 1 := by rw [← hw1]; simp
  obtain ⟨w2, hw2⟩ : ∃ w2, w1.alloc (.cells zeroR 37) = w2 := ⟨_, rfl⟩
  have b2 : Below w1.heap.size w1 w2 := by rw [← hw2]; exact (Below.refl _ _).alloc (Nat.le_refl _) _
  have r2 : w2.heap[w.heap.size + 1]? = some (.cells zeroR 37 (0, 0)) := by rw [← hw2, ← z1]; exact heap_alloc_new _ _
  obtain ⟨q0, q1, q2, q3, q4⟩ := five_cells r2
  have fz : ∀ i, w2.frozen? ⟨w.heap.size + 1, i, none⟩ = false := fun i => frozen_of_row w2 (w.heap.size + 1) i _ _ r2
  have f0 := fz 0
  have f1 := fz 1
  have f2 := fz 2
  have f3 := fz 3
  have f4 := fz 4
  have lz : w.heap.size + 1 < w2.heap.size := (Array.getElem?_eq_some_iff.1 r2).1
  obtain ⟨r6, m6⟩ := five_setJ (.bool false) (.slice none 0 0) (.bool false) (.slice none 0 0) (.bool false) r2
  have B2 := b1.trans (b2.mono b1.size)
  have HB6 := Lib.hid (Moves.below B2 B2.size m6 (fun k hk => by omega))
  have HR6 := Lib.hid r6
  have HW1 := Lib.hid hw1
  have HW2 := Lib.hid hw2
  have HIN := Lib.hid (faultIn_any markB 90 w2)
  clear hw1 hw2 b1 b2 r2 z1 B2 fz r6 m6
  go_enter Tryz.func101, Tryz.ntmps101
  go_wp2_with fail
  rw [HW1.out]
  try rw [HW2.out]
  refine HIN.out.mono ?_
  rintro e _ ⟨rfl, rfl⟩
  go_wp2_with fail
  exact bodyPost_ret (v := .tuple #[.agg zeroR, partVJ markB 90]) (results_cell_tmp rfl _ _ (w.heap.size + 1) _ _ _ _ _ rfl rfl HR6.out Tryz.underlying37 rfl (by kernel_rfl)) rfl ⟨rfl, HB6.out⟩
/-- What is wrong with the sides of a line that has a mark. -/
def ruleE (ns : List ByteArray) (a b : List UInt8) : ErrJ := if parsePE ns a ≠ 0 ∨ parsePE ns b ≠ 0 ∨ (parsePV ns b).1 = true then .part sideB 90 else .none
def RulR (ns : List ByteArray) (a b : List UInt8) (c : Int) (w : World) (e : Ending) (w' : World) : Prop :=
  ∃ x : RulX, e = .returned (.tuple #[rulV x, errVJ (ruleE ns a b)]) ∧ (ruleE ns a b = .none → plX x = (parsePV ns a, parsePV ns b, decide (c = 47)) ∧ ItsC w' [x] ∧ (∀ k, (inQ x.1.2.1 k ∨ inQ x.2.1.2.1 k) → w.heap.size ≤ k ∧ k < w'.heap.size)) ∧ Below w.heap.size w w'
abbrev rul0 : RulX := ((false, none, [], 0), (false, none, [], 0), false)
set_option maxRecDepth 100000 in
set_option maxHeartbeats 4000000 in
theorem mruleJ_some (b : Nat) (A B : ByteArray) (c : Int) (hA : A.size ≤ 1000000) (hB : B.size ≤ 1000000) (hc : c = 43 ∨ c = 47) (on : Option Addr) (ns : List ByteArray) (ncap : Nat) (hn : ns.length ≤ 1000) (hz : ∀ s ∈ ns, s.size ≤ 1000) (w : World) (aU aS : Addr) (hQ : GlobQ w aU aS) (hG : KGlob w) (hN : TxtAt w on ns) (hM : MarkMap w b) :
    Calls Tryz.prog 101 #[.map (some b), .agg #[.string A, .string B, .int .i32 c], .slice on ns.length ncap] w (RulR ns A.data.toList B.data.toList c w) := by
  obtain ⟨P, hP⟩ : ∃ P, RulR ns A.data.toList B.data.toList c w = P := ⟨_, rfl⟩
  have HP := Lib.hid hP
  rw [hP]
  have HA := Lib.hid (fun W (hb : Below w.heap.size w W) => Parse_anyQ A hA on ns ncap hn hz W aU aS (hQ.below hb) (hG.below hb) (hN.below hb))
  have HBB := Lib.hid (fun W (hb : Below w.heap.size w W) => Parse_anyQ B hB on ns ncap hn hz W aU aS (hQ.below hb) (hG.below hb) (hN.below hb))
  have HMM := Lib.hid hM
  obtain ⟨w1, hw1⟩ : ∃ w1, w.alloc (.cells #[.string A, .string B, .int .i32 c] 107) = w1 := ⟨_, rfl⟩
  have b1 : Below w.heap.size w w1 := by rw [← hw1]; exact (Below.refl _ _).alloc (Nat.le_refl _) _
  have z1 : w1.heap.size = w.heap.size + 1 := by rw [← hw1]; simp
  have r1 : w1.heap[w.heap.size]? = some (.cells #[.string A, .string B, .int .i32 c] 107 (0, 0)) := by rw [← hw1]; exact heap_alloc_new _ _
  obtain ⟨w2, hw2⟩ : ∃ w2, w1.alloc (.cells zeroR 37) = w2 := ⟨_, rfl⟩
  have b2 : Below w1.heap.size w1 w2 := by rw [← hw2]; exact (Below.refl _ _).alloc (Nat.le_refl _) _
  have r2 : w2.heap[w.heap.size + 1]? = some (.cells zeroR 37 (0, 0)) := by rw [← hw2, ← z1]; exact heap_alloc_new _ _
  have B2 := b1.trans (b2.mono b1.size)
  obtain ⟨s0, s1, s2, _⟩ := three_cells (row_below r1 b2)
  have HR1 := Lib.hid (row_below r1 b2)
  have HR2 := Lib.hid r2
  have HW1 := Lib.hid hw1
  have HW2 := Lib.hid hw2
  have HC1 := Lib.hid (HA.out w2 B2)
  have HB2 := Lib.hid B2
  have HC := Lib.hid hc
  have hc0 : ¬ c = 0 := by omega
  have hcb : (c == 0) = false := by simpa using hc0
  obtain ⟨n, hnn⟩ : ∃ n, ns.length = n := ⟨_, rfl⟩
  rw [hnn] at HC1 HBB ⊢
  clear hP hM hw1 hw2 b1 b2 r1 r2 z1 B2 hQ hG hN hnn hA hB hn hz HA hc
  go_enter Tryz.func101, Tryz.ntmps101
  go_wp2_with fail
  rw [HW1.out, HW2.out]
  refine HC1.out.mono ?_
  rintro e w3 ⟨o1, c1, rfl, a1, l1, k1, b3⟩
  obtain ⟨xs1, hx1⟩ : ∃ q, (parsePV ns A.data.toList).2 = q := ⟨_, rfl⟩
  obtain ⟨s1', hs1⟩ : ∃ q, (parsePV ns A.data.toList).1 = q := ⟨_, rfl⟩
  obtain ⟨pe1, hp1⟩ : ∃ q, parsePE ns A.data.toList = q := ⟨_, rfl⟩
  rw [hx1] at a1 l1 ⊢
  rw [hs1, hp1]
  obtain ⟨m1, hm1⟩ : ∃ q, xs1.length = q := ⟨_, rfl⟩
  rw [hm1]
  have HB3 := HB2.out.trans (b3.mono HB2.out.size)
  obtain ⟨w4, hw4⟩ : ∃ w4, w3.alloc (patO s1' o1 m1 c1) = w4 := ⟨_, rfl⟩
  replace hw4 : w3.alloc (.cells #[.bool s1', .slice o1 m1 c1] 35) = w4 := hw4
  have b4 : Below w3.heap.size w3 w4 := by rw [← hw4]; exact (Below.refl _ _).alloc (Nat.le_refl _) _
  have r4 : w4.heap[w3.heap.size]? = some (patO s1' o1 m1 c1) := by rw [← hw4]; exact heap_alloc_new _ _
  have HB4 := Lib.hid (HB3.trans (b4.mono HB3.size))
  have HR14 := Lib.hid (row_below (row_below HR1.out b3) b4)
  have HR24 := Lib.hid (row_below (row_below HR2.out b3) b4)
  have HA1 := Lib.hid (a1.below b4)
  have HL1 := Lib.hid l1
  have HK1 : Hid (∀ k, inQ o1 k → w.heap.size + 2 ≤ k ∧ k < w4.heap.size) := Lib.hid fun k hk => by
    have h1 := k1 k hk
    have h2 := b4.size
    have h3 := (Array.getElem?_eq_some_iff.1 HR2.out).1
    omega
  have HX1 := Lib.hid (show (parsePV ns A.data.toList) = (s1', xs1) from Prod.ext hs1 hx1)
  have HP1 := Lib.hid hp1
  have HM1 := Lib.hid hm1
  have HR4 := Lib.hid r4
  have HC2 := Lib.hid (HBB.out w4 HB4.out)
  clear s0 s1 s2 a1 l1 k1 b3 b4 r4 HB3 hx1 hs1 hp1 hm1 HC1 HW1 HW2 HR1 HR2 HBB
  obtain ⟨s0, s1, s2, _⟩ := three_cells HR14.out
  go_wp2_with fail
  refine HC2.out.mono ?_
  rintro e w5 ⟨o2, c2, rfl, a2, l2, k2, b5⟩
  obtain ⟨xs2, hx2⟩ : ∃ q, (parsePV ns B.data.toList).2 = q := ⟨_, rfl⟩
  obtain ⟨s2', hs2⟩ : ∃ q, (parsePV ns B.data.toList).1 = q := ⟨_, rfl⟩
  obtain ⟨pe2, hp2⟩ : ∃ q, parsePE ns B.data.toList = q := ⟨_, rfl⟩
  rw [hx2] at a2 l2 ⊢
  rw [hs2, hp2]
  obtain ⟨m2, hm2⟩ : ∃ q, xs2.length = q := ⟨_, rfl⟩
  rw [hm2]
  have HB5 := HB4.out.trans (b5.mono HB4.out.size)
  obtain ⟨w6, hw6⟩ : ∃ w6, w5.alloc (patO s2' o2 m2 c2) = w6 := ⟨_, rfl⟩
  replace hw6 : w5.alloc (.cells #[.bool s2', .slice o2 m2 c2] 35) = w6 := hw6
  have b6 : Below w5.heap.size w5 w6 := by rw [← hw6]; exact (Below.refl _ _).alloc (Nat.le_refl _) _
  have r6 : w6.heap[w5.heap.size]? = some (patO s2' o2 m2 c2) := by rw [← hw6]; exact heap_alloc_new _ _
  have HB6 := Lib.hid (HB5.trans (b6.mono HB5.size))
  have b46 : Below w4.heap.size w4 w6 := b5.trans (b6.mono b5.size)
  have HR16 := Lib.hid (row_below HR14.out b46)
  have HR26 := Lib.hid (row_below HR24.out b46)
  have HR46 := Lib.hid (row_below HR4.out b46)
  have HA16 := Lib.hid (HA1.out.below b46)
  have HA26 := Lib.hid (a2.below b6)
  have HL2 := Lib.hid l2
  have HK2 : Hid (∀ k, (inQ o1 k ∨ inQ o2 k) → w.heap.size + 2 ≤ k ∧ k < w6.heap.size) := Lib.hid fun k hk => by
    have h4 := b46.size
    have h5 := b5.size
    have h6 := b6.size
    have h7 := (Array.getElem?_eq_some_iff.1 HR24.out).1
    rcases hk with hk | hk
    · have h1 := HK1.out k hk
      omega
    · have h1 := k2 k hk
      omega
  have HX2 := Lib.hid (show (parsePV ns B.data.toList) = (s2', xs2) from Prod.ext hs2 hx2)
  have HP2 := Lib.hid hp2
  have HM2 := Lib.hid hm2
  have HR6 := Lib.hid r6
  clear s0 s1 s2 a2 l2 k2 b5 b6 b46 r6 HB5 hw4 hx2 hs2 hp2 hm2 HC2 HA1 HR14 HR24 HR4 HB4 HK1
  obtain ⟨s0, s1, s2, _⟩ := three_cells HR16.out
  obtain ⟨p0, p1⟩ := pat_cells HR46.out
  obtain ⟨p2, p3⟩ := pat_cells HR6.out
  obtain ⟨q0, q1, q2, q3, q4⟩ := five_cells HR26.out
  have fz : ∀ i, w6.frozen? ⟨w.heap.size + 1, i, none⟩ = false := fun i => frozen_of_row w6 (w.heap.size + 1) i _ _ HR26.out
  have f0 := fz 0
  have f1 := fz 1
  have f2 := fz 2
  have f3 := fz 3
  have f4 := fz 4
  have lz : w.heap.size + 1 < w6.heap.size := (Array.getElem?_eq_some_iff.1 HR26.out).1
  clear fz
  have BAD : Hid (pe1 ≠ 0 ∨ pe2 ≠ 0 ∨ s2' = true → P (.returned (.tuple #[.agg zeroR, partVJ sideB 90])) (((((w6.setCell ⟨w.heap.size + 1, 0, none⟩ (.bool false)).setCell ⟨w.heap.size + 1, 1, none⟩ (.slice none 0 0)).setCell ⟨w.heap.size + 1, 2, none⟩ (.bool false)).setCell ⟨w.heap.size + 1, 3, none⟩ (.slice none 0 0)).setCell ⟨w.heap.size + 1, 4, none⟩ (.bool false))) := Lib.hid fun h => by
    have he : ruleE ns A.data.toList B.data.toList = .part sideB 90 := by
      unfold ruleE
      rw [HP1.out, HP2.out, HX2.out, if_pos h]
    obtain ⟨_, m7⟩ := five_setJ (.bool false) (.slice none 0 0) (.bool false) (.slice none 0 0) (.bool false) HR26.out
    rw [← HP.out]
    exact ⟨rul0, by rw [he]; rfl, fun h2 => (by rw [he] at h2; cases h2), Moves.below HB6.out HB6.out.size m7 (fun k hk => by omega)⟩
  have HRZ := Lib.hid (five_setJ (.bool false) (.slice none 0 0) (.bool false) (.slice none 0 0) (.bool false) HR26.out).1
  have HIN := Lib.hid (faultIn_any sideB 90 w6)
  by_cases e1 : pe1 = 0
  · subst e1
    by_cases e2 : pe2 = 0
    · subst e2
      cases s2' with
      | true =>
        have HQ := Lib.hid (BAD.out (.inr (.inr rfl)))
        clear BAD
        go_wp2_with fail
        refine HIN.out.mono ?_
        rintro e _ ⟨rfl, rfl⟩
        go_wp2_with fail
        exact bodyPost_ret (v := .tuple #[.agg zeroR, partVJ sideB 90]) (results_cell_tmp rfl _ _ (w.heap.size + 1) _ _ _ _ _ rfl rfl HRZ.out Tryz.underlying37 rfl (by kernel_rfl)) rfl HQ.out
      | false =>
        have hmk := mark_at (HMM.out.below HB6.out) (c := c) (wf_i32 (by have := HC.out; omega) (by have := HC.out; omega))
        obtain ⟨br, hbr⟩ : ∃ br, decide (c = 47) = br := ⟨_, rfl⟩
        rw [hbr] at hmk
        have h7 := five_setJ (.bool s1') (.slice o1 m1 c1) (.bool false) (.slice o2 m2 c2) (.bool br) HR26.out
        have HQ : Hid (P (.returned (.tuple #[.agg #[.bool s1', .slice o1 m1 c1, .bool false, .slice o2 m2 c2, .bool br], .nilIface])) (((((w6.setCell ⟨w.heap.size + 1, 0, none⟩ (.bool s1')).setCell ⟨w.heap.size + 1, 1, none⟩ (.slice o1 m1 c1)).setCell ⟨w.heap.size + 1, 2, none⟩ (.bool false)).setCell ⟨w.heap.size + 1, 3, none⟩ (.slice o2 m2 c2)).setCell ⟨w.heap.size + 1, 4, none⟩ (.bool br))) := by
          have he : ruleE ns A.data.toList B.data.toList = .none := by
            unfold ruleE
            rw [HP1.out, HP2.out, HX2.out, if_neg (by simp)]
          rw [← HP.out]
          refine Lib.hid ⟨((s1', o1, xs1, c1), (false, o2, xs2, c2), br), by rw [he, ← HM1.out, ← HM2.out]; rfl, fun _ => ⟨by rw [HX1.out, HX2.out, hbr], ?_, fun k hk => ?_⟩, Moves.below HB6.out HB6.out.size h7.2 (fun k hk => by omega)⟩
          · intro x hx
            rw [List.mem_singleton.1 hx]
            exact ⟨⟨cell_movesP (n := w.heap.size + 2) HA16.out (fun k hk => HK2.out k (.inl hk)) h7.2 (fun k hk => by omega), HL1.out⟩, cell_movesP (n := w.heap.size + 2) HA26.out (fun k hk => HK2.out k (.inr hk)) h7.2 (fun k hk => by omega), HL2.out⟩
          · have h8 := HK2.out k hk
            have h9 := h7.2.size
            omega
        have HR7 := Lib.hid h7.1
        clear BAD HRZ h7 hbr HIN
        go_wp2_with fail
        exact bodyPost_ret (v := .tuple #[.agg #[.bool s1', .slice o1 m1 c1, .bool false, .slice o2 m2 c2, .bool br], .nilIface]) (results_cell_tmp rfl _ _ (w.heap.size + 1) _ _ _ _ _ rfl rfl HR7.out Tryz.underlying37 rfl (by kernel_rfl)) rfl HQ.out
    · have e3 : (pe2 != 0) = true := by simpa using e2
      have HQ := Lib.hid (BAD.out (.inr (.inl e2)))
      clear BAD e2
      go_wp2_with fail
      refine HIN.out.mono ?_
      rintro e _ ⟨rfl, rfl⟩
      go_wp2_with fail
      exact bodyPost_ret (v := .tuple #[.agg zeroR, partVJ sideB 90]) (results_cell_tmp rfl _ _ (w.heap.size + 1) _ _ _ _ _ rfl rfl HRZ.out Tryz.underlying37 rfl (by kernel_rfl)) rfl HQ.out
  · have e3 : (pe1 != 0) = true := by simpa using e1
    have HQ := Lib.hid (BAD.out (.inl e1))
    clear BAD e1
    go_wp2_with fail
    refine HIN.out.mono ?_
    rintro e _ ⟨rfl, rfl⟩
    go_wp2_with fail
    exact bodyPost_ret (v := .tuple #[.agg zeroR, partVJ sideB 90]) (results_cell_tmp rfl _ _ (w.heap.size + 1) _ _ _ _ _ rfl rfl HRZ.out Tryz.underlying37 rfl (by kernel_rfl)) rfl HQ.out
end Go.Proofs.YtnmhdcbpbaanoaaGreatDoor

namespace Go.Proofs.YtnmhdcbpbaanoaaGreatDoor
open Go.RowKit Go.Shelf Go.Maps
attribute [local go_sem] Oper.semAt_some

theorem trimL_leJ (l : List UInt8) : (trimL l).length ≤ l.length := by
  have h : trimL l = ((l.reverse.dropWhile (blanksL.contains ·)).reverse).dropWhile (blanksL.contains ·) := rfl
  have h1 := (List.dropWhile_suffix (l := (l.reverse.dropWhile (blanksL.contains ·)).reverse) (blanksL.contains ·)).length_le
  have h2 := (List.dropWhile_suffix (l := l.reverse) (blanksL.contains ·)).length_le
  rw [h]
  simp only [List.length_reverse] at h1 h2
  omega
theorem splitM_len : ∀ {l : List UInt8} {q : List UInt8 × UInt8 × List UInt8}, splitM l = some q → q.1.length ≤ l.length ∧ q.2.2.length ≤ l.length ∧ (q.2.1 = 43 ∨ q.2.1 = 47)
  | [], q, h => by cases h
  | b :: t, q, h => by
    unfold splitM at h
    split at h
    · rename_i hm
      cases h
      exact ⟨Nat.zero_le _, by simp, hm⟩
    · cases hs : splitM t with
      | none => rw [hs] at h; cases h
      | some r =>
        rw [hs] at h
        cases h
        obtain ⟨h1, h2, h3⟩ := splitM_len hs
        exact ⟨by simpa using h1, by simp; omega, h3⟩
theorem sidesT_len (l : List UInt8) : (sidesT l).1.length ≤ l.length ∧ (sidesT l).2.1.length ≤ l.length ∧ (sidesT l = ([], [], 0) ∨ (sidesT l).2.2 = 43 ∨ (sidesT l).2.2 = 47) := by
  unfold sidesT
  cases hs : splitM l with
  | none => exact ⟨Nat.zero_le _, Nat.zero_le _, .inl rfl⟩
  | some q =>
    obtain ⟨h1, h2, h3⟩ := splitM_len hs
    refine ⟨Nat.le_trans (trimL_leJ _) h1, Nat.le_trans (trimL_leJ _) h2, .inr ?_⟩
    show (((q.2.1).toNat : Nat) : Int) = 43 ∨ (((q.2.1).toNat : Nat) : Int) = 47
    rcases h3 with h3 | h3 <;> rw [h3]
    · exact .inl rfl
    · exact .inr rfl
/-- What is wrong with a line that counts; the rule that it says. -/
def lineE (ns : List ByteArray) (l : List UInt8) : ErrJ := if (sidesT l).2.2 = 0 then .part markB 90 else ruleE ns (sidesT l).1 (sidesT l).2.1
def lineP (ns : List ByteArray) (l : List UInt8) : RuleP := (parsePV ns (sidesT l).1, parsePV ns (sidesT l).2.1, decide ((sidesT l).2.2 = 47))
def LineQ (ns : List ByteArray) (l : List UInt8) (w : World) (e : Ending) (w' : World) : Prop :=
  ∃ x : RulX, e = .returned (.tuple #[rulV x, errVJ (lineE ns l)]) ∧ (lineE ns l = .none → plX x = lineP ns l ∧ ItsC w' [x] ∧ (∀ k, (inQ x.1.2.1 k ∨ inQ x.2.1.2.1 k) → w.heap.size ≤ k ∧ k < w'.heap.size)) ∧ Below w.heap.size w w'
theorem mruleJ_any (b : Nat) (l : List UInt8) (hl : l.length ≤ 1000000) (on : Option Addr) (ns : List ByteArray) (ncap : Nat) (hn : ns.length ≤ 1000) (hz : ∀ s ∈ ns, s.size ≤ 1000) (w : World) (aU aS : Addr) (hQ : GlobQ w aU aS) (hG : KGlob w) (hN : TxtAt w on ns) (hM : MarkMap w b) :
    Calls Tryz.prog 101 #[.map (some b), sideV (sidesT l), .slice on ns.length ncap] w (LineQ ns l w) := by
  obtain ⟨h1, h2, h3⟩ := sidesT_len l
  by_cases hc : (sidesT l).2.2 = 0
  · have hq : sidesT l = ([], [], 0) := by
      rcases h3 with h3 | h3 | h3
      · exact h3
      · rw [h3] at hc; cases hc
      · rw [h3] at hc; cases hc
    rw [hq]
    refine (mruleJ_none b on ns.length ncap w).mono ?_
    rintro e w' ⟨rfl, hb⟩
    have he : lineE ns l = .part markB 90 := by unfold lineE; rw [if_pos hc]
    exact ⟨rul0, by rw [he]; rfl, fun h => (by rw [he] at h; cases h), hb⟩
  · have hm : (sidesT l).2.2 = 43 ∨ (sidesT l).2.2 = 47 := by
      rcases h3 with h3 | h3
      · exact absurd (by rw [h3]) hc
      · exact h3
    refine (mruleJ_some b ⟨(sidesT l).1.toArray⟩ ⟨(sidesT l).2.1.toArray⟩ (sidesT l).2.2 (by show (sidesT l).1.toArray.size ≤ _; rw [List.size_toArray]; omega) (by show (sidesT l).2.1.toArray.size ≤ _; rw [List.size_toArray]; omega) hm on ns ncap hn hz w aU aS hQ hG hN hM).mono ?_
    rintro e w' ⟨x, rfl, hx, hb⟩
    have he : lineE ns l = ruleE ns (sidesT l).1 (sidesT l).2.1 := by unfold lineE; rw [if_neg hc]
    exact ⟨x, by rw [he], fun h => hx (by rw [he] at h; exact h), hb⟩
/-- What holds within a drawn order: the two captured boxes and the answer's are as they were. -/
def ReaS (w : World) (b mb nb : Nat) (on : Option Addr) (n ncap : Nat) (W : World) : Prop := W.heap[w.heap.size]? = some (.cells zeroR 37 (0, 0)) ∧ W.heap[mb]? = some (.cells #[.map (some b)] 166 (0, 0)) ∧ W.heap[nb]? = some (.cells #[.slice on n ncap] 41 (0, 0)) ∧ Below w.heap.size w W
theorem ReaS.below {w A B : World} {b mb nb n ncap : Nat} {on : Option Addr} (h : ReaS w b mb nb on n ncap A) (hb : Below A.heap.size A B) : ReaS w b mb nb on n ncap B := ⟨row_below h.1 hb, row_below h.2.1 hb, row_below h.2.2.1 hb, h.2.2.2.trans (hb.mono h.2.2.2.size)⟩
theorem ReaS.cells {w W : World} {b mb nb n ncap : Nat} {on : Option Addr} (h : ReaS w b mb nb on n ncap W) : W.cell? ⟨mb, 0, none⟩ = some (.map (some b)) ∧ W.cell? ⟨nb, 0, none⟩ = some (.slice on n ncap) := by
  refine ⟨?_, ?_⟩
  · rw [cell_of_row _ _ 0 _ _ _ h.2.1]; rfl
  · rw [cell_of_row _ _ 0 _ _ _ h.2.2.1]; rfl
theorem ReaS.box {w W : World} {b mb nb n ncap : Nat} {on : Option Addr} (h : ReaS w b mb nb on n ncap W) : w.heap.size < W.heap.size ∧ (W.cell? ⟨w.heap.size, 0, none⟩ = some (.bool false) ∧ W.cell? ⟨w.heap.size, 1, none⟩ = some (.slice none 0 0) ∧ W.cell? ⟨w.heap.size, 2, none⟩ = some (.bool false) ∧ W.cell? ⟨w.heap.size, 3, none⟩ = some (.slice none 0 0) ∧ W.cell? ⟨w.heap.size, 4, none⟩ = some (.bool false)) ∧
    (W.frozen? ⟨w.heap.size, 0, none⟩ = false ∧ W.frozen? ⟨w.heap.size, 1, none⟩ = false ∧ W.frozen? ⟨w.heap.size, 2, none⟩ = false ∧ W.frozen? ⟨w.heap.size, 3, none⟩ = false ∧ W.frozen? ⟨w.heap.size, 4, none⟩ = false) :=
  ⟨(Array.getElem?_eq_some_iff.1 h.1).1, five_cells h.1, frozen_of_row _ _ _ _ _ h.1, frozen_of_row _ _ _ _ _ h.1, frozen_of_row _ _ _ _ _ h.1, frozen_of_row _ _ _ _ _ h.1, frozen_of_row _ _ _ _ _ h.1⟩
theorem ReaS.done {w w3 w4 : World} {b mb nb n ncap : Nat} {on : Option Addr} {ns : List ByteArray} {l : List UInt8} (h3 : ReaS w b mb nb on n ncap w3) (h4 : ReaS w b mb nb on n ncap w4) (x : RulX)
    (hx : lineE ns l = .none → plX x = lineP ns l ∧ ItsC w4 [x] ∧ ∀ k, (inQ x.1.2.1 k ∨ inQ x.2.1.2.1 k) → w3.heap.size ≤ k ∧ k < w4.heap.size) {w7 : World}
    (hw : w7 = (((((w4.setCell ⟨w.heap.size, 0, none⟩ (.bool x.1.1)).setCell ⟨w.heap.size, 1, none⟩ (.slice x.1.2.1 x.1.2.2.1.length x.1.2.2.2)).setCell ⟨w.heap.size, 2, none⟩ (.bool x.2.1.1)).setCell ⟨w.heap.size, 3, none⟩ (.slice x.2.1.2.1 x.2.1.2.2.1.length x.2.1.2.2.2)).setCell ⟨w.heap.size, 4, none⟩ (.bool x.2.2))) :
    w7.heap[w.heap.size]? = some (.cells (rulC x) 37 (0, 0)) ∧ LineQ ns l w (.returned (.tuple #[rulV x, errVJ (lineE ns l)])) w7 := by
  have h7 := five_setJ (.bool x.1.1) (.slice x.1.2.1 x.1.2.2.1.length x.1.2.2.2) (.bool x.2.1.1) (.slice x.2.1.2.1 x.2.1.2.2.1.length x.2.1.2.2.2) (.bool x.2.2) h4.1
  rw [← hw] at h7
  refine ⟨h7.1, x, rfl, fun he => ?_, Moves.below h4.2.2.2 h4.2.2.2.size h7.2 (fun k hk => by omega)⟩
  obtain ⟨h8, h9, h10⟩ := hx he
  have hl := h3.box.1
  refine ⟨h8, fun y hy => ?_, fun k hk => ?_⟩
  · obtain ⟨⟨i1, l1⟩, i2, l2⟩ := h9 y hy
    rw [List.mem_singleton.1 hy] at i1 l1 i2 l2 ⊢
    exact ⟨⟨cell_movesP (n := w3.heap.size) i1 (fun k hk => h10 k (.inl hk)) h7.2 (fun k hk => by omega), l1⟩, cell_movesP (n := w3.heap.size) i2 (fun k hk => h10 k (.inr hk)) h7.2 (fun k hk => by omega), l2⟩
  · have h11 := h10 k hk
    have h12 := h7.2.size
    omega
set_option maxRecDepth 100000 in
set_option maxHeartbeats 4000000 in
theorem readJ_any (b mb nb : Nat) (s : ByteArray) (hs : s.size ≤ 1000000) (on : Option Addr) (ns : List ByteArray) (ncap : Nat) (hn : ns.length ≤ 1000) (hz : ∀ s ∈ ns, s.size ≤ 1000) (w : World) (aU aS : Addr) (hQ : GlobQ w aU aS) (hG : KGlob w) (hN : TxtAt w on ns) (hM : MarkMap w b)
    (hm : w.heap[mb]? = some (.cells #[.map (some b)] 166 (0, 0))) (hb : w.heap[nb]? = some (.cells #[.slice on ns.length ncap] 41 (0, 0))) :
    Calls Tryz.prog 100 #[.string s, .pointer (some ⟨mb, 0, none⟩), .pointer (some ⟨nb, 0, none⟩)] w (LineQ ns s.data.toList w) := by
  obtain ⟨P, hP⟩ : ∃ P, LineQ ns s.data.toList w = P := ⟨_, rfl⟩
  have HP := Lib.hid hP
  rw [hP]
  have hsz : s.data.toList.length = s.size := Array.length_toList
  have HC1 := Lib.hid (fun W (hb : Below w.heap.size w W) => partJ_any b s hs W (hM.below hb))
  have HC2 := Lib.hid (fun W (hb : Below w.heap.size w W) => mruleJ_any b s.data.toList (by omega) on ns ncap hn hz W aU aS (hQ.below hb) (hG.below hb) (hN.below hb) (hM.below hb))
  obtain ⟨w1, hw1⟩ : ∃ w1, w.alloc (.cells zeroR 37) = w1 := ⟨_, rfl⟩
  have b1 : Below w.heap.size w w1 := by rw [← hw1]; exact (Below.refl _ _).alloc (Nat.le_refl _) _
  have r1 : w1.heap[w.heap.size]? = some (.cells zeroR 37 (0, 0)) := by rw [← hw1]; exact heap_alloc_new _ _
  have lm : mb < w.heap.size := (Array.getElem?_eq_some_iff.1 hm).1
  have lb : nb < w.heap.size := (Array.getElem?_eq_some_iff.1 hb).1
  obtain ⟨n, hnn⟩ : ∃ n, ns.length = n := ⟨_, rfl⟩
  rw [hnn] at HC2 hb
  have HD : Hid (ReaS w b mb nb on n ncap w1.drew) := Lib.hid (ReaS.below ⟨r1, row_below hm b1, row_below hb b1, b1⟩ ((Below.refl _ _).drew))
  have h0 : Hid (ReaS w b mb nb on n ncap w1) := Lib.hid ⟨r1, row_below hm b1, row_below hb b1, b1⟩
  obtain ⟨c0, c1⟩ := h0.out.cells
  obtain ⟨d0, d1⟩ := HD.out.cells
  obtain ⟨A, hA⟩ : ∃ q : ByteArray, ⟨(sidesT s.data.toList).1.toArray⟩ = q := ⟨_, rfl⟩
  obtain ⟨B, hB⟩ : ∃ q : ByteArray, ⟨(sidesT s.data.toList).2.1.toArray⟩ = q := ⟨_, rfl⟩
  obtain ⟨c, hc⟩ : ∃ q, (sidesT s.data.toList).2.2 = q := ⟨_, rfl⟩
  simp only [sideV, strV, hA, hB, hc] at HC1 HC2
  have HT2 : Hid (∀ W, Hid (ReaS w b mb nb on n ncap W) → Calls Tryz.prog 102 #[.map (some b), .string s] W fun e w' => e = .returned (.agg #[.string A, .string B, .int .i32 c]) ∧ Hid (ReaS w b mb nb on n ncap w')) := Lib.hid fun W h => (HC1.out W h.out.2.2.2).mono fun e w' h2 => ⟨h2.1, Lib.hid (h.out.below h2.2)⟩
  have HU2 : Hid (∀ W, Hid (ReaS w b mb nb on n ncap W) → Calls Tryz.prog 101 #[.map (some b), .agg #[.string A, .string B, .int .i32 c], .slice on n ncap] W fun e w' => LineQ ns s.data.toList W e w' ∧ Hid (ReaS w b mb nb on n ncap w')) := Lib.hid fun W h => (HC2.out W h.out.2.2.2).mono fun e w' h2 => ⟨h2, Lib.hid (h.out.below (by obtain ⟨_, _, _, hb⟩ := h2; exact hb))⟩
  have HW1 := Lib.hid hw1
  clear hP hM hQ hG hN hn hz hs hsz hnn HC1 HC2 hA hB hc b1 r1 hm hb hw1
  go_enter Tryz.func100, Tryz.ntmps100
  go_wp2_with fail
  rw [HW1.out]
  go_region_with (first | (go_at_call 102; refine (HT2.out _ (by first | exact hg | exact HD)).mono ?_; rintro e w3 ⟨rfl, hg⟩; obtain ⟨c0, c1⟩ := hg.out.cells) | (go_at_call 101; refine (HU2.out _ (by first | exact hg | exact HD)).mono ?_; rintro e w4 ⟨⟨x, rfl, hx, hbw⟩, hg4⟩; obtain ⟨⟨s1, p1, xs1, k1⟩, ⟨s2, p2, xs2, k2⟩, br⟩ := x; obtain ⟨l0, ⟨f0, f1, f2, f3, f4⟩, g0, g1, g2, g3, g4⟩ := hg4.out.box))
  all_goals
    have HX := Lib.hid hx
    clear f0 f1 f2 f3 f4 g0 g1 g2 g3 g4 HT2 HU2 hx
    go_wp2
    have h9 := ReaS.done hg.out hg4.out ((s1, p1, xs1, k1), (s2, p2, xs2, k2), br) HX.out rfl
    exact bodyPost_ret (v := .tuple #[rulV ((s1, p1, xs1, k1), (s2, p2, xs2, k2), br), errVJ (lineE ns s.data.toList)]) (results_cell_tmp rfl _ _ w.heap.size _ _ _ _ _ rfl rfl h9.1 Tryz.underlying37 rfl (by kernel_rfl)) rfl (by rw [← HP.out]; exact h9.2)
end Go.Proofs.YtnmhdcbpbaanoaaGreatDoor

namespace Go.Proofs.YtnmhdcbpbaanoaaGreatDoor
open Go.RowKit Go.Shelf Go.Maps
attribute [local go_sem] Oper.semAt_some

def exN : List ByteArray := [⟨#[65]⟩, ⟨#[66]⟩, ⟨#[67]⟩, ⟨#[68]⟩]
theorem exN_ok : namesL exN := by decide +kernel
theorem exN_5 : (⟨(printV exN 5).toArray⟩ : ByteArray) = ⟨#[91, 65, 32, 67, 93]⟩ ∧ printE exN 5 = 0 := by decide +kernel
theorem exN_7 : (⟨(printV exN 7).toArray⟩ : ByteArray) = ⟨#[91, 94, 68, 93]⟩ ∧ printE exN 7 = 0 := by decide +kernel
theorem exN_p : parseV exN [91, 94, 68, 32, 65, 93] = 6 ∧ parseE exN [91, 94, 68, 32, 65, 93] = 0 := by decide +kernel
theorem exN_q : parseV exN [91, 65, 32, 65, 93] = 0 ∧ parseE exN [91, 65, 32, 65, 93] = 70 := by decide +kernel
theorem exO : ofV [2, 0, 2] = 5 ∧ errZ (ofZ [2, 0, 2]) = 0 := by decide +kernel
theorem exH : hasZ 5 2 = true := by decide +kernel
theorem exT : notZ 5 4 = 10 := by decide +kernel
/-- Names at a row of the call's own. -/
theorem exN_at {w : World} {g : Nat} (h : w.heap[g]? = some (.cells #[.string ⟨#[65]⟩, .string ⟨#[66]⟩, .string ⟨#[67]⟩, .string ⟨#[68]⟩] 9 (0, 0))) : TxtAt w (some ⟨g, 0, none⟩) exN := fun _ => by
  refine ⟨g, 0, rfl, fun j x hx => ?_⟩
  rw [Nat.zero_add, cell_of_row w g j _ _ _ h]
  match j, hx with
  | 0, hx => cases hx; rfl
  | 1, hx => cases hx; rfl
  | 2, hx => cases hx; rfl
  | 3, hx => cases hx; rfl
  | j + 4, hx => simp [exN] at hx
theorem exL_at {w : World} {g : Nat} (h : w.heap[g]? = some (.cells #[.int .i64 2, .int .i64 0, .int .i64 2] 3 (0, 0))) : NumsAt w (some ⟨g, 0, none⟩) [2, 0, 2] := fun _ => by
  refine ⟨g, 0, rfl, fun j x hx => ?_⟩
  rw [Nat.zero_add, cell_of_row w g j _ _ _ h]
  match j, hx with
  | 0, hx => cases hx; rfl
  | 1, hx => cases hx; rfl
  | 2, hx => cases hx; rfl
  | j + 3, hx => simp at hx
end Go.Proofs.YtnmhdcbpbaanoaaGreatDoor

namespace Go.Proofs.YtnmhdcbpbaanoaaGreatDoor
open Go.RowKit Go.Shelf Go.Maps
attribute [local go_sem ↓] app_hide

theorem own_geQ {w : World} {base : Nat} {e : TypeId} {size : Nat} {v : Value} {n : Nat} {xs : List Value} (h : w.ownsRow base e size v n xs) {g : Nat} (hg : v.ownBlock = some g) : base ≤ g := by
  rcases h.2 with ⟨rfl, _⟩ | ⟨g', cap', cur, rfl, hb', _⟩
  · simp [Value.ownBlock] at hg
  · obtain rfl : g' = g := by simpa [Value.ownBlock] using hg
    exact hb'
theorem str_ownQ {W : World} {base k : Nat} {v : Value} {xs : List Value} (s : ByteArray) (ho : W.ownsRow base 9 1 v k xs) (hk : k ≤ 1000000) (hbase : base ≤ W.heap.size) :
    ∃ o cap w6, (appSem #[41, 41] 41 #[v, .slice (some ⟨W.heap.size, 0, none⟩) 1 1]).run Tryz.prog (W.alloc (.cells #[.string s] 9)) = .ok (.slice o (k + 1) cap) w6 ∧
      w6.ownsRow base 9 1 (.slice o (k + 1) cap) (k + 1) (xs ++ [.string s]) ∧ Below base W w6 := by
  obtain ⟨i0, hi, hz0, hz1, hz2⟩ := info_parts infoString
  have hb : Below W.heap.size W (W.alloc (.cells #[.string s] 9)) := (Below.refl _ _).alloc (Nat.le_refl _) _
  obtain ⟨v', w6, hr, h2, h3, h4⟩ := run_append_own (P := Tryz.prog) _ base 41 41 9 i0 (.string ⟨#[]⟩) 1 16 Tryz.underlying41 hi hz0 hz1 hz2 rfl (by decide) v k xs (own_below ho hb) ⟨W.heap.size, 0, none⟩ 1 1 [.string s] rfl
    (cell_one_new _ _ _) (by simp [Value.oneCell']) (by unfold maxLen; omega) (by omega) (by simp; omega)
  obtain ⟨o, cap, rfl⟩ := own_form h2
  exact ⟨o, cap, w6, hr, h2, Below.grown (hb.mono hbase) h3 (by have := hb.size; omega) (fun g hg => own_geQ ho hg)⟩
/-- Where Split stands: what is parted, and from where on. -/
inductive SplitAtQ (c : UInt8) (l : List UInt8) (ps : List (List UInt8)) (f j : Nat) : Prop
  | on (h1 : j ≤ l.length) (h2 : f ≤ j) (h3 : splitL c l = ps ++ splitL c (l.drop f)) (h4 : ∀ k : Nat, f ≤ k → k < j → l[k]? ≠ some c)
  | off (h1 : j = l.length + 1) (h2 : ps = splitL c l)
theorem SplitAtQ.skip {c : UInt8} {l : List UInt8} {ps : List (List UInt8)} {f j : Nat} (h : SplitAtQ c l ps f j) (hj : j < l.length) (hc : l[j]? ≠ some c) : SplitAtQ c l ps f (j + 1) := by
  cases h with
  | on h1 h2 h3 h4 =>
    refine .on (by omega) (by omega) h3 fun k k1 k2 => ?_
    rcases Nat.lt_or_ge k j with h | h
    · exact h4 k k1 h
    · obtain rfl : k = j := by omega
      exact hc
  | off h1 h2 => omega
theorem SplitAtQ.part {c : UInt8} {l : List UInt8} {ps : List (List UInt8)} {f j : Nat} (h : SplitAtQ c l ps f j) (hj : j < l.length) (hc : l[j]? = some c) : f ≤ j ∧ SplitAtQ c l (ps ++ [(l.drop f).take (j - f)]) (j + 1) (j + 1) := by
  cases h with
  | on h1 h2 h3 h4 =>
    refine ⟨h2, .on (by omega) (Nat.le_refl _) ?_ fun k k1 k2 => by omega⟩
    have := splitL_at (c := c) (l := l.drop f) (m := j - f) (by rw [List.getElem?_drop, show f + (j - f) = j from by omega]; exact hc) (fun k hk => by rw [List.getElem?_drop]; exact h4 _ (by omega) (by omega))
    rw [List.drop_drop, show f + (j - f + 1) = j + 1 from by omega] at this
    rw [h3, this]
    simp
  | off h1 h2 => omega
theorem SplitAtQ.last {c : UInt8} {l : List UInt8} {ps : List (List UInt8)} {f : Nat} (h : SplitAtQ c l ps f l.length) : f ≤ l.length ∧ SplitAtQ c l (ps ++ [(l.drop f).take (l.length - f)]) (l.length + 1) (l.length + 1) := by
  cases h with
  | on h1 h2 h3 h4 =>
    refine ⟨h2, .off rfl ?_⟩
    have := splitL_none (c := c) (l := l.drop f) (fun k hk => by
      rw [List.getElem?_drop] at hk
      have hlt := (List.getElem?_eq_some_iff.1 hk).1
      exact h4 _ (by omega) hlt hk)
    rw [h3, this, List.take_of_length_le (by rw [List.length_drop]; exact Nat.le_refl _)]
  | off h1 h2 => omega
theorem SplitAtQ.len {c : UInt8} {l : List UInt8} {ps : List (List UInt8)} {f j : Nat} (h : SplitAtQ c l ps f j) : ps.length ≤ l.length + 1 := by
  have hl := splitL_length c l
  cases h with
  | on h1 h2 h3 h4 => rw [h3, List.length_append] at hl; omega
  | off h1 h2 => rw [h2]; exact hl
theorem ext_bytesQ (s : ByteArray) (f j : Nat) : (.string (s.extract f j) : Value) = strV ((s.data.toList.drop f).take (j - f)) := by
  congr 1
  rw [← Lib.extract_data]
set_option maxRecDepth 100000 in
set_option maxHeartbeats 2000000 in
theorem rsplit_anyQ (c : UInt8) (s : ByteArray) (hs : s.size ≤ 100000) (w : World) :
    Calls Tryz.prog 46 #[.string s, .int .u8 (c.toNat : Nat)] w fun e w' => ∃ o cap, e = .returned (.slice o (splitL c s.data.toList).length cap) ∧ w'.ownsRow w.heap.size 9 1 (.slice o (splitL c s.data.toList).length cap) (splitL c s.data.toList).length ((splitL c s.data.toList).map strV) ∧ Below w.heap.size w w' := by
  have hl : s.data.toList.length = s.size := Array.length_toList
  have HL := Lib.hid hl
  have HP : Hid (∀ (o : Option Addr) (cap : Nat) (w' : World), w'.ownsRow w.heap.size 9 1 (.slice o (splitL c s.data.toList).length cap) (splitL c s.data.toList).length ((splitL c s.data.toList).map strV) → Below w.heap.size w w' → (fun e w' => ∃ o cap, e = .returned (.slice o (splitL c s.data.toList).length cap) ∧ w'.ownsRow w.heap.size 9 1 (.slice o (splitL c s.data.toList).length cap) (splitL c s.data.toList).length ((splitL c s.data.toList).map strV) ∧ Below w.heap.size w w') (Ending.returned (.slice o (splitL c s.data.toList).length cap)) w') :=
    Lib.hid fun o cap w' h1 h2 => ⟨o, cap, rfl, h1, h2⟩
  obtain ⟨P, hP⟩ : ∃ P : Ending → World → Prop, (fun e w' => ∃ o cap, e = .returned (.slice o (splitL c s.data.toList).length cap) ∧ w'.ownsRow w.heap.size 9 1 (.slice o (splitL c s.data.toList).length cap) (splitL c s.data.toList).length ((splitL c s.data.toList).map strV) ∧ Below w.heap.size w w') = P := ⟨_, rfl⟩
  rw [hP] at HP ⊢
  obtain ⟨d, hd⟩ : ∃ d, c.toNat = d := ⟨_, rfl⟩
  rw [hd]
  have HD := Lib.hid hd
  clear hP hl hd
  go_enter Tryz.func46, Tryz.ntmps46
  go_wp2_with fail
  go_loopg [5, 6, 7] (s.size + 1) (fun k v f i wr => ∃ (j g : Nat) (ps : List (List UInt8)), i = .int .i64 (j : Nat) ∧ f = .int .i64 (g : Nat) ∧ j ≤ s.size + 1 ∧ s.size + 1 - j = k ∧ Hid (SplitAtQ c s.data.toList ps g j) ∧ Hid (wr.ownsRow w.heap.size 9 1 v ps.length (ps.map strV)) ∧ Below w.heap.size w wr)
  case atStart => exact ⟨0, 0, [], rfl, rfl, Nat.zero_le _, rfl, Lib.hid (.on (Nat.zero_le _) (Nat.le_refl _) rfl fun k _ h => absurd h (Nat.not_lt_zero _)), Lib.hid (World.ownsRow_nil _ _ _ _), Below.refl _ _⟩
  case round =>
    obtain ⟨j, g, ps, rfl, rfl, hj, rfl, hat, ho, hb⟩ := hrel
    have hpl := hat.out.len
    rw [HL.out] at hpl
    have hbb : w.heap.size ≤ wr.heap.size := hb.size
    have hwj : IntKind.i64.wrap (((j : Nat) : Int) + 1) = (j : Nat) + 1 := wrap_id (by omega) (by omega)
    rcases Nat.lt_or_ge s.size j with hend | hin
    · have hps : ps = splitL c s.data.toList := by
        cases hat.out with
        | on h1 h2 h3 h4 => rw [HL.out] at h1; omega
        | off h1 h2 => exact h2
      have ho' := ho.out
      rw [hps] at ho'
      obtain ⟨o, cap, rfl⟩ := own_form ho'
      have HPP := Lib.hid (HP.out o cap wr ho' hb)
      have n1 : ¬ j ≤ s.size := by omega
      clear hps ho' ho hat hpl HP
      go_wp2
      exact HPP.out
    · rcases Nat.lt_or_ge j s.size with hlt | hge
      · have hjl : (((j : Nat) : Int) == ((s.size : Nat) : Int)) = false := by simp; omega
        by_cases hc : (s[j]'hlt) = c
        · have hce : s.data.toList[j]? = some c := by rw [← hc]; exact List.getElem?_eq_getElem (by simpa using hlt)
          obtain ⟨hgj, hat2⟩ := hat.out.part (by rw [HL.out]; exact hlt) hce
          obtain ⟨o', cap', w6, hrun, hown, hb6⟩ := str_ownQ (s.extract g j) ho.out (by omega) hb.size
          rw [ext_bytesQ] at hown
          have hcv : (s[j]'hlt).toNat = d := by rw [hc]; exact HD.out
          have HA2 := Lib.hid hat2
          have HO2 := Lib.hid hown
          have HB6 := Lib.hid hb6
          clear hc hce hat2 hown hb6 ho hat
          go_wp2
          go_roundg (s.size + 1 - (j + 1))
          case measure => omega
          case rel =>
            refine ⟨j + 1, j + 1, _, by simp, by simp, by omega, rfl, HA2, Lib.hid ?_, hb.trans HB6.out⟩
            rw [List.length_append, List.map_append]
            exact HO2.out
        · have hne : s.data.toList[j]? ≠ some c := by
            rw [List.getElem?_eq_getElem (by simpa using hlt)]
            exact fun h => hc (Option.some.inj h)
          have HA2 := Lib.hid (hat.out.skip (by rw [HL.out]; exact hlt) hne)
          have hcv : (((s[j]'hlt).toNat : Int) == ((d : Nat) : Int)) = false := by
            rw [beq_eq_false_iff_ne]
            intro e
            refine hc (UInt8.toNat_inj.1 ?_)
            rw [HD.out]
            omega
          clear hc hne hat
          go_wp2
          go_roundg (s.size + 1 - (j + 1))
          case measure => omega
          case rel => exact ⟨j + 1, g, ps, by simp, rfl, by omega, rfl, HA2, ho, hb⟩
      · obtain rfl : j = s.size := by omega
        have hat1 := hat.out
        rw [← HL.out] at hat1
        obtain ⟨hgj, hat2⟩ := hat1.last
        rw [HL.out] at hgj hat2
        obtain ⟨o', cap', w6, hrun, hown, hb6⟩ := str_ownQ (s.extract g s.size) ho.out (by omega) hb.size
        rw [ext_bytesQ] at hown
        have HA2 := Lib.hid hat2
        have HO2 := Lib.hid hown
        have HB6 := Lib.hid hb6
        clear hat1 hat2 hown hb6 ho hat
        go_wp2
        go_roundg (s.size + 1 - (s.size + 1))
        case measure => omega
        case rel =>
          refine ⟨s.size + 1, s.size + 1, _, by simp, by simp, by omega, rfl, HA2, Lib.hid ?_, hb.trans HB6.out⟩
          rw [List.length_append, List.map_append]
          exact HO2.out
end Go.Proofs.YtnmhdcbpbaanoaaGreatDoor

namespace Go.Proofs.YtnmhdcbpbaanoaaGreatDoor
open Go.RowKit Go.Shelf Go.Maps
attribute [local go_sem] Oper.semAt_some

theorem SplitAtQ.pre {c : UInt8} {l : List UInt8} {ps : List (List UInt8)} {f j : Nat} (h : SplitAtQ c l ps f j) : ps <+: splitL c l := by
  cases h with
  | on h1 h2 h3 h4 => exact ⟨_, h3.symm⟩
  | off h1 h2 => rw [h2]; exact List.prefix_rfl
theorem zip_pre1 {α : Type} {ps qs : List α} (h : ps <+: qs) : ps.zipIdx 1 <+: qs.zipIdx 1 := by
  obtain ⟨t, rfl⟩ := h
  rw [List.zipIdx_append]
  exact ⟨_, rfl⟩
theorem zip_snoc1 {α : Type} (ps : List α) (x : α) : ps.zipIdx 1 ++ [(x, ps.length + 1)] = (ps ++ [x]).zipIdx 1 := by
  rw [List.zipIdx_append]
  simp [Nat.add_comm]
theorem moves_iterJ (w : World) (k : Nat) (s : ByteArray) (p : Nat) : Moves (fun j => j = k) w (w.iterAt k s p) :=
  ⟨rfl, rfl, rfl, by rw [Lib.iterAt_size]; exact Nat.le_refl _, fun j _ hj => Lib.iterAt_other w k j s p hj⟩
theorem SplitAtQ.skipN {c : UInt8} {l : List UInt8} {ps : List (List UInt8)} {f : Nat} : ∀ {k j : Nat}, SplitAtQ c l ps f j → j + k ≤ l.length → (∀ i, j ≤ i → i < j + k → l[i]? ≠ some c) → SplitAtQ c l ps f (j + k)
  | 0, j, h, _, _ => h
  | k + 1, j, h, hl, hn => by
    have h1 := SplitAtQ.skipN (h.skip (by omega) (hn j (Nat.le_refl _) (by omega))) (k := k) (by omega) (fun i h1 h2 => hn i (by omega) (by omega))
    rwa [show j + 1 + k = j + (k + 1) from by omega] at h1
/-- A text's lines with their numbers, from 1 on. -/
def linesN (l : List UInt8) : List (List UInt8 × Nat) := (splitL 10 l).zipIdx 1
abbrev encL (x : List UInt8 × Nat) : Array Value := #[.int .i64 (x.2 : Nat), strV x.1]
set_option maxRecDepth 100000 in
set_option maxHeartbeats 4000000 in
theorem seqLinesJ {cb : Nat} {s : ByteArray} {fv : Value} {w : World} (hs : s.size ≤ 1000000) (hc : w.heap[cb]? = some (.cells #[.string s, fv] 116 (0, 0))) :
    SeqOfX Tryz.prog 5 127 #[.pointer (some ⟨cb, 0, none⟩)] encL (fun _ => False) (fun k => k = cb) (linesN s.data.toList) w := by
  intro W lp J Jx hm hJ hJx hY h0
  have h1 : 1 ≤ 5 := by omega
  have r0 : W.heap[cb]? = some (.cells #[.string s, fv] 116 (0, 0)) := row_keep hc hm id
  have hsl : s.data.toList.length = s.size := Array.length_toList
  have lc : cb < W.heap.size := (Array.getElem?_eq_some_iff.1 r0).1
  have c0 : W.cell? ⟨cb, 0, none⟩ = some (.string s) := by rw [cell_of_row _ _ 0 _ _ _ r0]; rfl
  refine callsIn_of_wp Tryz.func127 rfl trivial ?_ rfl
  simp only [Tryz.ntmps127, List.size_toArray, List.length_cons, List.length_nil, Nat.reduceAdd, Nat.reduceSub, Array.replicate_succ, Array.replicate_zero, List.push_toArray, List.append_toArray, List.nil_append, List.cons_append]
  have HJ := Lib.hid hJ
  have HJX := Lib.hid hJx
  have HY := Lib.hid hY
  have HR0 := Lib.hid r0
  have HSL := Lib.hid hsl
  clear hJ hJx hY hm hc r0 hsl
  gi_wp2
  gi_loopg [3, 4] s.size (fun k v3 v4 wr => ∃ (p f : Nat) (ps : List (List UInt8)), v3 = .int .i64 ((ps.length + 1 : Nat) : Int) ∧ v4 = .int .i64 (f : Nat) ∧ p ≤ s.size ∧ k = s.size - p ∧ Hid (SplitAtQ 10 s.data.toList ps f p) ∧ Hid (wr.heap[W.heap.size]? = some (.stringIter s p)) ∧ Hid (wr.heap[cb]? = some (.cells #[.string s, fv] 116 (0, 0))) ∧ J (fun k => k = W.heap.size) (ps.zipIdx 1) wr)
  case atStart =>
    refine ⟨0, 0, [], rfl, rfl, Nat.zero_le _, rfl, Lib.hid (.on (Nat.zero_le _) (Nat.le_refl _) rfl (fun k _ h => by omega)), Lib.hid (World.iter_heap W s 0), Lib.hid ((Below.heap_alloc W (.stringIter s 0) cb lc).trans HR0.out), ?_⟩
    exact HJ.out _ _ _ _ _ h0 (Moves.of_below (show Below W.heap.size W (W.alloc (.stringIter s 0)) from (Below.refl _ _).alloc (Nat.le_refl _) _)) (fun k hk => ⟨.inr (by omega), by subst hk; show _ < (W.alloc (.stringIter s 0)).heap.size; rw [World.size_alloc]; omega⟩)
  case round =>
    obtain ⟨p, f, ps, rfl, rfl, hp, rfl, hsp, hit', hrow, hj⟩ := hrel
    have hit := hit'.out
    have hlen := hsp.out.len
    rw [HSL.out] at hlen
    have hpm : p ≤ 1000000 := by omega
    have c1 : wr.cell? ⟨cb, 0, none⟩ = some (.string s) := by rw [cell_of_row _ _ 0 _ _ _ hrow.out]; rfl
    have lcr : cb < wr.heap.size := (Array.getElem?_eq_some_iff.1 hrow.out).1
    have lit : W.heap.size < wr.heap.size := (Array.getElem?_eq_some_iff.1 hit).1
    have STEP : ∀ q, Hid ((wr.iterAt W.heap.size s q).heap[W.heap.size]? = some (.stringIter s q)) ∧ Hid ((wr.iterAt W.heap.size s q).heap[cb]? = some (.cells #[.string s, fv] 116 (0, 0))) ∧ J (fun k => k = W.heap.size) (ps.zipIdx 1) (wr.iterAt W.heap.size s q) := fun q =>
      ⟨Lib.hid (Lib.iterAt_heap wr _ s p q hit), Lib.hid ((Lib.iterAt_other wr _ cb s q (by omega)).trans hrow.out), HJ.out _ _ _ _ _ hj (moves_iterJ wr _ s q) (fun k hk => ⟨.inl hk, by rw [Lib.iterAt_size]; omega⟩)⟩
    rcases Nat.lt_or_ge p s.size with hlt | hge
    · have hg := get_listQ s p hlt
      rcases Nat.lt_or_ge (s[p]'hlt).toNat 128 with ha | ha
      · have hnx := Lib.run_next_ascii_at (P := Tryz.prog) wr W.heap.size s p 0 hit hlt ha
        obtain ⟨c, hc⟩ : ∃ c, s[p]'hlt = c := ⟨_, rfl⟩
        rw [hc] at hg hnx ha
        obtain ⟨S1, S2, S3⟩ := STEP (p + 1)
        by_cases h10 : c = 10
        · subst h10
          have hnx' : (Instr.next (.pointer (some ⟨W.heap.size, 0, none⟩)) true 0).run Tryz.prog wr = .ok (.tuple #[.bool true, .int .i64 p, .int .i32 10]) (wr.iterAt W.heap.size s (p + 1)) := hnx
          obtain ⟨hfp, hsp2⟩ := hsp.out.part (by rw [HSL.out]; exact hlt) hg
          obtain ⟨wb, hwb⟩ : ∃ wb, wr.iterAt W.heap.size s (p + 1) = wb := ⟨_, rfl⟩
          rw [hwb] at hnx' S1 S2 S3
          have cb1 : wb.cell? ⟨cb, 0, none⟩ = some (.string s) := by rw [cell_of_row _ _ 0 _ _ _ S2.out]; rfl
          have hpx : ps.zipIdx 1 ++ [((s.data.toList.drop f).take (p - f), ps.length + 1)] <+: linesN s.data.toList := by rw [zip_snoc1]; exact zip_pre1 hsp2.pre
          obtain ⟨fn, tmps, assign, body, hy, hR⟩ := HY.out _ _ _ _ hpx S3
          obtain ⟨Y, hYe⟩ : ∃ Y, s.extract f p = Y := ⟨_, rfl⟩
          obtain ⟨m, hm⟩ : ∃ m, ps.length + 1 = m := ⟨_, rfl⟩
          have HM := Lib.hid hm
          replace hy : (Instr.yield lp #[.int .i64 (m : Nat), .string Y]).run Tryz.prog wb = .ok (.round lp fn tmps assign body) wb := by
            rw [← hYe, ← hm, ext_bytesQ]; exact hy
          have HSP := Lib.hid hsp2
          have hPX := Lib.hid hpx
          rw [hm]
          have hwm : IntKind.i64.wrap (((m : Nat) : Int) + 1) = ((m + 1 : Nat) : Int) := wrap_id (by omega) (by omega)
          have hwp : IntKind.i64.wrap (((p : Nat) : Int) + 1) = ((p + 1 : Nat) : Int) := wrap_id (by omega) (by omega)
          clear hnx STEP hsp hit' hit hrow hj hg hsp2 hpx hm S3 ha c1
          gi_wp2
          refine hR.mono ?_
          rintro e w3 (⟨rfl, hJ4, hk4⟩ | ⟨rfl, hJx4, hk4⟩)
          · have T1 := Lib.hid (row_keep S1.out hk4 (fun h => h.1 rfl))
            have T2 := Lib.hid (row_keep S2.out hk4 (fun h => h.2 rfl))
            gi_wp2
            gi_roundg (s.size - (p + 1))
            case measure => omega
            case rel => exact ⟨p + 1, p + 1, ps ++ [(s.data.toList.drop f).take (p - f)], by simp [← HM.out], by simp, by omega, rfl, HSP, T1, T2, by rw [← zip_snoc1]; exact hJ4⟩
          · gi_wp2
            refine bodyPost_ret (results_none rfl _ _ _) rfl ?_
            exact ⟨⟨_, rfl⟩, _, .inr ⟨_, hPX.out, hJx4⟩⟩
        · have h11 : ¬ ((c.toNat : Nat) : Int) = 10 := fun h => h10 (bytes_eq (b := 10) (show c.toNat = 10 by omega))
          have h12 : (((c.toNat : Nat) : Int) != 10) = true := by simpa using h11
          have HS := Lib.hid (hsp.out.skip (by rw [HSL.out]; exact hlt) (by rw [hg]; simpa using h10))
          obtain ⟨m, hm⟩ : ∃ m, ps.length + 1 = m := ⟨_, rfl⟩
          have HM := Lib.hid hm
          rw [hm]
          clear STEP hsp hit' hit hrow hj hg hm h10 h11 c1
          gi_wp2
          gi_roundg (s.size - (p + 1))
          case measure => omega
          case rel => exact ⟨p + 1, f, ps, by rw [HM.out], rfl, by omega, rfl, HS, S1, S2, S3⟩
      · obtain ⟨k1, k2, k3⟩ := high_bytes s p hlt ha
        have kr := (decode_high s p hlt ha).1
        have hnx := Lib.run_next_any_at (P := Tryz.prog) wr W.heap.size s p 0 hit hlt
        obtain ⟨c, hc⟩ : ∃ c, (Utf8.decode s p).1 = c := ⟨_, rfl⟩
        obtain ⟨k, hk⟩ : ∃ k, (Utf8.decode s p).2 = k := ⟨_, rfl⟩
        rw [hk] at k1 k2 k3 hnx
        rw [hc] at kr hnx
        obtain ⟨S1, S2, S3⟩ := STEP (p + k)
        have h12 : (((c : Nat) : Int) != 10) = true := by
          have : ¬ ((c : Nat) : Int) = 10 := by omega
          simpa using this
        have HS := Lib.hid (hsp.out.skipN (k := k) (by rw [HSL.out]; exact k2) (fun i h1 h2 h3 => by have := k3 i 10 h1 h2 h3; simp at this))
        obtain ⟨m, hm⟩ : ∃ m, ps.length + 1 = m := ⟨_, rfl⟩
        have HM := Lib.hid hm
        rw [hm]
        clear STEP hsp hit' hit hrow hj hg hm hc hk k3 kr c1
        gi_wp2
        gi_roundg (s.size - (p + k))
        case measure => omega
        case rel => exact ⟨p + k, f, ps, by rw [HM.out], rfl, by omega, rfl, HS, S1, S2, S3⟩
    · obtain rfl : p = s.size := by omega
      have hnx := Lib.run_next_end_at (P := Tryz.prog) wr W.heap.size s s.size 0 hit (by omega)
      obtain ⟨hfp, hsp2⟩ := SplitAtQ.last (by rw [HSL.out]; exact hsp.out)
      rw [HSL.out] at hfp hsp2
      have hpx : ps.zipIdx 1 ++ [((s.data.toList.drop f).take (s.size - f), ps.length + 1)] <+: linesN s.data.toList := by rw [zip_snoc1]; exact zip_pre1 hsp2.pre
      have hall : ps.zipIdx 1 ++ [((s.data.toList.drop f).take (s.size - f), ps.length + 1)] = linesN s.data.toList := by
        rw [zip_snoc1]
        cases hsp2 with
        | on h1 h2 h3 h4 => rw [HSL.out] at h1; omega
        | off h1 h2 => unfold linesN; rw [← h2]
      obtain ⟨fn, tmps, assign, body, hy, hR⟩ := HY.out _ _ _ _ hpx hj
      obtain ⟨Y, hYe⟩ : ∃ Y, s.extract f s.size = Y := ⟨_, rfl⟩
      obtain ⟨m, hm⟩ : ∃ m, ps.length + 1 = m := ⟨_, rfl⟩
      replace hy : (Instr.yield lp #[.int .i64 (m : Nat), .string Y]).run Tryz.prog wr = .ok (.round lp fn tmps assign body) wr := by
        rw [← hYe, ← hm, ext_bytesQ]; exact hy
      have HALL := Lib.hid hall
      have HPX := Lib.hid hpx
      rw [hm]
      clear STEP hsp hit' hit hrow hj hsp2 hpx hall hm
      gi_wp2
      refine hR.mono ?_
      rintro e w3 (⟨rfl, hJ4, hk4⟩ | ⟨rfl, hJx4, hk4⟩)
      · gi_wp2
        go_end0
        exact ⟨⟨_, rfl⟩, _, .inl (by rw [HALL.out] at hJ4; exact hJ4)⟩
      · gi_wp2
        go_end0
        exact ⟨⟨_, rfl⟩, _, .inr ⟨_, HPX.out, hJx4⟩⟩
end Go.Proofs.YtnmhdcbpbaanoaaGreatDoor
