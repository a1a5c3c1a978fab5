/- A trie that is read, in rows of the call's own: one row of numbers grows, the blocks stand. -/
import Derived.Test.YtcnbcaljpgdcpaaDoorZARefRead
import Derived.Test.YtcnbcaljpgdcpaaDoorZARefPack
namespace Go.Proofs.YtcnbcaljpgdcpaaDoor
open Go.RowKit Go.Shelf Go.Maps

structure LdI (base : Nat) (w : World) (og : Option Addr) (cg : Nat) (lg : List Int) (bo : Option Addr) (bc : Nat) (bs : List (List Int)) : Prop where
  gr : w.ownsRow base 3 1 (.slice og lg.length cg) lg.length (lg.map (Value.int .i64))
  bl : ∃ cs, w.ownsRow base 22 1 (.slice bo bs.length bc) bs.length cs ∧ ∀ (j : Nat) (b : List Int), bs[j]? = some b → ∃ o c, cs[j]? = some (.slice o b.length c) ∧ w.ownsRow base 3 1 (.slice o b.length c) b.length (b.map (Value.int .i64)) ∧ ∀ k, inB o k → ¬ inB og k
theorem row_at {w : World} {base n c sz : Nat} {o : Option Addr} {e : TypeId} {xs : List Value} (h : w.ownsRow base e sz (.slice o n c) n xs) {k : Nat} (hk : inB o k) : ∃ cur, w.heap[k]? = some (.cells cur e (0, 0)) ∧ base ≤ k := by
  obtain ⟨a, rfl, rfl⟩ := hk
  exact own_rowT h (show (Value.slice (some a) n c).ownBlock = some a.block from rfl)
theorem row_types {w : World} {b1 b2 n1 n2 c1 c2 s1 s2 : Nat} {o1 o2 : Option Addr} {x1 x2 : List Value} (h1 : w.ownsRow b1 3 s1 (.slice o1 n1 c1) n1 x1) (h2 : w.ownsRow b2 22 s2 (.slice o2 n2 c2) n2 x2) {k : Nat} (k1 : inB o1 k) (k2 : inB o2 k) : False := by
  obtain ⟨_, g1, _⟩ := row_at h1 k1
  obtain ⟨_, g2, _⟩ := row_at h2 k2
  rw [g1] at g2
  injection g2 with g2
  injection g2 with _ h7 _
  exact absurd h7 (by decide)
theorem own_mv {w w' : World} {base n c sz : Nat} {o : Option Addr} {e : TypeId} {xs : List Value} {S : Nat → Prop} (h : w.ownsRow base e sz (.slice o n c) n xs) (hm : Moves S w w') (hs : ∀ k, inB o k → ¬ S k) : w'.ownsRow base e sz (.slice o n c) n xs :=
  own_moves1N h hm fun k hk h1 => hs k (own_inU hk) h1
theorem LdI.turn {S : Nat → Prop} {base cg bc : Nat} {w w' : World} {og bo : Option Addr} {lg : List Int} {bs : List (List Int)} (h : LdI base w og cg lg bo bc bs) (hm : Moves S w w') (hS : ∀ k, S k → k < base) : LdI base w' og cg lg bo bc bs := by
  obtain ⟨cs, hcs, hb⟩ := h.bl
  have far : ∀ {n c sz : Nat} {o : Option Addr} {e : TypeId} {xs : List Value}, w.ownsRow base e sz (.slice o n c) n xs → ∀ k, inB o k → ¬ S k := fun hr k hk hs => by
    obtain ⟨_, _, h1⟩ := row_at hr hk
    have := hS k hs
    omega
  refine ⟨own_mv h.gr hm (far h.gr), cs, own_mv hcs hm (far hcs), fun j b hj => ?_⟩
  obtain ⟨o, c, h1, h2, h3⟩ := hb j b hj
  exact ⟨o, c, h1, own_mv h2 hm (far h2), h3⟩
theorem LdI.below {base cg bc : Nat} {w w' : World} {og bo : Option Addr} {lg : List Int} {bs : List (List Int)} (h : LdI base w og cg lg bo bc bs) (hb : Below w.heap.size w w') : LdI base w' og cg lg bo bc bs :=
  h.turn (S := fun _ => False) ⟨hb.os, hb.tape, hb.output, hb.size, fun k hk _ => hb.block k hk⟩ (fun _ h => h.elim)
/-- A number more in the row that grows. -/
theorem LdI.grow {base cg bc n : Nat} {w : World} {og bo : Option Addr} {lg : List Int} {bs : List (List Int)} (h : LdI base w og cg lg bo bc bs) (hn : lg.length = n) (hbase : base ≤ w.heap.size) (hl : n ≤ 1000000) {a : Addr} (v : Int) (ha : w.cell? a = some (.int .i64 v)) :
    ∃ o' c' w6, (appSem #[22, 22] 22 #[.slice og n cg, .slice (some a) 1 1]).run Tryd.prog w = .ok (.slice o' (n + 1) c') w6 ∧ LdI base w6 o' c' (lg ++ [v]) bo bc bs ∧ Moves (fun k => inB og k) w w6 := by
  subst hn
  obtain ⟨cs, hcs, hb⟩ := h.bl
  obtain ⟨i0, hi0, hz0, hz1, hz2⟩ := info_parts infoIntT
  obtain ⟨v', w6, hr, h2, h3, h4, hat⟩ := run_append_own_at (P := Tryd.prog) (w := w) base 22 22 3 i0 (.int .i64 0) 1 8 Tryd.underlying22 hi0 hz0 hz1 hz2 rfl (by decide) _ lg.length _ h.gr a 1 1 [.int .i64 v] rfl
    (fun j u hj => by
      match j, hj with
      | 0, hj => cases hj; rw [show a.add 0 = a from by obtain ⟨g, o, s⟩ := a; unfold Addr.add; split <;> simp_all]; exact ha) (by simp [Value.oneCell']) (by unfold maxLen; omega) (by omega) hbase
  obtain ⟨o', c', rfl⟩ := own_form h2
  have m6 : Moves (fun k => inB og k) w w6 := ⟨h3.os, h3.tape, h3.output, h3.size, fun q hq hs => h3.block q hq fun e => hs (own_inU e.symm)⟩
  have hnew : ∀ k, inB o' k → inB og k ∨ k = w.heap.size := fun k hk => by
    obtain ⟨a, rfl, rfl⟩ := hk
    rcases hat with h7 | h7
    · exact .inl (own_inU (h7.symm.trans rfl))
    · exact .inr (by simpa [Value.ownBlock] using h7)
  refine ⟨o', c', w6, hr, ⟨?_, cs, ?_, fun j b hj => ?_⟩, m6⟩
  · rw [List.length_append, List.map_append]
    exact h2
  · exact own_mv hcs m6 fun k hk hs => row_types h.gr hcs hs hk
  · obtain ⟨o, c, h5, h6, h7⟩ := hb j b hj
    refine ⟨o, c, h5, own_mv h6 m6 h7, fun k hk hs => ?_⟩
    rcases hnew k hs with h8 | h8
    · exact h7 k hk h8
    · obtain ⟨_, h9, _⟩ := row_at h6 hk
      have := (Array.getElem?_eq_some_iff.1 h9).1
      omega
/-- The row that grew becomes a block. -/
theorem LdI.push {base cg bc n m : Nat} {w : World} {og bo : Option Addr} {lg : List Int} {bs : List (List Int)} (h : LdI base w og cg lg bo bc bs) (hn : lg.length = n) (hm : bs.length = m) (hbase : base ≤ w.heap.size) (hl : m ≤ 1000000) {a : Addr} (ha : w.cell? a = some (.slice og n cg)) :
    ∃ o' c' w6, (appSem #[23, 23] 23 #[.slice bo m bc, .slice (some a) 1 1]).run Tryd.prog w = .ok (.slice o' (m + 1) c') w6 ∧ LdI base w6 none 0 [] o' c' (bs ++ [lg]) ∧ Moves (fun k => inB bo k) w w6 := by
  subst hn hm
  obtain ⟨cs, hcs, hb⟩ := h.bl
  obtain ⟨i0, hi0, hz0, hz1, hz2⟩ := info_parts infoIntsT
  obtain ⟨v', w6, hr, h2, h3, h4, hat⟩ := run_append_own_at (P := Tryd.prog) (w := w) base 23 23 22 i0 (.slice none 0 0) 1 24 Tryd.underlying23 hi0 hz0 hz1 hz2 rfl (by decide) _ bs.length cs hcs a 1 1 [.slice og lg.length cg] rfl
    (fun j u hj => by
      match j, hj with
      | 0, hj => cases hj; rw [show a.add 0 = a from by obtain ⟨g, o, s⟩ := a; unfold Addr.add; split <;> simp_all]; exact ha) (by simp [Value.oneCell']) (by unfold maxLen; omega) (by omega) hbase
  obtain ⟨o', c', rfl⟩ := own_form h2
  have m6 : Moves (fun k => inB bo k) w w6 := ⟨h3.os, h3.tape, h3.output, h3.size, fun q hq hs => h3.block q hq fun e => hs (own_inU e.symm)⟩
  have hcl : cs.length = bs.length := by have := hcs.1; omega
  refine ⟨o', c', w6, hr, ⟨World.ownsRow_nil _ _ _ _, cs ++ [.slice og lg.length cg], ?_, fun j b hj => ?_⟩, m6⟩
  · rw [List.length_append]
    exact h2
  · rcases Nat.lt_or_ge j bs.length with hlj | hlj
    · rw [List.getElem?_append_left hlj] at hj
      obtain ⟨o, c, h5, h6, _⟩ := hb j b hj
      exact ⟨o, c, by rw [List.getElem?_append_left (by omega)]; exact h5, own_mv h6 m6 fun k hk hs => row_types h6 hcs hk hs, fun _ _ hs => by obtain ⟨_, e, _⟩ := hs; cases e⟩
    · rw [List.getElem?_append_right hlj] at hj
      have h0 : j - bs.length = 0 := by have := (List.getElem?_eq_some_iff.1 hj).1; simp at this; omega
      rw [h0] at hj
      cases hj
      exact ⟨og, cg, by rw [List.getElem?_append_right (by omega), show j - cs.length = 0 by omega]; rfl, own_mv h.gr m6 fun k hk hs => row_types h.gr hcs hk hs, fun _ _ hs => by obtain ⟨_, e, _⟩ := hs; cases e⟩
theorem LdI.trie {base cg bc : Nat} {w : World} {og bo : Option Addr} {lg : List Int} {bs : List (List Int)} (h : LdI base w og cg lg bo bc bs) : TrieT w og bo (lg, bs) := by
  refine ⟨intsT_own h.gr, fun hn => ?_⟩
  obtain ⟨cs, hcs, hb⟩ := h.bl
  rcases hcs.2 with ⟨_, h0⟩ | ⟨g, cap', cur, e, _, hg, _, _, _, htake⟩
  · simp only at hn; omega
  · obtain ⟨rfl, rfl⟩ : bo = some ⟨g, 0, none⟩ ∧ bc = cap' := by simpa using e
    refine ⟨g, 0, rfl, fun j b hj => ?_⟩
    obtain ⟨o, c, k1, k2, _⟩ := hb j b hj
    refine ⟨o, c, ?_, own_cap k2, intsT_own k2⟩
    rw [Nat.zero_add, cell_of_row _ _ j _ _ _ hg]
    rw [← htake, List.getElem?_take] at k1
    split at k1
    · rwa [Array.getElem?_toList] at k1
    · cases k1
end Go.Proofs.YtcnbcaljpgdcpaaDoor
