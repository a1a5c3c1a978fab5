/- A trie in rows of the call's own, of the document: a number more in Index, a block more. -/
import Derived.Test.YtlmkefmfhdjmmaaDoorBunA12
namespace Go.Proofs.YtlmkefmfhdjmmaaDoor
open Go.RowKit Go.Shelf Go.Maps

structure OwnT (w : World) (base : Nat) (io : Option Addr) (ic : Nat) (bo : Option Addr) (bc : Nat) (t : TrieD) : Prop where
  ix : w.ownsRow base 3 1 (.slice io t.1.length ic) t.1.length (t.1.map (Value.int .i64))
  bl : ∃ cs, w.ownsRow base 25 1 (.slice bo t.2.length bc) t.2.length cs ∧ BlkC w base (fun _ => False) io cs t.2
theorem OwnT.turn {S : Nat → Prop} {w w' : World} {base : Nat} {io bo : Option Addr} {ic bc : Nat} {t : TrieD} (h : OwnT w base io ic bo bc t) (hm : Moves S w w') (hS : ∀ k, S k → k < base) : OwnT w' base io ic bo bc t := by
  obtain ⟨cs, hcs, hbc⟩ := h.bl
  refine ⟨own_moves1N h.ix hm (fun k hk hs => ?_), cs, own_moves1N hcs hm (fun k hk hs => ?_), fun j b hj => ?_⟩
  · obtain ⟨_, _, h1⟩ := own_rowT h.ix hk
    have := hS k hs
    omega
  · obtain ⟨_, _, h1⟩ := own_rowT hcs hk
    have := hS k hs
    omega
  · obtain ⟨g, sc, cur, k1, k2, k3, k4, k5⟩ := hbc j b hj
    exact ⟨g, sc, cur, k1, k2, k3, row_keep k4 hm (fun hs => by have := hS g hs; omega), k5⟩
theorem OwnT.turn2 {S : Nat → Prop} {w w' : World} {base : Nat} {io bo : Option Addr} {ic bc : Nat} {t : TrieD} (h : OwnT w base io ic bo bc t) (hm : Moves S w w') (hS : ∀ k, S k → ∃ cur e, w.heap[k]? = some (.cells cur e (0, 0)) ∧ e ≠ 3 ∧ e ≠ 25) : OwnT w' base io ic bo bc t := by
  obtain ⟨cs, hcs, hbc⟩ := h.bl
  have far : ∀ {k e cur}, w.heap[k]? = some (.cells cur e (0, 0)) → (e = 3 ∨ e = 25) → ¬ S k := fun {k e cur} hk he hs => by
    obtain ⟨cur2, e2, h2, h3, h4⟩ := hS k hs
    rw [hk] at h2
    injection h2 with h2
    injection h2 with _ h5 _
    subst h5
    rcases he with he | he
    · exact h3 he
    · exact h4 he
  refine ⟨own_moves1N h.ix hm (fun k hk hs => ?_), cs, own_moves1N hcs hm (fun k hk hs => ?_), fun j b hj => ?_⟩
  · obtain ⟨_, h1, _⟩ := own_rowT h.ix hk
    exact far h1 (.inl rfl) hs
  · obtain ⟨_, h1, _⟩ := own_rowT hcs hk
    exact far h1 (.inr rfl) hs
  · obtain ⟨g, sc, cur, k1, k2, k3, k4, k5⟩ := hbc j b hj
    exact ⟨g, sc, cur, k1, k2, k3, row_keep k4 hm (far k4 (.inl rfl)), k5⟩
theorem OwnT.below {w w' : World} {base : Nat} {io bo : Option Addr} {ic bc : Nat} {t : TrieD} (h : OwnT w base io ic bo bc t) (hb : Below w.heap.size w w') : OwnT w' base io ic bo bc t := by
  refine h.turn2 (S := fun _ => False) ⟨hb.os, hb.tape, hb.output, hb.size, fun k hk _ => hb.block k hk⟩ (fun k h => h.elim)
theorem OwnT.trie {w : World} {base : Nat} {io bo : Option Addr} {ic bc : Nat} {t : TrieD} (h : OwnT w base io ic bo bc t) (hf : ∀ b ∈ t.2, b.length = 256) : TrieT w io bo t := by
  refine ⟨intsT_own h.ix, fun hn => ?_⟩
  obtain ⟨cs, hcs, hbc⟩ := h.bl
  rcases hcs.2 with ⟨_, h0⟩ | ⟨g, cap', cur, e, _, hg, _, _, _, htake⟩
  · omega
  · obtain ⟨rfl, rfl⟩ : bo = some ⟨g, 0, none⟩ ∧ bc = cap' := by simpa using e
    refine ⟨g, 0, rfl, fun j b hj => ?_⟩
    obtain ⟨g2, sc, cu, k1, k2, k3, k4, k5, _⟩ := hbc j b hj
    have hbl := hf b (List.mem_of_getElem? hj)
    refine ⟨some ⟨g2, 0, none⟩, sc, ?_, by omega, fun _ => ⟨g2, 0, rfl, fun p v hv => ?_⟩⟩
    · rw [Nat.zero_add, cell_of_row _ _ j _ _ _ hg, hbl]
      rw [← htake, List.getElem?_take] at k1
      split at k1
      · rwa [Array.getElem?_toList] at k1
      · cases k1
    · rw [Nat.zero_add, cell_of_row _ _ p _ _ _ k4]
      exact k5 p v hv
/-- A number more in Index. -/
theorem OwnT.push {w : World} {base : Nat} {io bo : Option Addr} {ic bc : Nat} {ix : List Int} {bs : List (List Int)} (h : OwnT w base io ic bo bc (ix, bs)) (hbase : base ≤ w.heap.size) (hl : ix.length ≤ 1000000) (v : Int) :
    ∃ g9 c9 w9, (appSem #[25, 25] 25 #[.slice io ix.length ic, .slice (some ⟨w.heap.size, 0, none⟩) 1 1]).run Tryd.prog (w.alloc (.cells #[.int .i64 v] 3)) = .ok (.slice (some ⟨g9, 0, none⟩) (ix.length + 1) c9) w9 ∧
      OwnT w9 base (some ⟨g9, 0, none⟩) c9 bo bc (ix ++ [v], bs) ∧ Moves (fun k => inB io k) w w9 ∧ (inB io g9 ∨ w.heap.size < g9) := by
  obtain ⟨cs, hcs, hbc⟩ := h.bl
  have hix := h.ix
  simp only at hix hcs hbc
  obtain ⟨n, hn⟩ : ∃ n, ix.length = n := ⟨_, rfl⟩
  obtain ⟨m, hmm⟩ : ∃ n, bs.length = n := ⟨_, rfl⟩
  rw [hn] at hix hl
  rw [hmm] at hcs
  rw [hn]
  have a1 : Below w.heap.size w (w.alloc (.cells #[.int .i64 v] 3)) := (Below.refl _ _).alloc (Nat.le_refl _) _
  have hix1 := own_below hix a1
  obtain ⟨i0, hi0, hz0, hz1, hz2⟩ := info_parts infoIntT
  obtain ⟨v', w9, hr, h2, h3, h4, hat⟩ := run_append_own_at (P := Tryd.prog) (w := w.alloc (.cells #[.int .i64 v] 3)) base 25 25 3 i0 (.int .i64 0) 1 8 Tryd.underlying25 hi0 hz0 hz1 hz2 rfl (by decide) _ n _ hix1 ⟨w.heap.size, 0, none⟩ 1 1 [.int .i64 v] rfl
    (cell_one_new _ _ _) (by simp [Value.oneCell']) (by unfold maxLen; omega) (by omega) (by simp; omega)
  obtain ⟨o9, c9, rfl⟩ := own_form h2
  have hne9 : ∃ g9, o9 = some ⟨g9, 0, none⟩ := by
    rcases h2.2 with ⟨_, h0⟩ | ⟨g, cap, cu, h', _⟩
    · omega
    · exact ⟨g, by injection h'⟩
  obtain ⟨g9, rfl⟩ := hne9
  have z1 : (w.alloc (.cells #[.int .i64 v] 3)).heap.size = w.heap.size + 1 := by simp
  have hg9 : inB io g9 ∨ w.heap.size < g9 := by
    rcases hat with e | e
    · exact .inl (own_inB (n := n) (c := ic) (e ▸ rfl))
    · have : g9 = (w.alloc (.cells #[.int .i64 v] 3)).heap.size := by simpa [Value.ownBlock] using e
      exact .inr (by omega)
  have m9 : Moves (fun k => inB io k) w w9 := (Moves.of_below a1).trans ((Moves.of_grownN h3).mono fun k hk => own_inB hk.symm)
  refine ⟨g9, c9, w9, hr, ⟨?_, cs, ?_, fun j b hj => ?_⟩, m9, hg9⟩
  · simp only [List.length_append, List.length_singleton, hn, List.map_append, List.map_cons, List.map_nil]
    exact h2
  · simp only [hmm]
    refine own_moves1N hcs m9 fun k hk hs => ?_
    obtain ⟨cur2, h5, _⟩ := own_rowT hcs hk
    obtain ⟨a, rfl, rfl⟩ := hs
    obtain ⟨cur3, h6, _⟩ := own_rowT hix (show (Value.slice (some a) n ic).ownBlock = some a.block from rfl)
    rw [h5] at h6
    injection h6 with h6
    injection h6 with _ h7 _
    exact absurd h7 (by decide)
  · obtain ⟨g, sc, cur, k1, k2, k3, k4, k5, k6, k7⟩ := hbc j b hj
    have hgw := (Array.getElem?_eq_some_iff.1 k4).1
    refine ⟨g, sc, cur, k1, k2, k3, row_keep k4 m9 (fun hs => ?_), k5, fun a ha e => ?_, k7⟩
    · obtain ⟨a, ha, e⟩ := hs
      exact k6 a ha e
    · cases ha
      simp only at e
      subst e
      rcases hg9 with ⟨a, rfl, e⟩ | h5
      · exact k6 a rfl e
      · omega
set_option maxRecDepth 100000 in
/-- A block more: a copy of it, laid, and put behind the others. -/
theorem OwnT.blk {w : World} {base : Nat} {io bo : Option Addr} {ic bc : Nat} {ix : List Int} {bs : List (List Int)} (h : OwnT w base io ic bo bc (ix, bs)) (hbase : base ≤ w.heap.size) (hl : bs.length ≤ 1000000) (hio : ∀ k, inB io k → k < w.heap.size) (b : List Int) (hb : b.length = 256) (so : Option Addr) (sc : Nat) (hB : IntsT w so b) :
    ∃ gq cq wq, (appSem #[25, 25] 25 #[.slice none 0 0, .slice so 256 sc]).run Tryd.prog w = .ok (.slice (some ⟨gq, 0, none⟩) 256 cq) wq ∧ Below w.heap.size w wq ∧
      ∃ g9 c9 w9, (appSem #[26, 26] 26 #[.slice bo bs.length bc, .slice (some ⟨wq.heap.size, 0, none⟩) 1 1]).run Tryd.prog (wq.alloc (.cells #[.slice (some ⟨gq, 0, none⟩) 256 cq] 25)) = .ok (.slice (some ⟨g9, 0, none⟩) (bs.length + 1) c9) w9 ∧
        OwnT w9 base io ic (some ⟨g9, 0, none⟩) c9 (ix, bs ++ [b]) ∧ Moves (fun k => inB bo k) w w9 := by
  obtain ⟨cs, hcs, hbc⟩ := h.bl
  have hix := h.ix
  simp only at hix hcs hbc
  obtain ⟨n, hn⟩ : ∃ n, ix.length = n := ⟨_, rfl⟩
  obtain ⟨m, hmm⟩ : ∃ n, bs.length = n := ⟨_, rfl⟩
  rw [hn] at hix
  rw [hmm] at hcs hl
  rw [hmm]
  obtain ⟨i0, hi0, hz0, hz1, hz2⟩ := info_parts infoIntT
  obtain ⟨g, off, rfl, hc⟩ := hB (by omega)
  obtain ⟨v', wq, hr, h2, h3, h4, hat⟩ := run_append_own_at (P := Tryd.prog) (w := w) w.heap.size 25 25 3 i0 (.int .i64 0) 1 8 Tryd.underlying25 hi0 hz0 hz1 hz2 rfl (by decide) (.slice none 0 0) 0 [] (World.ownsRow_nil _ _ _ _) ⟨g, off, none⟩ 256 sc (b.map (Value.int .i64)) (by simp [hb])
    (fun j u hj => by
      rw [List.getElem?_map] at hj
      cases hx : b[j]? with
      | none => rw [hx] at hj; cases hj
      | some x => rw [hx] at hj; cases hj; rw [show (⟨g, off, none⟩ : Addr).add j = ⟨g, off + j, none⟩ by unfold Addr.add; split <;> simp_all]; exact hc j x hx) (by intro x hx; obtain ⟨y, _, rfl⟩ := List.mem_map.1 hx; rfl) (by unfold maxLen; omega) (by omega) (Nat.le_refl _)
  rw [Nat.zero_add] at h2
  obtain ⟨oq, cq, rfl⟩ := own_form h2
  obtain ⟨gq, rfl⟩ : ∃ gq, oq = some ⟨gq, 0, none⟩ := by
    rcases h2.2 with ⟨_, h0⟩ | ⟨g, cap, cu, h', _⟩
    · omega
    · exact ⟨g, by injection h'⟩
  have hbq : Below w.heap.size w wq := ⟨h3.os, h3.tape, h3.output, h3.size, fun k hk => h3.block k hk (by simp [Value.ownBlock])⟩
  refine ⟨gq, cq, wq, hr, hbq, ?_⟩
  have a8 : Below wq.heap.size wq (wq.alloc (.cells #[.slice (some ⟨gq, 0, none⟩) 256 cq] 25)) := (Below.refl _ _).alloc (Nat.le_refl _) _
  have hzq := hbq.size
  have hcs8 := own_below (own_below hcs hbq) a8
  obtain ⟨j0, hj0, hy0, hy1, hy2⟩ := info_parts infoIntsT
  obtain ⟨v9, w9, hr9, h29, h39, h49, hat9⟩ := run_append_own_at (P := Tryd.prog) (wq.alloc (.cells #[.slice (some ⟨gq, 0, none⟩) 256 cq] 25)) base 26 26 25 j0 (.slice none 0 0) 1 24 Tryd.underlying26 hj0 hy0 hy1 hy2 rfl (by decide) _ m cs hcs8 ⟨wq.heap.size, 0, none⟩ 1 1 [.slice (some ⟨gq, 0, none⟩) 256 cq] rfl
    (cell_one_new _ _ _) (by simp [Value.oneCell']) (by unfold maxLen; omega) (by omega) (by simp; omega)
  obtain ⟨o9, c9, rfl⟩ := own_form h29
  obtain ⟨g9, rfl⟩ : ∃ g9, o9 = some ⟨g9, 0, none⟩ := by
    rcases h29.2 with ⟨_, h0⟩ | ⟨g, cap, cu, h', _⟩
    · omega
    · exact ⟨g, by injection h'⟩
  have m9 : Moves (fun k => inB bo k) w w9 := (Moves.of_below (hbq.trans (a8.mono hzq))).trans ((Moves.of_grownN h39).mono fun k hk => own_inB hk.symm)
  have hown : ∀ {k cur}, w.heap[k]? = some (.cells cur 3 (0, 0)) → ¬ inB bo k := fun {k cur} hk hs => by
    obtain ⟨a, rfl, rfl⟩ := hs
    obtain ⟨cur3, h6, _⟩ := own_rowT hcs (show (Value.slice (some a) m bc).ownBlock = some a.block from rfl)
    rw [hk] at h6
    injection h6 with h6
    injection h6 with _ h7 _
    exact absurd h7 (by decide)
  obtain ⟨curq, hq1, hq2⟩ := own_rowT h2 (show (Value.slice (some ⟨gq, 0, none⟩) 256 cq).ownBlock = some gq from rfl)
  have hgq8 := (Array.getElem?_eq_some_iff.1 hq1).1
  have hgq9 : w9.heap[gq]? = some (.cells curq 3 (0, 0)) := by
    rw [h39.block gq (by simp; omega) (fun e => ?_), a8.block gq (by omega)]
    · exact hq1
    · obtain ⟨_, h6, _⟩ := own_rowT hcs e.symm
      have := (Array.getElem?_eq_some_iff.1 h6).1
      omega
  refine ⟨g9, c9, w9, hr9, ⟨?_, cs ++ [.slice (some ⟨gq, 0, none⟩) 256 cq], ?_, fun j c hj => ?_⟩, m9⟩
  · simp only [hn]
    refine own_moves1N hix m9 fun k hk => ?_
    obtain ⟨_, h6, _⟩ := own_rowT hix hk
    exact hown h6
  · simp only [List.length_append, List.length_singleton, hmm]
    exact h29
  · have hcl : cs.length = m := by have := hcs.1; omega
    rcases Nat.lt_or_ge j m with hlj | hlj
    · rw [List.getElem?_append_left (by omega)] at hj
      obtain ⟨g, sc, cu, k1, k2, k3, k4, k5, k6, k7⟩ := hbc j c hj
      exact ⟨g, sc, cu, by rw [List.getElem?_append_left (by omega)]; exact k1, k2, k3, row_keep k4 m9 (hown k4), k5, k6, k7⟩
    · rw [List.getElem?_append_right (by omega)] at hj
      have h0 : j - bs.length = 0 := by have := (List.getElem?_eq_some_iff.1 hj).1; simp at this; omega
      rw [h0] at hj
      cases hj
      refine ⟨gq, cq, curq, by rw [List.getElem?_append_right (by omega), show j - cs.length = 0 by omega]; rfl, own_cap h2, by omega, hgq9, fun p v hv => ?_, fun a ha e => ?_, id⟩
      · rcases h2.2 with ⟨_, h0⟩ | ⟨g', cap', cur', e', _, hg', _, _, _, htake⟩
        · omega
        · obtain ⟨rfl, rfl⟩ : gq = g' ∧ cq = cap' := by simpa using e'
          rw [hq1] at hg'
          injection hg' with hg'
          injection hg' with hg' _ _
          subst hg'
          have h1 : (([] : List Value) ++ b.map (Value.int .i64))[p]? = some (.int .i64 v) := by rw [List.nil_append, List.getElem?_map, hv]; rfl
          rw [← htake, List.getElem?_take] at h1
          split at h1
          · rwa [Array.getElem?_toList] at h1
          · cases h1
      · have := hio a.block ⟨a, ha, rfl⟩
        omega
end Go.Proofs.YtlmkefmfhdjmmaaDoor
