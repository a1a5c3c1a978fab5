/- Rows in boxes; slices.Collect over the runs; Runs. What is left of a pack: a number taken off; its runs, plainly. reader.runs: the runs that are read off. What runs that are read say of the numbers that are taken off. slices.Equal of runs; the law's own. Rows in boxes, one more behind them; what numbers holds between two rounds. -/
import Derived.Test.YtcnbcaljpgdcpaaDoorBunA6
import Derived.Test.YtcnbcaljpgdcpaaDoorBunA8
import Derived.Test.YtcnbcaljpgdcpaaDoorBunA4
import Derived.StillTailTactics
import Derived.ChangeKeysEq
import Derived.Laws.MakeOwn
namespace Go.Proofs.YtcnbcaljpgdcpaaDoor
open Go.RowKit Go.Shelf Go.Maps
attribute [local go_sem] Oper.semAt_some
attribute [local go_sem ↓] app_hide

def cellsU (l : List (Nat × Int)) : List Value := l.flatMap fun x => [.int .i64 (x.1 : Nat), .int .i64 x.2]
theorem cellsU_append (a b : List (Nat × Int)) : cellsU (a ++ b) = cellsU a ++ cellsU b := by unfold cellsU; rw [List.flatMap_append]
theorem cellsU_length : ∀ l : List (Nat × Int), (cellsU l).length = l.length * 2
  | [] => rfl
  | x :: l => by
    have := cellsU_length l
    unfold cellsU at this ⊢
    rw [List.flatMap_cons, List.length_append, this]
    simp
    omega
theorem cellsU_one (l : List (Nat × Int)) : ∀ u ∈ cellsU l, u.oneCell' = true := by
  intro u hu
  unfold cellsU at hu
  obtain ⟨x, _, hu⟩ := List.mem_flatMap.1 hu
  simp only [List.mem_cons, List.not_mem_nil, or_false] at hu
  rcases hu with rfl | rfl <;> rfl
theorem cellsU_get : ∀ {l : List (Nat × Int)} {j : Nat} {x : Nat × Int}, l[j]? = some x → (cellsU l)[j * 2]? = some (.int .i64 (x.1 : Nat)) ∧ (cellsU l)[j * 2 + 1]? = some (.int .i64 x.2)
  | [], j, x, h => by simp at h
  | y :: l, 0, x, h => by
    obtain rfl : y = x := by simpa using h
    exact ⟨rfl, rfl⟩
  | y :: l, j + 1, x, h => by
    have := cellsU_get (l := l) (j := j) (x := x) (by simpa using h)
    unfold cellsU at this ⊢
    rw [List.flatMap_cons]
    rw [show (j + 1) * 2 = j * 2 + 2 from by omega]
    simpa using this
/-- Where runs stand. -/
def AtU (w : World) (o : Option Addr) (l : List (Nat × Int)) : Prop := 0 < l.length → ∃ g off, o = some ⟨g, off, none⟩ ∧ ∀ (j : Nat) (x : Nat × Int), l[j]? = some x → w.cell? ⟨g, off + j * 2, none⟩ = some (.int .i64 (x.1 : Nat)) ∧ w.cell? ⟨g, off + j * 2 + 1, none⟩ = some (.int .i64 x.2)
theorem AtU.below {w w' : World} {o : Option Addr} {l : List (Nat × Int)} (h : AtU w o l) (hb : Below w.heap.size w w') : AtU w' o l := fun hn => by
  obtain ⟨g, off, ho, hc⟩ := h hn
  refine ⟨g, off, ho, fun j x hx => ?_⟩
  obtain ⟨h0, h1⟩ := hc j x hx
  exact ⟨cell_keepT hb h0, cell_keepT hb h1⟩
theorem atU_own {w : World} {base : Nat} {o : Option Addr} {l : List (Nat × Int)} {cap : Nat} (h : w.ownsRow base 49 2 (.slice o l.length cap) l.length (cellsU l)) : AtU w o l := fun hn => by
  rcases h.2 with ⟨_, h0⟩ | ⟨g, cap', cur, e, _, hg, _, _, _, htake⟩
  · omega
  · obtain ⟨rfl, rfl⟩ : o = some ⟨g, 0, none⟩ ∧ cap = cap' := by simpa using e
    have key : ∀ i u, (cellsU l)[i]? = some u → w.cell? ⟨g, i, none⟩ = some u := fun i u hu => by
      rw [cell_of_row _ _ i _ _ _ hg]
      rw [← htake, List.getElem?_take] at hu
      split at hu
      · rwa [Array.getElem?_toList] at hu
      · cases hu
    refine ⟨g, 0, rfl, fun j x hx => ?_⟩
    obtain ⟨h0, h1⟩ := cellsU_get hx
    rw [Nat.zero_add]
    exact ⟨key _ _ h0, key _ _ h1⟩
theorem infoRun : (Tryd.prog.info? 49).map (fun i => (i.zero, i.size, i.bytes)) = some (some (.agg #[.int .i64 0, .int .i64 0]), 2, 16) := by kernel_rfl
theorem run_sz : (Tryd.prog.info? 49).map (·.size) = some 2 := by kernel_rfl
abbrev runO (x : Nat × Int) : Obj := .cells (runC x) 49 (0, 0)
theorem runO_cells {w : World} {k : Nat} {x : Nat × Int} (h : w.heap[k]? = some (runO x)) : w.cell? ⟨k, 0, none⟩ = some (.int .i64 (x.1 : Nat)) ∧ w.cell? ⟨k, 1, none⟩ = some (.int .i64 x.2) := row_cells h
theorem run_own {W : World} {base k : Nat} {v : Value} {xs : List Value} (x : Nat × Int) (ho : W.ownsRow base 49 2 v k xs) (hk : k ≤ 100000) (hbase : base ≤ W.heap.size) {e : Nat} (he : W.heap[e]? = some (runO x)) :
    ∃ g cap w6, (appSem #[36, 36] 36 #[v, .slice (some ⟨e, 0, none⟩) 1 1]).run Tryd.prog W = .ok (.slice (some ⟨g, 0, none⟩) (k + 1) cap) w6 ∧
      w6.ownsRow base 49 2 (.slice (some ⟨g, 0, none⟩) (k + 1) cap) (k + 1) (xs ++ cellsU [x]) ∧ W.grownBy w6 v.ownBlock ∧ (v.ownBlock = some g ∨ g = W.heap.size) := by
  obtain ⟨i0, hi, hz0, hz1, hz2⟩ := info_parts infoRun
  obtain ⟨c0, c1⟩ := runO_cells he
  obtain ⟨v', w6, hr, h2, h3, h4, h5⟩ := run_append_own_at (P := Tryd.prog) W base 36 36 49 i0 (.agg #[.int .i64 0, .int .i64 0]) 2 16 Tryd.underlying36 hi hz0 hz1 hz2 rfl (by decide) v k xs ho ⟨e, 0, none⟩ 1 1 (cellsU [x]) rfl
    (fun j u hj => by
      match j, hj with
      | 0, hj => cases hj; exact c0
      | 1, hj => cases hj; exact c1) (cellsU_one _) (by unfold maxLen; omega) (by omega) hbase
  obtain ⟨g, cap, rfl⟩ := ownsRow_succ h2
  exact ⟨g, cap, w6, hr, h2, h3, h5.imp (fun h => h.symm) (fun h => by simpa [Value.ownBlock] using h)⟩
theorem own_inU {o : Option Addr} {n c k : Nat} (h : (Value.slice o n c).ownBlock = some k) : inB o k := by
  cases o with
  | none => simp [Value.ownBlock] at h
  | some a => exact ⟨a, rfl, by simpa [Value.ownBlock] using h⟩
/-- A row in a box, that X leaves alone. -/
def RowB (W : World) (S base : Nat) (ty el : TypeId) (sz n : Nat) (X : Nat → Prop) (cs : List Value) : Prop := ∃ so cap, Boxed W S ty (.slice so n cap) ∧ W.ownsRow base el sz (.slice so n cap) n cs ∧ ∀ k, inB so k → ¬ X k
theorem RowB.moves {W W' : World} {S base : Nat} {ty el : TypeId} {sz n : Nat} {X X' T : Nat → Prop} {cs : List Value} (h : RowB W S base ty el sz n X cs) (hm : Moves T W W') (hS : ¬ T S) (hT : ∀ k, base ≤ k → k < W.heap.size → T k → X k) (hX : ∀ k, X' k → X k ∨ W.heap.size ≤ k) : RowB W' S base ty el sz n X' cs := by
  obtain ⟨so, cap, hb, ho, hn⟩ := h
  have hown : ∀ k, inB so k → base ≤ k ∧ k < W.heap.size := fun k hk => by
    obtain ⟨a, rfl, rfl⟩ := hk
    obtain ⟨_, h2, h3⟩ := own_rowT ho (show (Value.slice (some a) n cap).ownBlock = some a.block from rfl)
    exact ⟨h3, (Array.getElem?_eq_some_iff.1 h2).1⟩
  refine ⟨so, cap, row_keep hb hm hS, own_moves1N ho hm (fun k hk ht => ?_), fun k hk hx => ?_⟩
  · have h1 := own_inU hk
    have := hown k h1
    exact hn k h1 (hT k this.1 this.2 ht)
  · rcases hX k hx with h1 | h1
    · exact hn k hk h1
    · have := hown k hk; omega
theorem RowB.lt {W : World} {S base : Nat} {ty el : TypeId} {sz n : Nat} {X : Nat → Prop} {cs : List Value} (h : RowB W S base ty el sz n X cs) : S < W.heap.size := by obtain ⟨so, cap, hb, _, _⟩ := h; exact hb.lt
/-- What holds between two rounds of AppendSeq. -/
structure ColI (w : World) (X : Nat → Prop) (W : World) (acc : List (Nat × Int)) : Prop where
  far : ∀ k, X k → w.heap.size + 1 ≤ k
  size : w.heap.size + 1 ≤ W.heap.size
  kept : Below w.heap.size w W
  mb : RowB W w.heap.size (w.heap.size + 1) 36 49 2 acc.length X (cellsU acc)
theorem ColI.moves {w : World} {X X' : Nat → Prop} {A A' : World} {acc : List (Nat × Int)} (h : ColI w X A acc) (hm : Moves X A A') (hX : ∀ k, X' k → (X k ∨ A.heap.size ≤ k) ∧ k < A'.heap.size) : ColI w X' A' acc := by
  have hz := hm.size
  have hs := h.size
  refine ⟨fun k hk => ?_, by omega, Moves.below h.kept h.kept.size hm (fun k hk => by have := h.far k hk; omega), h.mb.moves hm (fun hx => by have := h.far _ hx; omega) (fun k _ _ hk => hk) (fun k hk => (hX k hk).1)⟩
  rcases (hX k hk).1 with h1 | h1
  · exact h.far k h1
  · omega
set_option maxRecDepth 100000 in
set_option maxHeartbeats 4000000 in
theorem appSeq_any {cb : Nat} {o : Option Addr} {l : List Int} {n cap : Nat} (hn : l.length = n) (hb : n ≤ 5000) (w : World) (hC : w.heap[cb]? = some (.cells #[.slice o n cap] 22 (0, 0))) (hA : IntsT w o l) :
    Calls Tryd.prog 53 #[.slice none 0 0, .func (.func 54) #[] #[.pointer (some ⟨cb, 0, none⟩)]] w fun e w' => ∃ so c, e = .returned (.slice so (runsL l).length c) ∧ Below w.heap.size w w' ∧ AtU w' so (runsL l) ∧ (runsL l).length ≤ c ∧ ∀ k, inB so k → w.heap.size ≤ k := by
  refine (callsIn_wide (n := 6)).1 ?_
  have h1 : 1 ≤ 6 := by omega
  refine callsIn_of_wp_marks Tryd.func53 rfl trivial ?_ rfl
  simp only [Tryd.ntmps53, List.size_toArray, List.length_cons, List.length_nil, Nat.reduceAdd, Nat.reduceSub, Array.replicate_succ, Array.replicate_zero, List.push_toArray, List.append_toArray, List.nil_append, List.cons_append]
  obtain ⟨P, hP⟩ : ∃ P, (fun (e : Ending) w' => ∃ so c, e = .returned (.slice so (runsL l).length c) ∧ Below w.heap.size w w' ∧ AtU w' so (runsL l) ∧ (runsL l).length ≤ c ∧ ∀ k, inB so k → w.heap.size ≤ k) = P := ⟨_, rfl⟩
  have HP := Lib.hid hP
  rw [hP]
  obtain ⟨w0, hw0⟩ : ∃ w0, w.alloc (.cells #[.slice none 0 0] 36) = w0 := ⟨_, rfl⟩
  have B0 : Below w.heap.size w w0 := by rw [← hw0]; exact (Below.refl _ _).alloc (Nat.le_refl _) _
  have z0 : w0.heap.size = w.heap.size + 1 := by rw [← hw0]; simp
  have b0 : Boxed w0 w.heap.size 36 (.slice none 0 0) := by rw [← hw0]; exact Boxed.new _ _ _
  have I0 : ColI w (fun _ => False) w0 [] := ⟨fun k h => h.elim, by omega, B0, none, 0, b0, World.ownsRow_nil _ _ _ _, fun k _ => id⟩
  have hcb := (Array.getElem?_eq_some_iff.1 hC).1
  have HSEQ := Lib.hid (seqRuns (w0 := w) (w := w0) hn (by omega) (row_below hC B0) hA B0)
  have HI0 := Lib.hid I0
  have HW0 := Lib.hid hw0
  have HN := Lib.hid hn
  have HLN := Lib.hid (runsL_len l)
  clear hP hw0 I0 B0 b0 hn hA hC
  gi_wp2_with fail
  rw [HW0.out]
  refine wpIn_seqX (n := 6) (Ow := fun _ => False) (Dep := fun k => k < w.heap.size ∨ k = cb) (encs := encU) (all := runsL l) (by omega) rfl (enters_of Tryd.func54 (by kernel_rfl) rfl) (fun x => rfl) HSEQ.out (fun k h => h.elim) (fun k h => by omega)
    (fun X pre W => ColI w X W pre) (fun _ _ _ _ => False) ?hI ?hIx HI0.out
    (fun b x => { tmps := #[.slice none 0 0, .func (.func 54) #[] #[.pointer (some ⟨cb, 0, none⟩)], .pointer (some ⟨w.heap.size, 0, none⟩), undef, .slice none 0 0, .pointer (some ⟨b, 0, none⟩), .func (.func 54) #[] #[.pointer (some ⟨cb, 0, none⟩)], runV x, undef, undef, undef, undef, undef], defers := [] })
    (fun A x B => A.alloc (runO x) = B) (fun A x B h => by rw [← h]; exact Moves.of_below ((Below.refl _ _).alloc (Nat.le_refl _) _)) ?assign ?body ?done ?stop
  case hI =>
    rintro X X' xs A B h hm hX
    exact h.moves hm hX
  case hIx =>
    rintro c X X' xs A B h
    exact h.elim
  case stop =>
    rintro X D c pre W hD hXD hpre h
    exact h.elim
  case assign =>
    rintro l x A K hK
    gi_wp2
    rfl
  case body =>
    rintro lp X pre x A A' W1 hA1 hpx hAB hm hXn hXn1 hXlt hI
    have hxb : W1.heap[A.heap.size]? = some (runO x) := by
      have := heap_alloc_new A (runO x)
      rw [hAB] at this
      exact row_keep this hm (by omega)
    obtain ⟨c0, c1⟩ := runO_cells hxb
    have hlb := (Array.getElem?_eq_some_iff.1 hxb).1
    have hpl : pre.length < 100000 := by have := hpx.length_le; have := HLN.out; have := HN.out; simp at *; omega
    have hXb : ∀ k, X k → k < W1.heap.size := fun k h => by have h1 := hXlt k h; have h2 := hm.size; rw [← hAB] at h2; simp at h2; omega
    obtain ⟨so, sc, hbx, ho, hnx⟩ := hI.mb
    have k0 := hbx.cell
    have a2 : Below W1.heap.size W1 (W1.alloc (runO x)) := (Below.refl _ _).alloc (Nat.le_refl _) _
    obtain ⟨g, c', w6, hrun, hown', hgr, hg⟩ := run_own (W := W1.alloc (runO x)) x (own_below ho a2) (by omega) (by have := hI.size; simp; omega) (heap_alloc_new _ _)
    have m6 : Moves (fun k => inB so k) W1 w6 := (Moves.of_below a2).trans ⟨hgr.os, hgr.tape, hgr.output, hgr.size, fun k hk hs => hgr.block k hk fun e => hs (own_inU e.symm)⟩
    have hso : ∀ k, inB so k → w.heap.size + 1 ≤ k ∧ k < W1.heap.size := fun k hk => by
      obtain ⟨a, rfl, rfl⟩ := hk
      obtain ⟨_, h2, h3⟩ := own_rowT ho (show (Value.slice (some a) pre.length sc).ownBlock = some a.block from rfl)
      exact ⟨h3, (Array.getElem?_eq_some_iff.1 h2).1⟩
    have b6 : Boxed w6 w.heap.size 36 (.slice so pre.length sc) := row_keep hbx m6 (fun h => by have := hso _ h; omega)
    have f6 := b6.frozen
    have k6 := b6.cell
    have l6 := b6.lt
    have m7 : Moves (fun k => inB so k ∨ k = w.heap.size) W1 (w6.setCell ⟨w.heap.size, 0, none⟩ (.slice (some ⟨g, 0, none⟩) (pre.length + 1) c')) := (m6.mono fun k hk => .inl hk).trans (Moves.setCell (.inr rfl))
    have HQ : Hid (Moves (fun k => ¬ X k ∧ ¬ (k < w.heap.size ∨ k = cb)) W1 (w6.setCell ⟨w.heap.size, 0, none⟩ (.slice (some ⟨g, 0, none⟩) (pre.length + 1) c')) ∧ ColI w X (w6.setCell ⟨w.heap.size, 0, none⟩ (.slice (some ⟨g, 0, none⟩) (pre.length + 1) c')) (pre ++ [x])) := by
      refine Lib.hid ⟨m7.mono fun k hk => ⟨fun hx => ?_, fun hd => ?_⟩, hI.far, by have := m7.size; have := hI.size; omega, Moves.below hI.kept hI.kept.size m7 (fun k hk => ?_), some ⟨g, 0, none⟩, c', ?_, ?_, fun k hk hx => ?_⟩
      · rcases hk with hk | rfl
        · exact hnx k hk hx
        · have := hI.far _ hx; omega
      · rcases hk with hk | rfl
        · have := hso k hk; omega
        · omega
      · rcases hk with hk | rfl
        · have := hso k hk; omega
        · exact Nat.le_refl _
      · rw [List.length_append]; exact b6.set _
      · rw [List.length_append, cellsU_append]
        exact own_moves1N hown' (Moves.setCell (S := fun k => k = w.heap.size) rfl) (fun k hk e => by obtain ⟨_, _, h3⟩ := own_rowT hown' hk; omega)
      · obtain ⟨a, ha, rfl⟩ := hk
        cases ha
        rcases hg with h1 | h1
        · exact hnx _ (own_inU h1) hx
        · have := hXb _ hx; simp at h1; simp only at this; omega
    obtain ⟨pl, hpl2⟩ : ∃ pl, pre.length = pl := ⟨_, rfl⟩
    rw [hpl2] at hpl k0 k6 hrun HQ
    clear hxb hI hbx ho hnx hown' hgr hg m6 hso b6 m7 hXb a2 hpx hAB hm hXn hXn1 hXlt HSEQ HI0 hpl2
    gi_wp2
    exact HQ.out
  case done =>
    rintro X D W5 hD hXD hI hX hK
    obtain ⟨so, cap, hbx, ho, hnx⟩ := hI.mb
    have k0 := hbx.cell
    have hfar := hI.far D hXD
    have HPP : Hid (P (.returned (.slice so (runsL l).length cap)) (W5.putObj D (.deferred none))) := by
      rw [← HP.out]
      have m1 : Moves (fun k => k = D) W5 (W5.putObj D (.deferred none)) := Moves.putObj rfl
      refine Lib.hid ⟨so, cap, rfl, Moves.below hI.kept hI.kept.size m1 (fun k hk => by omega), atU_own (own_moves1N ho m1 fun k hk e => hnx k (own_inU hk) (e ▸ hXD)), own_cap ho, fun k hk => ?_⟩
      obtain ⟨a, rfl, rfl⟩ := hk
      obtain ⟨_, _, h3⟩ := own_rowT ho (show (Value.slice (some a) (runsL l).length cap).ownBlock = some a.block from rfl)
      omega
    have HK := Lib.hid hK
    clear hI hbx ho hnx hX hK HSEQ HI0
    gi_wp2_with fail
    refine ⟨by simp, .inl ⟨_, _, rfl, run_takeDeferred (show W5.heap[D]? = _ from HK.out), ?_⟩⟩
    exact ⟨_, results_tmp (t := 4) rfl _ _ _, HPP.out⟩
/-- What a list's runs are answered as. -/
def UnRet (l : List Int) (w : World) (e : Ending) (w' : World) : Prop := ∃ so c, e = .returned (.slice so (runsL l).length c) ∧ Below w.heap.size w w' ∧ AtU w' so (runsL l) ∧ (runsL l).length ≤ c ∧ ∀ k, inB so k → w.heap.size ≤ k
theorem collect_any {cb : Nat} {o : Option Addr} {l : List Int} {n cap : Nat} (hn : l.length = n) (hb : n ≤ 5000) (w : World) (hC : w.heap[cb]? = some (.cells #[.slice o n cap] 22 (0, 0))) (hA : IntsT w o l) :
    Calls Tryd.prog 35 #[.func (.func 54) #[] #[.pointer (some ⟨cb, 0, none⟩)]] w (UnRet l w) := by
  have HC := Lib.hid (appSeq_any hn hb w hC hA)
  clear hn hC hA
  go_enter Tryd.func35, Tryd.ntmps35
  go_wp2_with fail
  refine HC.out.mono ?_
  rintro e w1 ⟨so, c, rfl, h⟩
  have H := Lib.hid h
  clear h HC
  go_wp2
  go_ret
  exact ⟨so, c, rfl, H.out⟩
theorem clip_any (o : Option Addr) (n c : Nat) (h : n ≤ c) (hn : n < 1000000) (ho : o = none → n = 0) (w : World) : Calls Tryd.prog 34 #[.slice o n c] w fun e w' => e = .returned (.slice o n n) ∧ w = w' := by
  cases o with
  | none =>
    obtain rfl := ho rfl
    go_enter Tryd.func34, Tryd.ntmps34
    go_wp2
    go_ret
    exact ⟨rfl, rfl⟩
  | some a =>
    go_enter Tryd.func34, Tryd.ntmps34
    go_wp2
    go_ret
    exact ⟨rfl, rfl⟩
/-- Runs: those of any numbers. -/
theorem Runs_any (o : Option Addr) (l : List Int) (cap : Nat) (hb : l.length ≤ 5000) (w : World) (hA : IntsT w o l) :
    Calls Tryd.prog 20 #[.slice o l.length cap] w fun e w' => ∃ so, e = .returned (.slice so (runsL l).length (runsL l).length) ∧ Below w.heap.size w w' ∧ AtU w' so (runsL l) ∧ ∀ k, inB so k → w.heap.size ≤ k := by
  obtain ⟨n, hn⟩ : ∃ n, l.length = n := ⟨_, rfl⟩
  rw [hn] at hb ⊢
  obtain ⟨w0, hw0⟩ : ∃ w0, w.alloc (.cells #[.slice o n cap] 22) = w0 := ⟨_, rfl⟩
  have B0 : Below w.heap.size w w0 := by rw [← hw0]; exact (Below.refl _ _).alloc (Nat.le_refl _) _
  have r0 : w0.heap[w.heap.size]? = some (.cells #[.slice o n cap] 22 (0, 0)) := by rw [← hw0]; exact heap_alloc_new _ _
  have HR := Lib.hid (runs_any o n cap w)
  have HC := Lib.hid (collect_any hn hb w0 r0 (hA.below B0))
  have HW0 := Lib.hid hw0
  have HB0 := Lib.hid B0
  have hrl := runsL_len l
  rw [hn] at hrl
  obtain ⟨m, hm⟩ : ∃ m, (runsL l).length = m := ⟨_, rfl⟩
  rw [hm] at hrl
  have HM := Lib.hid hm
  clear hn hA hw0 B0 r0 hm
  go_enter Tryd.func20, Tryd.ntmps20
  go_wp2_with fail
  refine HR.out.mono ?_
  rintro e w1 ⟨rfl, hw1⟩
  rw [HW0.out] at hw1
  subst hw1
  go_wp2_with fail
  refine HC.out.mono ?_
  rintro e w2 ⟨so, c, rfl, b2, hA2, hc, hfar⟩
  have HFAR := Lib.hid hfar
  clear hfar
  rw [HM.out] at hc ⊢
  have HX := Lib.hid (clip_any so m c hc (by omega) (fun h => Decidable.byContradiction fun h0 => by
    obtain ⟨g, off, h1, _⟩ := hA2 (by rw [HM.out]; omega)
    rw [h] at h1; cases h1) w2)
  have hz0 := HB0.out.size
  have HB2 := Lib.hid (HB0.out.trans (b2.mono HB0.out.size))
  have HA2 := Lib.hid hA2
  clear hA2 b2 HC HR
  go_wp2_with fail
  refine HX.out.mono ?_
  rintro e w3 ⟨rfl, rfl⟩
  go_wp2
  go_ret
  exact ⟨so, by rw [HM.out]; rfl, HB2.out, HA2.out, fun k hk => Nat.le_trans hz0 (HFAR.out k hk)⟩
end Go.Proofs.YtcnbcaljpgdcpaaDoor

namespace Go.Proofs.YtcnbcaljpgdcpaaDoor
open Go.RowKit Go.Shelf Go.Maps
attribute [local go_sem] Oper.semAt_some

theorem valB_one (s : ByteArray) (h : 0 < s.size) : valB 1 s.data.toList = s[0].toNat := by
  show (s.data.toList.getD 0 0).toNat = _
  have h0 : s.data.toList[0]? = some s[0] := by rw [Array.getElem?_toList]; exact Array.getElem?_eq_getElem h
  rw [List.getD_eq_getElem?_getD, h0]
  simp
theorem valB_two (s : ByteArray) (h : 1 < s.size) : valB 2 s.data.toList = 256 * (s[0]'(by omega)).toNat + s[1].toNat := by
  show 256 * (s.data.toList.getD 0 0).toNat + (s.data.toList.getD 1 0).toNat = _
  have h0 : s.data.toList[0]? = some (s[0]'(by omega)) := by rw [Array.getElem?_toList]; exact Array.getElem?_eq_getElem (by show 0 < s.size; omega)
  have h1 : s.data.toList[1]? = some s[1] := by rw [Array.getElem?_toList]; exact Array.getElem?_eq_getElem h
  rw [List.getD_eq_getElem?_getD, h0, List.getD_eq_getElem?_getD, h1]
  rfl
set_option maxHeartbeats 1000000 in
theorem num_one {B : Nat} {ty : TypeId} (s : ByteArray) (w : World) (h : w.heap[B]? = some (.cells #[.string s] ty (0, 0))) (hs : 1 ≤ s.size) (hs2 : s.size ≤ 1000000) :
    Calls Tryd.prog 75 #[.pointer (some ⟨B, 0, none⟩), .int .i64 1] w fun e w' => e = .returned (.int .i64 ((valB 1 s.data.toList : Nat) : Int)) ∧ w.setCell ⟨B, 0, none⟩ (.string (s.extract 1 s.size)) = w' := by
  have c0 : w.cell? ⟨B, 0, none⟩ = some (.string s) := by rw [cell_of_row _ _ 0 _ _ _ h]; rfl
  have f0 : w.frozen? ⟨B, 0, none⟩ = false := frozen_of_row _ _ _ _ _ h
  have l0 := (Array.getElem?_eq_some_iff.1 h).1
  have hlt : 0 < s.size := by omega
  have hv := valB_one s hlt
  have HJ := Lib.hid (joined_any 0 s[0].toNat)
  have HN := Lib.hid (number_any 0 s[0].toNat (by omega) (u8_lt _))
  have HV := Lib.hid hv
  clear h hv
  go_enter Tryd.func75, Tryd.ntmps75
  go_wp2_with fail
  refine (HJ.out _).mono ?_
  rintro e w1 ⟨rfl, rfl⟩
  go_wp2_with fail
  refine (HN.out _).mono ?_
  rintro e w1 ⟨rfl, rfl⟩
  go_wp2
  go_ret
  exact ⟨by rw [HV.out]; rfl, rfl⟩
set_option maxHeartbeats 1000000 in
theorem num_two {B : Nat} {ty : TypeId} (s : ByteArray) (w : World) (h : w.heap[B]? = some (.cells #[.string s] ty (0, 0))) (hs : 2 ≤ s.size) (hs2 : s.size ≤ 1000000) :
    Calls Tryd.prog 75 #[.pointer (some ⟨B, 0, none⟩), .int .i64 2] w fun e w' => e = .returned (.int .i64 ((valB 2 s.data.toList : Nat) : Int)) ∧ w.setCell ⟨B, 0, none⟩ (.string (s.extract 2 s.size)) = w' := by
  have c0 : w.cell? ⟨B, 0, none⟩ = some (.string s) := by rw [cell_of_row _ _ 0 _ _ _ h]; rfl
  have f0 : w.frozen? ⟨B, 0, none⟩ = false := frozen_of_row _ _ _ _ _ h
  have l0 := (Array.getElem?_eq_some_iff.1 h).1
  have hlt : 0 < s.size := by omega
  have hlt1 : 1 < s.size := by omega
  have hv := valB_two s hlt1
  have HJ := Lib.hid (joined_any s[0].toNat s[1].toNat)
  have HN := Lib.hid (number_any s[0].toNat s[1].toNat (u8_lt _) (u8_lt _))
  have HV := Lib.hid hv
  clear h hv
  go_enter Tryd.func75, Tryd.ntmps75
  go_wp2_with fail
  refine (HJ.out _).mono ?_
  rintro e w1 ⟨rfl, rfl⟩
  go_wp2_with fail
  refine (HN.out _).mono ?_
  rintro e w1 ⟨rfl, rfl⟩
  go_wp2
  go_ret
  exact ⟨by rw [HV.out]; rfl, rfl⟩
theorem num_any {k : Nat} (hk : k = 1 ∨ k = 2) {B : Nat} {ty : TypeId} (s : ByteArray) (w : World) (h : w.heap[B]? = some (.cells #[.string s] ty (0, 0))) (hs : k ≤ s.size) (hs2 : s.size ≤ 1000000) :
    Calls Tryd.prog 75 #[.pointer (some ⟨B, 0, none⟩), .int .i64 (k : Nat)] w fun e w' => e = .returned (.int .i64 ((valB k s.data.toList : Nat) : Int)) ∧ w.setCell ⟨B, 0, none⟩ (.string (s.extract k s.size)) = w' := by
  rcases hk with rfl | rfl
  · exact num_one s w h hs hs2
  · exact num_two s w h hs hs2
/-- The runs that bytes may be read as, one behind the other. -/
def allR (k : Nat) (l : List UInt8) : List (Nat × Int) :=
  if h : k = 0 ∨ l.length < 2 * k then [] else (valB k l + 1, ((valB k (l.drop k) : Nat) : Int)) :: allR k (l.drop (2 * k))
termination_by l.length
decreasing_by simp only [List.length_drop]; omega
theorem allR_short {k : Nat} {l : List UInt8} (h : l.length < 2 * k) : allR k l = [] := by unfold allR; rw [dif_pos (.inr h)]
theorem allR_long {k : Nat} (hk : k = 1 ∨ k = 2) {l : List UInt8} (h : 2 * k ≤ l.length) : allR k l = (valB k l + 1, ((valB k (l.drop k) : Nat) : Int)) :: allR k (l.drop (2 * k)) := by
  rw [allR, dif_neg (by omega)]
theorem allR_len {k : Nat} (hk : k = 1 ∨ k = 2) : ∀ (n : Nat) (l : List UInt8), l.length ≤ n → (allR k l).length ≤ l.length
  | 0, l, h => by rw [allR_short (by omega)]; simp
  | n + 1, l, h => by
    rcases Nat.lt_or_ge l.length (2 * k) with h1 | h1
    · rw [allR_short h1]; simp
    · rw [allR_long hk h1, List.length_cons]
      have := allR_len hk n (l.drop (2 * k)) (by rw [List.length_drop]; omega)
      rw [List.length_drop] at this
      omega
/-- reader.runs: the iterator. -/
theorem rruns_any (B k : Nat) (w : World) : Calls Tryd.prog 76 #[.pointer (some ⟨B, 0, none⟩), .int .i64 (k : Nat)] w fun e w' => e = .returned (.func (.func 88) #[] #[.pointer (some ⟨w.heap.size, 0, none⟩), .pointer (some ⟨w.heap.size + 1, 0, none⟩)]) ∧ (w.alloc (.cells #[.pointer (some ⟨B, 0, none⟩)] 130)).alloc (.cells #[.int .i64 (k : Nat)] 3) = w' := by
  go_enter Tryd.func76, Tryd.ntmps76
  go_wp2
  go_ret
  exact ⟨rfl, rfl⟩
end Go.Proofs.YtcnbcaljpgdcpaaDoor

namespace Go.Proofs.YtcnbcaljpgdcpaaDoor
open Go.RowKit Go.Shelf Go.Maps
attribute [local go_sem] Oper.semAt_some

theorem limB_le {k : Nat} (hk : k = 1 ∨ k = 2) : limB k ≤ 65536 := by rcases hk with rfl | rfl <;> decide
/-- What is left stands in the reader's box. -/
def LeftAt (W : World) (B : Nat) (s : ByteArray) : Prop := W.heap[B]? = some (.cells #[.string s] 91 (0, 0))
/-- What is left behind runs that were read. -/
def StR (B k : Nat) (l : List UInt8) (xs : List (Nat × Int)) (W : World) : Prop := ∃ s : ByteArray, LeftAt W B s ∧ s.data.toList = l.drop (2 * k * xs.length) ∧ s.size ≤ l.length
theorem LeftAt.set {W : World} {B : Nat} {s : ByteArray} (h : LeftAt W B s) (t : ByteArray) : LeftAt (W.setCell ⟨B, 0, none⟩ (.string t)) B t := by
  unfold LeftAt at h ⊢
  rw [heap_setCell_same _ _ 0 _ _ _ h]; rfl
set_option maxRecDepth 100000 in
set_option maxHeartbeats 4000000 in
theorem seqRead {k : Nat} (hk : k = 1 ∨ k = 2) {c1 c2 B : Nat} {s0 : ByteArray} {w : World} (h1 : w.heap[c1]? = some (.cells #[.pointer (some ⟨B, 0, none⟩)] 130 (0, 0))) (h2 : w.heap[c2]? = some (.cells #[.int .i64 (k : Nat)] 3 (0, 0))) (hB : LeftAt w B s0) (hs0 : s0.size ≤ 1000000) (hn1 : c1 ≠ B) (hn2 : c2 ≠ B) :
    SeqOfS Tryd.prog 5 88 #[.pointer (some ⟨c1, 0, none⟩), .pointer (some ⟨c2, 0, none⟩)] encU (fun j => j = B) (fun j => j = c1 ∨ j = c2) (allR k s0.data.toList) (StR B k s0.data.toList) w := by
  intro W lp J Jx hmv hJ hJx hY h0
  have h5 : 1 ≤ 5 := by omega
  have hr1 := row_keep h1 hmv id
  have hr2 := row_keep h2 hmv id
  have hrB : LeftAt W B s0 := row_keep hB hmv id
  obtain ⟨T, hT⟩ : ∃ T, allR k s0.data.toList = T := ⟨_, rfl⟩
  have hTl : T.length ≤ 1000000 := by rw [← hT]; have := allR_len hk _ _ (Nat.le_refl s0.data.toList.length); rw [← size_list] at this; omega
  rw [hT] at hY ⊢
  refine callsIn_of_wp Tryd.func88 rfl trivial ?_ rfl
  simp only [Tryd.ntmps88, List.size_toArray, List.length_cons, List.length_nil, Nat.reduceAdd, Nat.reduceSub, Array.replicate_succ, Array.replicate_zero, List.push_toArray, List.append_toArray, List.nil_append, List.cons_append]
  have HJ := Lib.hid hJ
  have HY := Lib.hid hY
  have HK := Lib.hid hk
  have HT := Lib.hid hT
  have HR1 := Lib.hid hr1
  have HR2 := Lib.hid hr2
  have HRB := Lib.hid hrB
  have HH0 := Lib.hid h0
  have hk2 : k ≤ 2 := by omega
  have hk1 : 1 ≤ k := by omega
  have hwk : IntKind.i64.wrap (2 * ((k : Nat) : Int)) = ((2 * k : Nat) : Int) := by rw [show 2 * ((k : Nat) : Int) = ((2 * k : Nat) : Int) from by omega]; exact wrap_id (by omega) (by omega)
  clear hJ hJx hY hmv h1 h2 hB hT hr1 hr2 hrB h0 hk
  gi_wp2_with fail
  gi_loopg [] T.length (fun q wr => ∃ (j : Nat) (s : ByteArray), j + q = T.length ∧ Hid (LeftAt wr B s) ∧ Hid (s.data.toList = s0.data.toList.drop (2 * k * j) ∧ allR k s.data.toList = T.drop j) ∧ s.size ≤ s0.size ∧ Hid (wr.heap[c1]? = some (.cells #[.pointer (some ⟨B, 0, none⟩)] 130 (0, 0))) ∧ Hid (wr.heap[c2]? = some (.cells #[.int .i64 (k : Nat)] 3 (0, 0))) ∧ J (fun j => j = B) (T.take j) wr)
  case atStart => exact ⟨0, s0, by omega, HRB, Lib.hid ⟨by simp, by simpa using HT.out⟩, Nat.le_refl _, HR1, HR2, by simpa using HH0.out⟩
  case round =>
    obtain ⟨j, s, hjq, HL, HS, hsz, HC1, HC2, hJ'⟩ := hrel
    have k1 : wr.cell? ⟨c1, 0, none⟩ = some (.pointer (some ⟨B, 0, none⟩)) := by rw [cell_of_row _ _ 0 _ _ _ HC1.out]; rfl
    have k2 : wr.cell? ⟨c2, 0, none⟩ = some (.int .i64 (k : Nat)) := by rw [cell_of_row _ _ 0 _ _ _ HC2.out]; rfl
    have kB : wr.cell? ⟨B, 0, none⟩ = some (.string s) := by rw [cell_of_row _ _ 0 _ _ _ HL.out]; rfl
    have hsl := size_list s
    cases gk with
    | zero =>
      obtain rfl : j = T.length := by omega
      have hshort : s.size < 2 * k := by
        rcases Nat.lt_or_ge s.size (2 * k) with h | h
        · exact h
        · have h6 := HS.out.2
          rw [allR_long HK.out (by rw [← hsl]; exact h), List.drop_of_length_le (Nat.le_refl _)] at h6
          cases h6
      have hd : ¬ ((2 * k : Nat) : Int) ≤ ((s.size : Nat) : Int) := by omega
      have HJ3 : Hid (J (fun j => j = B) T wr.drew) := by
        rw [List.take_of_length_le (Nat.le_refl _)] at hJ'
        exact Lib.hid (HJ.out _ _ _ _ wr.drew hJ' (Moves.refl _ _).drew (fun i h => ⟨.inl h, by subst h; exact (Array.getElem?_eq_some_iff.1 HL.out).1⟩))
      have HSS : Hid (StR B k s0.data.toList T wr.drew) := Lib.hid ⟨s, HL.out, HS.out.1, by rw [← size_list]; exact hsz⟩
      clear hJ' hsl
      gi_wp2_with fail
      refine wpIn_region_still_tail 7 (by kernel_rfl) (by kernel_rfl) ?_
      simp only [List.take_succ_cons, List.take_zero, List.drop_succ_cons, List.drop_zero]
      repeat still_step
      try refine wpStill_nil ?_
      change wpListIn Fence.wide _ _ _ _ _ _ wr.drew
      gi_wp2
      go_end0
      exact ⟨⟨_, rfl⟩, _, .inl ⟨HJ3.out, HSS.out⟩⟩
    | succ q =>
      have hlong : 2 * k ≤ s.size := by
        rcases Nat.lt_or_ge s.size (2 * k) with h | h
        · have h6 := HS.out.2
          rw [allR_short (by rw [← hsl]; exact h)] at h6
          have := congrArg List.length h6
          simp at this
          omega
        · exact h
      have hd : ((2 * k : Nat) : Int) ≤ ((s.size : Nat) : Int) := by omega
      obtain ⟨s1, hs1⟩ : ∃ s1, s.extract k s.size = s1 := ⟨_, rfl⟩
      have hd1 : s1.data.toList = s.data.toList.drop k := by rw [← hs1]; exact drop_toList s k
      have hz1 : s1.size = s.size - k := by rw [size_list, hd1, List.length_drop, ← hsl]
      obtain ⟨s2, hs2⟩ : ∃ s2, s1.extract k s1.size = s2 := ⟨_, rfl⟩
      have hd2 : s2.data.toList = s.data.toList.drop (2 * k) := by rw [← hs2, drop_toList, hd1, List.drop_drop]; congr 1; omega
      have hz2 : s2.size ≤ s0.size := by rw [size_list, hd2, List.length_drop, ← hsl]; omega
      have hT1 : T.drop j = (valB k s.data.toList + 1, ((valB k s1.data.toList : Nat) : Int)) :: allR k s2.data.toList := by rw [← HS.out.2, allR_long HK.out (by rw [← hsl]; exact hlong), hd1, hd2]
      obtain ⟨v1, hv1⟩ : ∃ v1, valB k s.data.toList = v1 := ⟨_, rfl⟩
      obtain ⟨v2, hv2⟩ : ∃ v2, valB k s1.data.toList = v2 := ⟨_, rfl⟩
      have hb1 : v1 < 65536 := by rw [← hv1]; exact Nat.lt_of_lt_of_le (valB_lt HK.out _) (limB_le HK.out)
      have hb2 : v2 < 65536 := by rw [← hv2]; exact Nat.lt_of_lt_of_le (valB_lt HK.out _) (limB_le HK.out)
      rw [hv1, hv2] at hT1
      have hx : T[j]? = some (v1 + 1, ((v2 : Nat) : Int)) := by have := congrArg (fun l => l[0]?) hT1; simpa using this
      have htk : T.take j ++ [(v1 + 1, ((v2 : Nat) : Int))] = T.take (j + 1) := by rw [List.take_add_one, hx]; rfl
      have HTK := Lib.hid htk
      have HPRE : Hid (T.take j ++ [(v1 + 1, ((v2 : Nat) : Int))] <+: T) := Lib.hid (by rw [htk]; exact List.take_prefix _ _)
      have HD2 : Hid (s2.data.toList = s0.data.toList.drop (2 * k * (j + 1)) ∧ allR k s2.data.toList = T.drop (j + 1)) := Lib.hid ⟨by rw [hd2, HS.out.1, List.drop_drop]; congr 1, by rw [← List.drop_drop, hT1]; rfl⟩
      have HST : Hid (s2.data.toList = s0.data.toList.drop (2 * k * (T.take j ++ [(v1 + 1, ((v2 : Nat) : Int))]).length) ∧ s2.size ≤ s0.data.toList.length) := Lib.hid ⟨by rw [HD2.out.1, htk, List.length_take, Nat.min_eq_left (by omega)], by rw [← size_list]; exact hz2⟩
      have hN1 := num_any HK.out s wr.drew.drew (show LeftAt wr.drew.drew B s from HL.out) (by omega) (by omega)
      obtain ⟨w2, hw2⟩ : ∃ w2, wr.drew.drew.setCell ⟨B, 0, none⟩ (.string (s.extract k s.size)) = w2 := ⟨_, rfl⟩
      have hL2 : LeftAt w2 B s1 := by rw [← hw2, hs1]; exact (show LeftAt wr.drew.drew B s from HL.out).set s1
      have hN2 := num_any HK.out s1 w2.drew hL2 (by omega) (by omega)
      obtain ⟨w3, hw3⟩ : ∃ w3, w2.drew.setCell ⟨B, 0, none⟩ (.string (s1.extract k s1.size)) = w3 := ⟨_, rfl⟩
      have hL3 : LeftAt w3 B s2 := by rw [← hw3, hs2]; exact (show LeftAt w2.drew B s1 from hL2).set s2
      have m2 : Moves (fun i => i = B) wr w2 := by rw [← hw2]; exact ((Moves.refl _ _).drew.drew).trans (Moves.setCell rfl)
      have m3 : Moves (fun i => i = B) wr w3 := by rw [← hw3]; exact m2.drew.trans (Moves.setCell rfl)
      have k21 : w2.cell? ⟨c1, 0, none⟩ = some (.pointer (some ⟨B, 0, none⟩)) := by rw [cell_of_row _ _ 0 _ _ _ (row_keep HC1.out m2 hn1)]; rfl
      have k22 : w2.cell? ⟨c2, 0, none⟩ = some (.int .i64 (k : Nat)) := by rw [cell_of_row _ _ 0 _ _ _ (row_keep HC2.out m2 hn2)]; rfl
      have hJ3 := HJ.out _ (fun i => i = B) _ _ w3 hJ' m3 (fun i h => ⟨.inl h, by subst h; exact (Array.getElem?_eq_some_iff.1 hL3).1⟩)
      have HKEEP : Hid (∀ w4, Moves (fun i => ¬ i = B ∧ ¬ (i = c1 ∨ i = c2)) w3 w4 → Hid (LeftAt w4 B s2) ∧ Hid (w4.heap[c1]? = some (.cells #[.pointer (some ⟨B, 0, none⟩)] 130 (0, 0))) ∧ Hid (w4.heap[c2]? = some (.cells #[.int .i64 (k : Nat)] 3 (0, 0)))) := Lib.hid fun w4 hm =>
        ⟨Lib.hid (row_keep hL3 hm (fun h => h.1 rfl)), Lib.hid (row_keep (row_keep HC1.out m3 hn1) hm (fun h => h.2 (.inl rfl))), Lib.hid (row_keep (row_keep HC2.out m3 hn2) hm (fun h => h.2 (.inr rfl)))⟩
      have hwv : IntKind.i64.wrap (((v1 : Nat) : Int) + 1) = ((v1 + 1 : Nat) : Int) := by rw [show ((v1 : Nat) : Int) + 1 = ((v1 + 1 : Nat) : Int) from by omega]; exact wrap_id (by omega) (by omega)
      obtain ⟨fn, tmps, assign, body, hy, hR⟩ := HY.out _ _ (v1 + 1, ((v2 : Nat) : Int)) w3 HPRE.out hJ3
      replace hy : (Instr.yield lp #[.agg #[.int .i64 (((v1 : Nat) : Int) + 1), .int .i64 ((v2 : Nat) : Int)]]).run Tryd.prog w3 = .ok (.round lp fn tmps assign body) w3 := hy
      rw [hv1] at hN1
      rw [hv2] at hN2
      rw [hw2] at hN1
      rw [hw3] at hN2
      have HN1 := Lib.hid hN1
      have HN2 := Lib.hid hN2
      have HRR := Lib.hid hR
      have hk21 := k21
      clear hs1 hd1 hz1 hs2 hd2 hT1 hv1 hv2 hx htk hN1 hN2 hw2 hw3 hL2 hL3 m2 m3 hJ3 hR hJ' hsl
      gi_wp2_with fail
      refine wpIn_region_still_tail 7 (by kernel_rfl) (by kernel_rfl) ?_
      simp only [List.take_succ_cons, List.take_zero, List.drop_succ_cons, List.drop_zero]
      repeat still_step
      try refine wpStill_nil ?_
      change wpListIn Fence.wide _ _ _ _ _ _ wr.drew
      gi_wp2_with fail
      refine wpIn_region_still_tail 4 (by kernel_rfl) (by kernel_rfl) ?_
      change wpStill _ _ (World.drew wr.drew) (fun a' => wpListIn _ _ _ _ _ _ a' (World.drew wr.drew)) _ _
      simp only [List.take_succ_cons, List.take_zero, List.drop_succ_cons, List.drop_zero]
      repeat still_step
      try refine wpStill_nil ?_
      change wpListIn Fence.wide _ _ _ _ _ _ wr.drew.drew
      gi_wp2_with fail
      refine ⟨trivial, (callsIn_wide.2 HN1.out).mono ?_⟩
      rintro e w2' ⟨rfl, rfl⟩
      gi_wp2_with fail
      refine wpIn_region_any (by kernel_rfl) ?_
      try (change wpAnyIn _ _ _ _ _ _ _ _ _ (World.drew _))
      refine wpAnyIn_take (i := 0) (v := ?_) rfl rfl (by kernel_rfl) (by kernel_rfl) (by kernel_rfl) (fun _ _ _ h => h) ⟨Or.inl ⟨by kernel_rfl, ?_⟩, by intro _; rfl⟩ ?_
      rotate_left 1
      · (intro w; first | (go_simp; done) | (go_simp; with_reducible rfl))
      refine wpAnyIn_take (i := 1) (v := ?_) rfl rfl (by kernel_rfl) (by kernel_rfl) (by kernel_rfl) (fun _ _ _ h => h) ⟨Or.inl ⟨by kernel_rfl, ?_⟩, by intro _; rfl⟩ ?_
      rotate_left 1
      · (intro w; first | (go_simp; done) | (go_simp; with_reducible rfl))
      refine wpAnyIn_take (i := 2) (v := ?_) rfl rfl (by kernel_rfl) (by kernel_rfl) (by kernel_rfl) (fun _ _ _ h => h) ⟨Or.inl ⟨by kernel_rfl, ?_⟩, by intro _; rfl⟩ ?_
      rotate_left 1
      · (intro w; first | (go_simp; done) | (go_simp; with_reducible rfl))
      refine wpAnyIn_ready (rs := [3, 6]) (by kernel_rfl) (by simp) ?_
      refine AllReadyIn.cons (o := { dst := some 21, op := .load 130 (.tmp 1), type := 130, pos := _, after := _, guard := none }) rfl ?_ ?_
      rotate_left 1
      refine AllReadyIn.cons (o := { dst := some 24, op := .load 3 (.tmp 2), type := 3, pos := _, after := _, guard := none }) rfl ?_ AllReadyIn.nil
      focus
        intro K hK
        rw [if_pos (by rfl)]
        gi_wp2_with fail
        refine wpAnyIn_ready (rs := [3]) (by kernel_rfl) (by simp) ?_
        refine AllReadyIn.cons (o := { dst := some 21, op := .load 130 (.tmp 1), type := 130, pos := _, after := _, guard := none }) rfl ?_ AllReadyIn.nil
        intro K hK
        rw [if_pos (by rfl)]
        gi_wp2_with fail
        refine wpAnyIn_take (i := 4) (v := ?_) rfl rfl (by kernel_rfl) (by kernel_rfl) (by kernel_rfl) (fun _ _ _ h => h) ⟨Or.inl ⟨by kernel_rfl, ?_⟩, by intro _; rfl⟩ ?_
        rotate_left 1
        · (intro w; first | (go_simp; done) | (go_simp; with_reducible rfl))
        refine wpAnyIn_take (i := 5) (v := ?_) rfl rfl (by kernel_rfl) (by kernel_rfl) (by kernel_rfl) (fun _ _ _ h => h) ⟨Or.inl ⟨by kernel_rfl, ?_⟩, by intro _; rfl⟩ ?_
        rotate_left 1
        · (intro w; first | (go_simp; done) | (go_simp; with_reducible rfl))
      rotate_left 1
      focus
        intro K hK
        rw [if_pos (by rfl)]
        gi_wp2_with fail
        refine wpAnyIn_take (i := 4) (v := ?_) rfl rfl (by kernel_rfl) (by kernel_rfl) (by kernel_rfl) (fun _ _ _ h => h) ⟨Or.inl ⟨by kernel_rfl, ?_⟩, by intro _; rfl⟩ ?_
        rotate_left 1
        · (intro w; first | (go_simp; done) | (go_simp; with_reducible rfl))
        refine wpAnyIn_take (i := 5) (v := ?_) rfl rfl (by kernel_rfl) (by kernel_rfl) (by kernel_rfl) (fun _ _ _ h => h) ⟨Or.inl ⟨by kernel_rfl, ?_⟩, by intro _; rfl⟩ ?_
        rotate_left 1
        · (intro w; first | (go_simp; done) | (go_simp; with_reducible rfl))
        refine wpAnyIn_ready (rs := [6]) (by kernel_rfl) (by simp) ?_
        refine AllReadyIn.cons (o := { dst := some 24, op := .load 3 (.tmp 2), type := 3, pos := _, after := _, guard := none }) rfl ?_ AllReadyIn.nil
        intro K hK
        rw [if_pos (by rfl)]
        gi_wp2_with fail
      all_goals
        refine wpAnyIn_ready (rs := [7]) (by kernel_rfl) (by simp) ?_
        refine AllReadyIn.cons (o := { dst := some 25, op := .call { callee := .value (.func 75), args := #[.tmp 23, .tmp 24], argTypes := #[89, 3] }, type := 3, pos := _, after := _, guard := none }) rfl ?_ AllReadyIn.nil
        intro K hK
        rw [if_pos (by rfl)]
        gi_wp2_with fail
        refine ⟨trivial, (callsIn_wide.2 HN2.out).mono ?_⟩
        rintro e w3 ⟨rfl, rfl⟩
        gi_wp2_with fail
        refine wpAnyIn_take (i := 8) (v := ?_) rfl rfl (by kernel_rfl) (by kernel_rfl) (by kernel_rfl) (fun _ _ _ h => h) ⟨Or.inl ⟨by kernel_rfl, ?_⟩, by intro _; rfl⟩ ?_
        rotate_left 1
        · (intro w; first | (go_simp; done) | (go_simp; with_reducible rfl))
        refine wpAnyIn_ready (rs := [9]) (by kernel_rfl) (by simp) ?_
        refine AllReadyIn.cons (o := { dst := some 27, op := .call { callee := .value (.tmp 18), args := #[.tmp 26], argTypes := #[49] }, type := 4, pos := _, after := _, guard := none }) rfl ?_ AllReadyIn.nil
        intro K hK
        rw [if_pos (by rfl)]
        gi_wp2_with fail
        refine HRR.out.mono ?_
        rintro e w4 (⟨rfl, hJ4, hk4⟩ | ⟨rfl, hJx4, hk4⟩)
        focus
          have HKK := Lib.hid (HKEEP.out w4 hk4)
          have HJ5 := Lib.hid hJ4
          clear hJ4 hk4
          gi_wp2_with fail
          refine wpAnyIn_take (i := 10) (v := ?_) rfl rfl (by kernel_rfl) (by kernel_rfl) (by kernel_rfl) (fun _ _ _ h => h) ⟨Or.inl ⟨by kernel_rfl, ?_⟩, by intro _; rfl⟩ ?_
          rotate_left 1
          · (intro w; first | (go_simp; done) | (go_simp; with_reducible rfl))
          refine wpAnyIn_done (by kernel_rfl) ?_ _
          go_simp
          gi_wp2
          gi_roundg q
          case measure => omega
          case rel => exact ⟨j + 1, s2, by omega, HKK.out.1, HD2, hz2, HKK.out.2.1, HKK.out.2.2, by rw [← HTK.out]; exact HJ5.out⟩
        focus
          have HKK := Lib.hid (HKEEP.out w4 hk4)
          have HJ5 := Lib.hid hJx4
          clear hJx4 hk4
          gi_wp2_with fail
          refine wpAnyIn_take (i := 10) (v := ?_) rfl rfl (by kernel_rfl) (by kernel_rfl) (by kernel_rfl) (fun _ _ _ h => h) ⟨Or.inl ⟨by kernel_rfl, ?_⟩, by intro _; rfl⟩ ?_
          rotate_left 1
          · (intro w; first | (go_simp; done) | (go_simp; with_reducible rfl))
          refine wpAnyIn_done (by kernel_rfl) ?_ _
          go_simp
          gi_wp2
          refine bodyPost_ret (results_none rfl _ _ _) rfl ?_
          exact ⟨⟨_, rfl⟩, _, .inr ⟨_, HPRE.out, HJ5.out, s2, HKK.out.1, HST.out⟩⟩
end Go.Proofs.YtcnbcaljpgdcpaaDoor

namespace Go.Proofs.YtcnbcaljpgdcpaaDoor

theorem getR_pre {k : Nat} (hk : k = 1 ∨ k = 2) : ∀ {pre : List (Nat × Int)} {l : List UInt8} {size : Nat}, pre <+: allR k l → (expR pre).length < size →
    getR k size l = (getR k (size - (expR pre).length) (l.drop (2 * k * pre.length))).map (fun p => (pre ++ p.1, p.2))
  | [], l, size, _, _ => by
    simp only [List.length_nil, Nat.mul_zero, List.drop_zero, show expR [] = [] from rfl, Nat.sub_zero, List.nil_append]
    cases getR k size l <;> rfl
  | x :: pre, l, size, hp, hs => by
    rcases Nat.lt_or_ge l.length (2 * k) with h | h
    · rw [allR_short h] at hp
      have := hp.length_le
      simp at this
    · rw [allR_long hk h] at hp
      obtain ⟨rfl, hp2⟩ := List.cons_prefix_cons.1 hp
      have hl : (expR ((valB k l + 1, ((valB k (l.drop k) : Nat) : Int)) :: pre)).length = valB k l + 1 + (expR pre).length := by rw [expR_cons, List.length_append, List.length_replicate]
      rw [hl] at hs ⊢
      rw [getR, dif_neg (by omega), if_neg (by omega), if_neg (by omega), getR_pre hk hp2 (by omega), List.length_cons, List.drop_drop]
      rw [show size - (valB k l + 1) - (expR pre).length = size - (valB k l + 1 + (expR pre).length) by omega, show 2 * k + 2 * k * pre.length = 2 * k * (pre.length + 1) by rw [Nat.mul_add]; omega]
      cases getR k (size - (valB k l + 1 + (expR pre).length)) (l.drop (2 * k * (pre.length + 1))) <;> rfl
/-- What is left behind runs that were read is read as the others. -/
theorem allR_drop {k : Nat} (hk : k = 1 ∨ k = 2) : ∀ {pre : List (Nat × Int)} {l : List UInt8}, pre <+: allR k l → allR k (l.drop (2 * k * pre.length)) = (allR k l).drop pre.length
  | [], l, _ => by simp
  | x :: pre, l, hp => by
    rcases Nat.lt_or_ge l.length (2 * k) with h | h
    · rw [allR_short h] at hp
      have := hp.length_le
      simp at this
    · rw [allR_long hk h] at hp ⊢
      obtain ⟨rfl, hp2⟩ := List.cons_prefix_cons.1 hp
      rw [List.length_cons, List.drop_succ_cons, ← allR_drop hk hp2, List.drop_drop]
      congr 2
      rw [Nat.mul_add]; omega
theorem allR_fit {k : Nat} (hk : k = 1 ∨ k = 2) : ∀ (n : Nat) (l : List UInt8), l.length ≤ n → ∀ r ∈ allR k l, fitR k r
  | 0, l, h, r, hr => by rw [allR_short (by omega)] at hr; cases hr
  | n + 1, l, h, r, hr => by
    rcases Nat.lt_or_ge l.length (2 * k) with h1 | h1
    · rw [allR_short h1] at hr; cases hr
    · rw [allR_long hk h1] at hr
      rcases List.mem_cons.1 hr with rfl | hr
      · have h2 := valB_lt hk l
        have h3 := valB_lt hk (l.drop k)
        exact ⟨by simp, by simp only; omega, by simp only; omega, by simp only; omega⟩
      · exact allR_fit hk n (l.drop (2 * k)) (by rw [List.length_drop]; omega) r hr
theorem getR_none {k size : Nat} {l : List UInt8} (h0 : 0 < size) (h : l.length < 2 * k ∨ size < valB k l + 1) : getR k size l = none := by
  rw [getR, dif_neg (by omega)]
  split
  · rfl
  · rename_i h1
    rw [if_pos (by omega)]
/-- All is read, and it is too little. -/
theorem numN_done {k : Nat} (hk : k = 1 ∨ k = 2) {l : List UInt8} {size : Nat} (hs : (expR (allR k l)).length < size) : getN k size l = none := by
  have h1 := getR_pre hk (List.prefix_refl (allR k l)) hs
  have h2 := allR_drop hk (List.prefix_refl (allR k l))
  rw [List.drop_length] at h2
  have h3 : (l.drop (2 * k * (allR k l).length)).length < 2 * k := by
    rcases Nat.lt_or_ge (l.drop (2 * k * (allR k l).length)).length (2 * k) with h | h
    · exact h
    · rw [allR_long hk h] at h2; cases h2
  rw [getR_none (by omega) (.inl h3)] at h1
  unfold getN
  rw [h1]
  rfl
/-- The next run is too long. -/
theorem numN_long {k : Nat} (hk : k = 1 ∨ k = 2) {l : List UInt8} {size : Nat} {pre : List (Nat × Int)} {x : Nat × Int} (hp : pre ++ [x] <+: allR k l) (hs : (expR pre).length < size) (hx : size - (expR pre).length < x.1) : getN k size l = none := by
  have hp1 : pre <+: allR k l := (List.prefix_append pre [x]).trans hp
  have h1 := getR_pre hk hp1 hs
  have h2 := allR_drop hk hp1
  obtain ⟨r, hr⟩ := hp
  rw [← hr, List.append_assoc, List.drop_left] at h2
  have h3 : 2 * k ≤ (l.drop (2 * k * pre.length)).length := by
    rcases Nat.lt_or_ge (l.drop (2 * k * pre.length)).length (2 * k) with h | h
    · rw [allR_short h] at h2; cases h2
    · exact h
  rw [allR_long hk h3] at h2
  have h4 : x.1 = valB k (l.drop (2 * k * pre.length)) + 1 := by injection h2 with h2 _; rw [← h2]
  have h6 := getR_none (k := k) (size := size - (expR pre).length) (l := l.drop (2 * k * pre.length)) (by omega) (.inr (by omega))
  rw [h6] at h1
  unfold getN
  rw [h1]
  rfl
/-- So many are read. -/
theorem numN_full {k : Nat} (hk : k = 1 ∨ k = 2) {l : List UInt8} {pre : List (Nat × Int)} {x : Nat × Int} (hp : pre ++ [x] <+: allR k l) (h0 : 1 ≤ x.1) :
    getN k (expR (pre ++ [x])).length l = if runsL (expR (pre ++ [x])) = pre ++ [x] then some (expR (pre ++ [x]), l.drop (2 * k * (pre ++ [x]).length)) else none := by
  have hp1 : pre <+: allR k l := (List.prefix_append pre [x]).trans hp
  have hlen : (expR (pre ++ [x])).length = (expR pre).length + x.1 := by rw [expR_append, expR_cons]; simp [expR]
  have h1 := getR_pre hk (size := (expR (pre ++ [x])).length) hp1 (by omega)
  have h2 := allR_drop hk hp1
  obtain ⟨r, hr⟩ := hp
  rw [← hr, List.append_assoc, List.drop_left] at h2
  have h3 : 2 * k ≤ (l.drop (2 * k * pre.length)).length := by
    rcases Nat.lt_or_ge (l.drop (2 * k * pre.length)).length (2 * k) with h | h
    · rw [allR_short h] at h2; cases h2
    · exact h
  rw [allR_long hk h3] at h2
  have h4 : (valB k (l.drop (2 * k * pre.length)) + 1, ((valB k ((l.drop (2 * k * pre.length)).drop k) : Nat) : Int)) = x := by injection h2 with h2 _
  have h5 : valB k (l.drop (2 * k * pre.length)) + 1 = x.1 := congrArg Prod.fst h4
  have h6 : getR k ((expR (pre ++ [x])).length - (expR pre).length) (l.drop (2 * k * pre.length)) = some ([x], l.drop (2 * k * (pre ++ [x]).length)) := by
    rw [getR, dif_neg (by omega), if_neg (by omega), if_neg (by omega), show (expR (pre ++ [x])).length - (expR pre).length - (valB k (l.drop (2 * k * pre.length)) + 1) = 0 by omega, getR, dif_pos rfl, h4, List.drop_drop, List.length_append, List.length_singleton]
    rw [show 2 * k * pre.length + 2 * k = 2 * k * (pre.length + 1) by rw [Nat.mul_add, Nat.mul_one]]
    rfl
  rw [h6] at h1
  unfold getN
  rw [h1]
  rfl
end Go.Proofs.YtcnbcaljpgdcpaaDoor

namespace Go.Proofs.YtcnbcaljpgdcpaaDoor
open Go.RowKit Go.Shelf Go.Maps
attribute [local go_sem] Oper.semAt_some

theorem eq_intA (d : Nat) (a b : Int) (w : World) : (Op.equalIn (d + 1) 3 (.int .i64 a) (.int .i64 b)).run Tryd.prog w = .ok (a == b) w := by
  simp [Op.equalIn, Sem.run_bind, run_underlying Tryd.underlying3 w]
theorem neq_run (a b c d : Int) (w : World) : (binOp .neq 49 (.agg #[.int .i64 a, .int .i64 b]) (.agg #[.int .i64 c, .int .i64 d])).run Tryd.prog w = .ok (.bool (!decide (a = c ∧ b = d))) w := by
  obtain ⟨i0, hi, _⟩ := info_parts (show (Tryd.prog.info? 3).map (fun i => (i.zero, i.size, i.bytes)) = some (some (.int .i64 0), 1, 8) by kernel_rfl)
  have p0 : ∀ x y : Int, (part 3 #[.int .i64 x, .int .i64 y] 0).run Tryd.prog w = .ok (.int .i64 x) w := fun x y => by kernel_rfl
  have p1 : ∀ x y : Int, (part 3 #[.int .i64 x, .int .i64 y] 1).run Tryd.prog w = .ok (.int .i64 y) w := fun x y => by kernel_rfl
  have hr : (List.range 2) = [0, 1] := rfl
  have he : ∀ dd, (Op.equalIn (dd + 1 + 1) 49 (.agg #[.int .i64 a, .int .i64 b]) (.agg #[.int .i64 c, .int .i64 d])).run Tryd.prog w = .ok (decide (a = c ∧ b = d)) w := fun dd => by
    rw [run_equalIn_array w (dd + 1) (n := 2) _ _ Tryd.underlying49 hi, intCells, hr]
    by_cases k1 : a = c <;> by_cases k2 : b = d <;>
      simp [Op.eqItems, Sem.run_bind, p0, p1, eq_intA dd, Result.andThen, Sem.run_pure, k1, k2]
  rw [run_neq_struct, he 9998]
  rfl
attribute [local go_sem high] neq_run
set_option maxRecDepth 100000 in
set_option maxHeartbeats 2000000 in
theorem equalU_any (o1 o2 : Option Addr) (a b : List (Nat × Int)) (c1 c2 : Nat) (ha : a.length ≤ 1000000) (hb : b.length ≤ 1000000) (w : World) (hA : AtU w o1 a) (hB : AtU w o2 b) :
    Calls Tryd.prog 77 #[.slice o1 a.length c1, .slice o2 b.length c2] w fun e w' => e = .returned (.bool (decide (a = b))) ∧ Below w.heap.size w w' := by
  obtain ⟨P, hP⟩ : ∃ P, (fun (e : Ending) w' => e = .returned (.bool (decide (a = b))) ∧ Below w.heap.size w w') = P := ⟨_, rfl⟩
  have HP := Lib.hid hP
  rw [hP]
  obtain ⟨n, hn⟩ : ∃ n, a.length = n := ⟨_, rfl⟩
  obtain ⟨m, hm⟩ : ∃ n, b.length = n := ⟨_, rfl⟩
  have HN := Lib.hid hn
  have HM := Lib.hid hm
  have HA := Lib.hid hA
  have HB := Lib.hid hB
  rw [hn] at ha ⊢
  rw [hm] at hb ⊢
  have ANS : Hid (∀ (B : Bool) (w' : World), decide (a = b) = B → Below w.heap.size w w' → P (.returned (.bool B)) w') := by
    rw [← HP.out]
    exact Lib.hid fun B w' h1 h2 => ⟨by rw [h1], h2⟩
  clear hP hn hm hA hB
  go_enter Tryd.func77, Tryd.ntmps77
  by_cases hnm : n = m
  · subst hnm
    go_wp2_with fail
    go_loopg [13] n (fun k v wr => ∃ (j : Nat), v = .int .i64 (j : Nat) ∧ j ≤ n ∧ k = n - j ∧ Hid (a.take j = b.take j) ∧ Hid (Below w.heap.size w wr))
    case atStart => exact ⟨0, rfl, Nat.zero_le _, rfl, Lib.hid (by simp), Lib.hid (Below.refl _ _)⟩
    case round =>
      obtain ⟨j, rfl, hj, rfl, HI, HBW⟩ := hrel
      rcases Nat.lt_or_ge j n with hlt | hge
      · have hj1 : j < 1000000 := by omega
        obtain ⟨x, hx⟩ : ∃ x, a[j]? = some x := ⟨_, List.getElem?_eq_getElem (by rw [HN.out]; exact hlt)⟩
        obtain ⟨y, hy⟩ : ∃ x, b[j]? = some x := ⟨_, List.getElem?_eq_getElem (by rw [HM.out]; exact hlt)⟩
        obtain ⟨g1, off1, e1, hc1⟩ := (HA.out.below HBW.out) (by rw [HN.out]; omega)
        obtain ⟨g2, off2, e2, hc2⟩ := (HB.out.below HBW.out) (by rw [HM.out]; omega)
        obtain ⟨k0, k1⟩ := hc1 j x hx
        obtain ⟨q0, q1⟩ := hc2 j y hy
        subst e1 e2
        have lg1 := World.block_lt_of_cell? _ _ k0
        have lg2 := World.block_lt_of_cell? _ _ q0
        have HX := Lib.hid hx
        have HY := Lib.hid hy
        obtain ⟨x1, x2⟩ := x
        obtain ⟨y1, y2⟩ := y
        simp only at k0 k1 q0 q1
        clear hc1 hc2 hx hy
        by_cases hxy : x1 = y1 ∧ x2 = y2
        · have HI2 : Hid (a.take (j + 1) = b.take (j + 1)) := Lib.hid (by rw [List.take_add_one, List.take_add_one, HI.out, HX.out, HY.out, hxy.1, hxy.2])
          have HB2 := Lib.hid (show Below w.heap.size w wr.drew from HBW.out.drew)
          obtain ⟨rfl, rfl⟩ := hxy
          clear ANS
          go_wp2_with fail
          go_still_tail 8, (by kernel_rfl)
          change wpList _ _ _ _ _ wr.drew
          go_wp2
          go_roundg (n - (j + 1))
          case measure => omega
          case rel => exact ⟨j + 1, by simp, by omega, rfl, HI2, HB2⟩
        · have HQ := Lib.hid (ANS.out false wr.drew (decide_eq_false fun h => hxy (by
            have h1 := HX.out
            rw [h, HY.out] at h1
            cases h1
            exact ⟨rfl, rfl⟩)) HBW.out.drew)
          have hxy2 : ¬ ((x1 : Int) = (y1 : Int) ∧ x2 = y2) := fun h => hxy ⟨by omega, h.2⟩
          clear ANS hxy
          go_wp2_with fail
          go_still_tail 8, (by kernel_rfl)
          change wpList _ _ _ _ _ wr.drew
          go_wp2
          exact HQ.out
      · obtain rfl : j = n := by omega
        have hI := HI.out
        rw [List.take_of_length_le (by rw [HN.out]; exact Nat.le_refl _), List.take_of_length_le (by rw [HM.out]; exact Nat.le_refl _)] at hI
        have HQ := Lib.hid (ANS.out true wr (decide_eq_true hI) HBW.out)
        clear hI HI ANS
        go_wp2
        exact HQ.out
  · have HQ := Lib.hid (ANS.out false w (decide_eq_false fun h => hnm (by rw [← HN.out, ← HM.out, h])) (Below.refl _ _))
    have hne : ¬ ((n : Nat) : Int) = (m : Nat) := by omega
    clear ANS
    go_wp2_with fail
    exact HQ.out
end Go.Proofs.YtcnbcaljpgdcpaaDoor

namespace Go.Proofs.YtcnbcaljpgdcpaaDoor
open Go.RowKit Go.Shelf Go.Maps

theorem RowB.turn {W W' : World} {S base : Nat} {ty el : TypeId} {sz n : Nat} {X X' T : Nat → Prop} {cs : List Value} (h : RowB W S base ty el sz n X cs) (hm : Moves T W W') (hS : ¬ T S) (hT : ∀ k, base ≤ k → T k → X k ∨ ∃ cur el', el' ≠ el ∧ W.heap[k]? = some (.cells cur el' (0, 0))) (hX : ∀ k, X' k → X k ∨ W.heap.size ≤ k) : RowB W' S base ty el sz n X' cs := by
  obtain ⟨so, cap, hb, ho, hn⟩ := h
  have hown : ∀ k, inB so k → base ≤ k ∧ k < W.heap.size ∧ ∃ cur, W.heap[k]? = some (.cells cur el (0, 0)) := fun k hk => by
    obtain ⟨a, rfl, rfl⟩ := hk
    obtain ⟨cur, h2, h3⟩ := own_rowT ho (show (Value.slice (some a) n cap).ownBlock = some a.block from rfl)
    exact ⟨h3, (Array.getElem?_eq_some_iff.1 h2).1, cur, h2⟩
  refine ⟨so, cap, row_keep hb hm hS, own_moves1N ho hm (fun k hk ht => ?_), fun k hk hx => ?_⟩
  · have h1 := own_inU hk
    obtain ⟨h2, h3, cur, h4⟩ := hown k h1
    rcases hT k h2 ht with h5 | ⟨cur', el', h5, h6⟩
    · exact hn k h1 h5
    · rw [h4] at h6
      injection h6 with h6
      injection h6 with _ h7 _
      exact h5 h7.symm
  · rcases hX k hx with h1 | h1
    · exact hn k hk h1
    · have := hown k hk; omega
theorem rowB_push {W : World} {S base : Nat} {ty el : TypeId} {sz by' n : Nat} {z : Value} {Z : Nat → Prop} {cs : List Value} (h : RowB W S base ty el sz n Z cs) (hte : ty ≠ el) (hu : Tryd.prog.underlying ty = some (.slice el)) (hinfo : (Tryd.prog.info? el).map (fun i => (i.zero, i.size, i.bytes)) = some (some z, sz, by')) (hz : z.cells.size = sz) (hsz : 0 < sz)
    (new : List Value) (hl : new.length = sz) (h1 : ∀ u ∈ new, u.oneCell' = true) (hn : n ≤ 1000000) (hby : by' ≤ 1000) (hbase : base ≤ W.heap.size) (hZ : ∀ k, Z k → k < W.heap.size) (hSb : S < base ∨ True) :
    ∃ so c, W.cell? ⟨S, 0, none⟩ = some (.slice so n c) ∧ S < W.heap.size ∧ ∃ o' c' w6, (appSem #[ty, ty] ty #[.slice so n c, .slice (some ⟨W.heap.size, 0, none⟩) 1 1]).run Tryd.prog (W.alloc (.cells new.toArray el)) = .ok (.slice o' (n + 1) c') w6 ∧
      w6.cell? ⟨S, 0, none⟩ = some (.slice so n c) ∧ w6.frozen? ⟨S, 0, none⟩ = false ∧ S < w6.heap.size ∧ RowB (w6.setCell ⟨S, 0, none⟩ (.slice o' (n + 1) c')) S base ty el sz (n + 1) Z (cs ++ new) ∧
      Moves (fun k => k = S ∨ (inB so k ∧ base ≤ k ∧ ¬ Z k ∧ ∃ cur, W.heap[k]? = some (.cells cur el (0, 0)))) W (w6.setCell ⟨S, 0, none⟩ (.slice o' (n + 1) c')) := by
  obtain ⟨so, c, hbx, ho, hnx⟩ := h
  obtain ⟨i0, hi, hz0, hz1, hz2⟩ := info_parts hinfo
  have a2 : Below W.heap.size W (W.alloc (.cells new.toArray el)) := (Below.refl _ _).alloc (Nat.le_refl _) _
  have hcell : ∀ j u, new[j]? = some u → (W.alloc (.cells new.toArray el)).cell? ((⟨W.heap.size, 0, none⟩ : Addr).add j) = some u := fun j u hj => by
    rw [show (⟨W.heap.size, 0, none⟩ : Addr).add j = ⟨W.heap.size, j, none⟩ by unfold Addr.add; split <;> simp_all, cell_of_row _ _ j _ _ _ (heap_alloc_new _ _)]
    simpa using hj
  obtain ⟨v', w6, hr, h2, h3, h4, h5⟩ := run_append_own_at (P := Tryd.prog) (W.alloc (.cells new.toArray el)) base ty ty el i0 z sz by' hu hi hz0 hz1 hz2 hz hsz (.slice so n c) n cs (own_below ho a2) ⟨W.heap.size, 0, none⟩ 1 1 new (by omega) hcell h1 (by unfold maxLen; omega)
    (by have : (n + 1) * by' ≤ 1000001 * 1000 := Nat.mul_le_mul (by omega) hby; omega) (by have := a2.size; omega)
  obtain ⟨o', c', rfl⟩ := own_form h2
  have hso : ∀ k, inB so k → base ≤ k ∧ k < W.heap.size ∧ ¬ Z k ∧ ∃ cur, W.heap[k]? = some (.cells cur el (0, 0)) := fun k hk => by
    have hnz := hnx k hk
    obtain ⟨a, rfl, rfl⟩ := hk
    obtain ⟨cur, h2, h3⟩ := own_rowT ho (show (Value.slice (some a) n c).ownBlock = some a.block from rfl)
    exact ⟨h3, (Array.getElem?_eq_some_iff.1 h2).1, hnz, cur, h2⟩
  have m6 : Moves (fun k => inB so k) W w6 := (Moves.of_below a2).trans ⟨h3.os, h3.tape, h3.output, h3.size, fun k hk hs => h3.block k hk fun e => hs (own_inU e.symm)⟩
  have b6 : Boxed w6 S ty (.slice so n c) := row_keep hbx m6 (fun hk => by
    obtain ⟨_, _, _, cur, h6⟩ := hso _ hk
    have h7 : W.heap[S]? = some (.cells #[.slice so n c] ty (0, 0)) := hbx
    rw [h7] at h6
    injection h6 with h6
    injection h6 with _ h8 _
    exact hte h8)
  refine ⟨so, c, hbx.cell, hbx.lt, o', c', w6, hr, b6.cell, b6.frozen, b6.lt, ⟨o', c', b6.set _, own_moves1N h2 (Moves.setCell (S := fun k => k = S) rfl) (fun k hk e => ?_), fun k hk hx => ?_⟩, (m6.mono fun k hk => .inr ⟨hk, (hso k hk).1, (hso k hk).2.2.1, (hso k hk).2.2.2⟩).trans (Moves.setCell (.inl rfl))⟩
  · subst e
    obtain ⟨cur, h6, _⟩ := own_rowT h2 hk
    have h7 : w6.heap[k]? = some (.cells #[.slice so n c] ty (0, 0)) := b6
    rw [h7] at h6
    injection h6 with h6
    injection h6 with _ h8 _
    exact hte h8
  · obtain ⟨a, rfl, rfl⟩ := hk
    rcases h5 with h6 | h6
    · exact hnx _ (own_inU (h6.symm.trans rfl)) hx
    · have h7 : a.block = (W.alloc (.cells new.toArray el)).heap.size := by simpa [Value.ownBlock] using h6
      have := hZ _ hx
      simp at h7
      omega
theorem RowB.same {W W' : World} {S base : Nat} {ty el : TypeId} {sz n : Nat} {Z : Nat → Prop} {cs : List Value} {so : Option Addr} {c : Nat} (h : RowB W S base ty el sz n Z cs) (hb : W'.heap[S]? = W.heap[S]?) (hc : W'.cell? ⟨S, 0, none⟩ = some (.slice so n c)) {k : Nat} (hk : inB so k) : k < W.heap.size := by
  obtain ⟨so2, c2, hb2, ho, _⟩ := h
  have h7 : W'.heap[S]? = some (.cells #[.slice so2 n c2] ty (0, 0)) := hb.trans hb2
  rw [cell_of_row _ _ 0 _ _ _ h7] at hc
  cases hc
  obtain ⟨a, rfl, rfl⟩ := hk
  obtain ⟨cur, h2, _⟩ := own_rowT ho (show (Value.slice (some a) n c).ownBlock = some a.block from rfl)
  exact (Array.getElem?_eq_some_iff.1 h2).1
/-- The blocks that the rows of numbers leave alone: the iterator's, and its two boxes. -/
abbrev NZ (w : World) (X : Nat → Prop) (k : Nat) : Prop := X k ∨ k = w.heap.size + 4 ∨ k = w.heap.size + 5
/-- What holds between two rounds of numbers. -/
structure NumI (w : World) (B sz : Nat) (X : Nat → Prop) (W : World) (met : List (Nat × Int)) (acc : List Int) : Prop where
  far : ∀ k, X k → k = B ∨ w.heap.size + 4 ≤ k
  size : w.heap.size + 6 ≤ W.heap.size ∧ B < w.heap.size
  kept : Moves (fun k => k = B) w W
  sb : Boxed W w.heap.size 3 (.int .i64 (sz : Nat))
  mb : RowB W (w.heap.size + 1) (w.heap.size + 2) 36 49 2 met.length (NZ w X) (cellsU met)
  ab : RowB W (w.heap.size + 3) (w.heap.size + 2) 22 3 1 acc.length (NZ w X) (acc.map (Value.int .i64))
theorem NumI.moves {w : World} {B sz : Nat} {X X' : Nat → Prop} {A A' : World} {met : List (Nat × Int)} {acc : List Int} (h : NumI w B sz X A met acc) (hm : Moves X A A') (hX : ∀ k, X' k → (X k ∨ A.heap.size ≤ k) ∧ k < A'.heap.size) : NumI w B sz X' A' met acc := by
  have hz := hm.size
  obtain ⟨hs, hB⟩ := h.size
  have hf : ∀ k, w.heap.size ≤ k → k < w.heap.size + 4 → ¬ X k := fun k h1 h2 hx => by rcases h.far k hx with h3 | h3 <;> omega
  have hZ : ∀ k, NZ w X' k → NZ w X k ∨ A.heap.size ≤ k := fun k hk => by
    rcases hk with h1 | h1 | h1
    · exact (hX k h1).1.imp .inl id
    · exact .inl (.inr (.inl h1))
    · exact .inl (.inr (.inr h1))
  refine ⟨fun k hk => ?_, ⟨by omega, hB⟩, ⟨hm.os.trans h.kept.os, hm.tape.trans h.kept.tape, hm.output.trans h.kept.output, Nat.le_trans h.kept.size hz, fun k hk hs' => (hm.block k (by have := h.kept.size; omega) fun hx => ?_).trans (h.kept.block k hk hs')⟩, row_keep h.sb hm (hf _ (Nat.le_refl _) (by omega)), h.mb.turn hm (hf _ (by omega) (by omega)) (fun k _ hk => .inl (.inl hk)) hZ, h.ab.turn hm (hf _ (by omega) (by omega)) (fun k _ hk => .inl (.inl hk)) hZ⟩
  · rcases (hX k hk).1 with h1 | h1
    · exact h.far k h1
    · right; omega
  · rcases h.far k hx with h1 | h1
    · exact hs' h1
    · omega
end Go.Proofs.YtcnbcaljpgdcpaaDoor
