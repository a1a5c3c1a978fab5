/- Rows of ranges that the call owns: one behind them, one between them; copy from row to row. -/
import Derived.Test.YtkhniogmogcjlaaDoorNBase
import Derived.Maps.AppendAt
import Derived.Lib.AppendZerosOnto
import Derived.Lib.Overlaps
import Derived.Laws.CopyRow
namespace Go.Proofs.YtkhniogmogcjlaaDoor
open Go.RowKit Go.Shelf Go.Maps

theorem infoRng : (Tryd.prog.info? 38).map (fun i => (i.zero, i.size, i.bytes)) = some (some (rngV (0, 0, 0)), 3, 24) := by kernel_rfl
theorem cellsR_append (a b : List Rng) : cellsR (a ++ b) = cellsR a ++ cellsR b := by unfold cellsR; rw [List.flatMap_append]
theorem cellsR_one (x : Rng) : cellsR [x] = [.int .i64 x.1, .int .i64 x.2.1, .int .i64 x.2.2] := rfl
theorem cellsR_length : ∀ l : List Rng, (cellsR l).length = l.length * 3
  | [] => rfl
  | x :: l => by
    have := cellsR_length l
    unfold cellsR at this ⊢
    rw [List.flatMap_cons, List.length_append, this]
    simp
    omega
theorem cellsR_one' (l : List Rng) : ∀ u ∈ cellsR l, u.oneCell' = true := by
  intro u hu
  unfold cellsR at hu
  obtain ⟨x, _, hu⟩ := List.mem_flatMap.1 hu
  simp only [List.mem_cons, List.not_mem_nil, or_false] at hu
  rcases hu with rfl | rfl | rfl <;> rfl
theorem cellsR_get : ∀ {l : List Rng} {j : Nat} {x : Rng}, l[j]? = some x → (cellsR l)[j * 3]? = some (.int .i64 x.1) ∧ (cellsR l)[j * 3 + 1]? = some (.int .i64 x.2.1) ∧ (cellsR l)[j * 3 + 2]? = some (.int .i64 x.2.2)
  | [], j, x, h => by simp at h
  | y :: l, 0, x, h => by
    obtain rfl : y = x := by simpa using h
    exact ⟨rfl, rfl, rfl⟩
  | y :: l, j + 1, x, h => by
    have := cellsR_get (l := l) (j := j) (x := x) (by simpa using h)
    unfold cellsR at this ⊢
    rw [List.flatMap_cons]
    rw [show (j + 1) * 3 = j * 3 + 3 from by omega]
    simpa using this
theorem addr_at (g i : Nat) : (⟨g, 0, none⟩ : Addr).add i = ⟨g, i, none⟩ := by unfold Addr.add; split <;> simp_all
/-- Of an own row each range is at its place. -/
theorem at_own {w : World} {base : Nat} {o : Option Addr} {l : List Rng} {cap : Nat} (h : w.ownsRow base 38 3 (.slice o l.length cap) l.length (cellsR l)) : AtR w o l := fun hn => by
  rcases h.2 with ⟨_, h0⟩ | ⟨g, cap', cur, e, _, hg, _, _, _, htake⟩
  · omega
  · obtain ⟨rfl, rfl⟩ : o = some ⟨g, 0, none⟩ ∧ cap = cap' := by simpa using e
    have key : ∀ i u, (cellsR l)[i]? = some u → w.cell? ⟨g, i, none⟩ = some u := fun i u hu => by
      rw [cell_of_row _ _ i _ _ _ hg]
      rw [← htake, List.getElem?_take] at hu
      split at hu
      · rwa [Array.getElem?_toList] at hu
      · cases hu
    refine ⟨g, 0, rfl, fun j x hx => ?_⟩
    obtain ⟨h0, h1, h2⟩ := cellsR_get hx
    rw [Nat.zero_add]
    exact ⟨key _ _ h0, key _ _ h1, key _ _ h2⟩
theorem own_capR {w : World} {base : Nat} {o : Option Addr} {l : List Rng} {cap : Nat} (h : w.ownsRow base 38 3 (.slice o l.length cap) l.length (cellsR l)) : l.length ≤ cap := own_cap h
/-- append of one range. -/
theorem rng_own {W : World} {base k : Nat} {v : Value} {xs : List Value} (x : Rng) (ho : W.ownsRow base 38 3 v k xs) (hk : k ≤ 100000) (hbase : base ≤ W.heap.size) {e : Nat} (he : W.heap[e]? = some (rngO x)) :
    ∃ g cap w6, (appSem #[22, 22] 22 #[v, .slice (some ⟨e, 0, none⟩) 1 1]).run Tryd.prog W = .ok (.slice (some ⟨g, 0, none⟩) (k + 1) cap) w6 ∧
      w6.ownsRow base 38 3 (.slice (some ⟨g, 0, none⟩) (k + 1) cap) (k + 1) (xs ++ cellsR [x]) ∧ W.grownBy w6 v.ownBlock ∧ (∀ j, (Value.slice (some ⟨g, 0, none⟩) (k + 1) cap).ownBlock = some j → v.ownBlock = some j ∨ j = W.heap.size) := by
  obtain ⟨i0, hi, hz0, hz1, hz2⟩ := info_parts infoRng
  obtain ⟨c0, c1, c2, _⟩ := rng_cells he
  obtain ⟨v', w6, hr, h2, h3, h4, h5⟩ := run_append_own_at (P := Tryd.prog) W base 22 22 38 i0 (rngV (0, 0, 0)) 3 24 Tryd.underlying22 hi hz0 hz1 hz2 rfl (by decide) v k xs ho ⟨e, 0, none⟩ 1 1 (cellsR [x]) rfl
    (fun j u hj => by
      match j, hj with
      | 0, hj => cases hj; exact c0
      | 1, hj => cases hj; exact c1
      | 2, hj => cases hj; exact c2) (cellsR_one' _) (by unfold maxLen; omega) (by omega) hbase
  obtain ⟨g, cap, rfl⟩ := ownsRow_succ h2
  exact ⟨g, cap, w6, hr, h2, h3, fun j hj => h5.imp (fun h => h.symm.trans hj) (fun h => by rw [h] at hj; cases hj; rfl)⟩
/-- copy behind a name that the walk does not open. -/
def copSem (ats : Array TypeId) (ty : TypeId) (args : Array Value) : Sem Value := Builtin.copy_ ats ty args
theorem cop_hide (ats : Array TypeId) (ty : TypeId) (args : Array Value) : Builtin.copy_ ats ty args = copSem ats ty args := rfl
theorem run_copyR (w : World) (ty : TypeId) (g o dLen dCap : Nat) (a : Addr) (sLen sCap : Nat) (cur : List Value) (t : TypeId) (cs : List Value) (k : Nat) (hk : Nat.min sLen dLen = k)
    (hg : w.heap[g]? = some (.cells cur.toArray t (0, 0))) (hn : cs.length = k * 3) (hsrc : ∀ j v, cs[j]? = some v → w.cell? (a.add j) = some v) (hfit : o + cs.length ≤ cur.length) (h1 : ∀ v ∈ cs, v.oneCell' = true) :
    (copSem #[22, 22] ty #[.slice (some ⟨g, o, none⟩) dLen dCap, .slice (some a) sLen sCap]).run Tryd.prog w =
      .ok (goInt k) (w.setRow g (cur.take o ++ cs ++ cur.drop (o + cs.length)).toArray) := by
  obtain ⟨i0, hi, hz0, hz1, hz2⟩ := info_parts infoRng
  have hl := run_loadCells_list (P := Tryd.prog) w a cs hsrc
  rw [hn] at hl
  have hst := run_storeCells_at Tryd.prog g o t cs 0 cur.toArray w hg (by simpa using hfit) h1
  simp [copSem, Builtin.copy_, run_underlying Tryd.underlying22, Builtin.lenOf, Builtin.firstCells, sizeOf, typeInfo, hi, hz1, hk, hl, hst]
/-- A row into which cells have been put between others. -/
theorem put_shift {α : Type} (L A X B : List α) (hA : L.take A.length = A) (hL : A.length + X.length + B.length ≤ L.length) :
    let L1 := L.take (A.length + X.length) ++ B ++ L.drop (A.length + X.length + B.length)
    ∃ R, L1.take A.length ++ X ++ L1.drop (A.length + X.length) = A ++ X ++ B ++ R ∧ (A ++ X ++ B ++ R).length = L.length := by
  intro L1
  refine ⟨L.drop (A.length + X.length + B.length), ?_, by simp; omega⟩
  have h1 : L1.take A.length = A := by
    show (L.take (A.length + X.length) ++ B ++ L.drop (A.length + X.length + B.length)).take A.length = A
    rw [List.append_assoc, List.take_append_of_le_length (by rw [List.length_take]; omega), List.take_take, Nat.min_eq_left (by omega), hA]
  have h2 : L1.drop (A.length + X.length) = B ++ L.drop (A.length + X.length + B.length) := by
    show (L.take (A.length + X.length) ++ B ++ L.drop (A.length + X.length + B.length)).drop (A.length + X.length) = _
    have hl : (L.take (A.length + X.length)).length = A.length + X.length := by rw [List.length_take]; omega
    have := List.drop_left (l₁ := L.take (A.length + X.length)) (l₂ := B ++ L.drop (A.length + X.length + B.length))
    rw [hl] at this
    rw [List.append_assoc]
    exact this
  rw [h1, h2]
  simp
theorem put_fresh {α : Type} (L A X B : List α) (hA : L.take A.length = A) (hL : A.length + X.length + B.length ≤ L.length) :
    let L1 := L.take A.length ++ X ++ L.drop (A.length + X.length)
    ∃ R, L1.take (A.length + X.length) ++ B ++ L1.drop (A.length + X.length + B.length) = A ++ X ++ B ++ R ∧ (A ++ X ++ B ++ R).length = L.length := by
  intro L1
  have e : L1 = (A ++ X) ++ L.drop (A.length + X.length) := by show L.take A.length ++ X ++ _ = _; rw [hA]
  have hl : (A ++ X).length = A.length + X.length := List.length_append
  refine ⟨L1.drop (A.length + X.length + B.length), ?_, ?_⟩
  · have h1 : L1.take (A.length + X.length) = A ++ X := by rw [e, ← hl, List.take_left]
    rw [h1]
  · have : L1.length = L.length := by rw [e, List.length_append, hl, List.length_drop]; omega
    rw [List.length_append, List.length_append, hl, List.length_drop, this]
    omega
end Go.Proofs.YtkhniogmogcjlaaDoor
