/- append of ranges that lie somewhere, to a row that the call owns. -/
import Derived.Test.YtkhniogmogcjlaaDoorNRows
namespace Go.Proofs.YtkhniogmogcjlaaDoor
open Go.RowKit Go.Shelf Go.Maps

theorem add_in {w : World} {g off : Nat} {l : List Rng} (hc : ∀ (j : Nat) (x : Rng), l[j]? = some x →
    w.cell? ⟨g, off + j * 3, none⟩ = some (.int .i64 x.1) ∧ w.cell? ⟨g, off + j * 3 + 1, none⟩ = some (.int .i64 x.2.1) ∧ w.cell? ⟨g, off + j * 3 + 2, none⟩ = some (.int .i64 x.2.2)) :
    ∀ j u, (cellsR l)[j]? = some u → w.cell? ((⟨g, off, none⟩ : Addr).add j) = some u := by
  intro j u hj
  have hadd : (⟨g, off, none⟩ : Addr).add j = ⟨g, off + j, none⟩ := by unfold Addr.add; split <;> simp_all
  rw [hadd]
  have hlt := (List.getElem?_eq_some_iff.1 hj).1
  rw [cellsR_length] at hlt
  obtain ⟨x, hx⟩ : ∃ x, l[j / 3]? = some x := ⟨_, List.getElem?_eq_getElem (by omega)⟩
  obtain ⟨h0, h1, h2⟩ := hc _ x hx
  obtain ⟨c0, c1, c2⟩ := cellsR_get hx
  have hm : j % 3 = 0 ∨ j % 3 = 1 ∨ j % 3 = 2 := by omega
  rcases hm with h | h | h
  · rw [show j / 3 * 3 = j from by omega] at c0 h0
    rw [c0] at hj; cases hj; exact h0
  · rw [show j / 3 * 3 + 1 = j from by omega] at c1
    rw [show off + j / 3 * 3 + 1 = off + j from by omega] at h1
    rw [c1] at hj; cases hj; exact h1
  · rw [show j / 3 * 3 + 2 = j from by omega] at c2
    rw [show off + j / 3 * 3 + 2 = off + j from by omega] at h2
    rw [c2] at hj; cases hj; exact h2
/-- A value of an own row, as a slice. -/
theorem own_slice {W : World} {base k : Nat} {v : Value} {xs : List Value} (h : W.ownsRow base 38 3 v k xs) : ∃ o cap, v = .slice o k cap := by
  rcases h.2 with ⟨rfl, rfl⟩ | ⟨g, cap, cur, rfl, _⟩
  · exact ⟨none, 0, rfl⟩
  · exact ⟨_, cap, rfl⟩
theorem app_none (W : World) (v : Value) {k : Nat} {base : Nat} {xs : List Value} (ho : W.ownsRow base 38 3 v k xs) (c : Nat) :
    (appSem #[22, 22] 22 #[v, .slice none 0 c]).run Tryd.prog W = .ok v W := by
  obtain ⟨i0, hi, hz0, hz1, hz2⟩ := info_parts infoRng
  rcases ho.2 with ⟨rfl, rfl⟩ | ⟨g, cap, cur, rfl, _, _, hnc, _, _, _⟩
  · simp [appSem, Builtin.append_, run_underlying Tryd.underlying22, sizeOf, typeInfo, hi, Builtin.lenOf, Builtin.firstCells]
  · simp [appSem, Builtin.append_, run_underlying Tryd.underlying22, sizeOf, typeInfo, hi, Builtin.lenOf, Builtin.firstCells, loadCells, storeCells, hnc]
theorem rngs_own {W : World} {base k : Nat} {v : Value} {xs : List Value} (l : List Rng) (o : Option Addr) (c : Nat) (hA : AtR W o l) (ho : W.ownsRow base 38 3 v k xs) (hk : k + l.length ≤ 100000) (hbase : base ≤ W.heap.size) :
    ∃ o' cap w6, (appSem #[22, 22] 22 #[v, .slice o l.length c]).run Tryd.prog W = .ok (.slice o' (k + l.length) cap) w6 ∧
      w6.ownsRow base 38 3 (.slice o' (k + l.length) cap) (k + l.length) (xs ++ cellsR l) ∧ W.grownBy w6 v.ownBlock ∧ ((Value.slice o' (k + l.length) cap).ownBlock = v.ownBlock ∨ (Value.slice o' (k + l.length) cap).ownBlock = some W.heap.size) := by
  obtain ⟨i0, hi, hz0, hz1, hz2⟩ := info_parts infoRng
  have main : ∀ a : Addr, (∀ j u, (cellsR l)[j]? = some u → W.cell? (a.add j) = some u) → o = some a → ∃ o' cap w6, (appSem #[22, 22] 22 #[v, .slice o l.length c]).run Tryd.prog W = .ok (.slice o' (k + l.length) cap) w6 ∧
      w6.ownsRow base 38 3 (.slice o' (k + l.length) cap) (k + l.length) (xs ++ cellsR l) ∧ W.grownBy w6 v.ownBlock ∧ ((Value.slice o' (k + l.length) cap).ownBlock = v.ownBlock ∨ (Value.slice o' (k + l.length) cap).ownBlock = some W.heap.size) := by
    rintro a hc rfl
    obtain ⟨v', w6, hr, h2, h3, _, h5⟩ := run_append_own_at (P := Tryd.prog) W base 22 22 38 i0 (rngV (0, 0, 0)) 3 24 Tryd.underlying22 hi hz0 hz1 hz2 rfl (by decide) v k xs ho a l.length c (cellsR l) (cellsR_length l) hc (cellsR_one' _) (by unfold maxLen; omega) (by omega) hbase
    obtain ⟨o', cap, rfl⟩ := own_slice h2
    exact ⟨o', cap, w6, hr, h2, h3, h5⟩
  rcases Nat.eq_zero_or_pos l.length with h0 | h0
  · obtain rfl := List.eq_nil_of_length_eq_zero h0
    cases o with
    | none =>
      obtain ⟨o', cap, rfl⟩ := own_slice ho
      exact ⟨o', cap, W, app_none W _ ho c, by simpa [cellsR] using ho, ⟨rfl, rfl, rfl, Nat.le_refl _, fun _ _ _ => rfl⟩, .inl rfl⟩
    | some a => exact main a (fun j u hj => by simp [cellsR] at hj) rfl
  · obtain ⟨g, off, rfl, hc⟩ := hA h0
    exact main _ (add_in hc) rfl
end Go.Proofs.YtkhniogmogcjlaaDoor
