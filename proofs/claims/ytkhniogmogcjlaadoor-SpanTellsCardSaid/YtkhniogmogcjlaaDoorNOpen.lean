/- An argument that is a list of records: what its reading says of the memory. -/
import Derived.Test.YtkhniogmogcjlaaDoorNMet
import Derived.SliceStrings
import Derived.Carry
import Derived.LaidMore
import Derived.Deep.Strs
namespace Go.Proofs.YtkhniogmogcjlaaDoor
open Go.ChangeShapes Go.WideShapes Go.ChangeAt Go.RowKit Go.ChangeMaps

theorem list_of {α : Type} {Q : Nat → α → Prop} : ∀ n : Nat, (∀ i, i < n → ∃ x, Q i x) → ∃ l : List α, l.length = n ∧ ∀ i x, l[i]? = some x → Q i x
  | 0, _ => ⟨[], rfl, fun i x h => by simp at h⟩
  | n + 1, h => by
    obtain ⟨l, hl, hq⟩ := list_of n fun i hi => h i (by omega)
    obtain ⟨y, hy⟩ := h n (by omega)
    refine ⟨l ++ [y], by simp [hl], fun i x hx => ?_⟩
    rcases Nat.lt_or_ge i l.length with hi | hi
    · rw [List.getElem?_append_left hi] at hx
      exact hq i x hx
    · rw [List.getElem?_append_right hi] at hx
      have hi2 : i - l.length = 0 := by
        have := (List.getElem?_eq_some_iff.1 hx).1
        simp at this
        omega
      rw [hi2] at hx
      cases hx
      rw [show i = n from by omega]
      exact hy
theorem add_at (g off k : Nat) : (⟨g, off, none⟩ : Addr).add k = ⟨g, off + k, none⟩ := by unfold Addr.add; split <;> simp_all
theorem cellsRng : Tryd.prog.cellsOf 38 = 3 := by kernel_rfl
theorem cellsInt : Tryd.prog.cellsOf 3 = 1 := by kernel_rfl
section
variable {H : Type} {enc : TypeId × Value → H} {W : World}
theorem list3 {α : Type} {cs : List α} (h : cs.length = 3) : ∃ c0 c1 c2, cs = [c0, c1, c2] := by
  match cs, h with
  | [c0, c1, c2], _ => exact ⟨c0, c1, c2, rfl⟩
theorem rngOf {fuel : Nat} {cs : List Value} {x : DataW H × List MemPlace} (h : DataW.trod enc Tryd.prog W 0 (fun _ => true) true fuel 38 cs = some x) :
    ∃ X : Rng, cs[0]? = some (.int .i64 X.1) ∧ cs[1]? = some (.int .i64 X.2.1) ∧ cs[2]? = some (.int .i64 X.2.2) := by
  obtain ⟨y0, y1, y2, n, _, hl, h0, h1, h2⟩ := Go.Deep.trod_struct3 Tryd.underlying38 h
  rw [cellsRng] at hl
  obtain ⟨k0, k1, k2, rfl⟩ := list3 hl
  obtain ⟨a, c0, _, _⟩ := DataW.trod_int Tryd.underlying3 h0
  obtain ⟨b, c1, _, _⟩ := DataW.trod_int Tryd.underlying3 h1
  obtain ⟨v, c2, _, _⟩ := DataW.trod_int Tryd.underlying3 h2
  change List.take (Tryd.prog.cellsOf 3) (List.drop 0 [k0, k1, k2]) = _ at c0
  change List.take (Tryd.prog.cellsOf 3) (List.drop 1 [k0, k1, k2]) = _ at c1
  change List.take (Tryd.prog.cellsOf 3) (List.drop 2 [k0, k1, k2]) = _ at c2
  rw [cellsInt] at c0 c1 c2
  obtain rfl : k0 = .int .i64 a := by simpa using c0
  obtain rfl : k1 = .int .i64 b := by simpa using c1
  obtain rfl : k2 = .int .i64 v := by simpa using c2
  exact ⟨(a, b, v), rfl, rfl, rfl⟩
theorem open_rngs {fuel : Nat} {v : Value} {x : DataW H × List MemPlace} (h : DataW.trod enc Tryd.prog W 0 (fun _ => true) true fuel 22 [v] = some x) :
    ∃ (o : Option Addr) (rs : List Rng) (cap : Nat), v = .slice o rs.length cap ∧ AtR W o rs ∧ rs.length ≤ cap := by
  rcases DataW.trod_slice Tryd.underlying22 h with ⟨hv, _⟩ | ⟨a, len, cap, elems, rest, n, _, hv, _, _, hle, hcap, hlen, hc, _, _⟩
  · obtain rfl : v = .slice none 0 0 := by simpa using hv
    exact ⟨none, [], 0, rfl, fun h => absurd h (Nat.not_lt_zero _), Nat.le_refl _⟩
  · obtain rfl : v = .slice (some a) len cap := by simpa using hv
    have hall : ∀ i, i < len → ∃ X : Rng, W.cell? ((a.add (i * 3)).add 0) = some (.int .i64 X.1) ∧ W.cell? ((a.add (i * 3)).add 1) = some (.int .i64 X.2.1) ∧ W.cell? ((a.add (i * 3)).add 2) = some (.int .i64 X.2.2) := fun i hi => by
      have he := hc i hi
      rw [cellsRng, List.getElem?_eq_getElem (by omega)] at he
      obtain ⟨cs, hcs, ht⟩ := Option.bind_eq_some_iff.1 he
      obtain ⟨_, hl, hg⟩ := World.cells?_some hcs
      obtain ⟨X, c0, c1, c2⟩ := rngOf ht
      exact ⟨X, by rw [hg 0 (by omega), c0], by rw [hg 1 (by omega), c1], by rw [hg 2 (by omega), c2]⟩
    obtain ⟨rs, hrl, hrs⟩ := list_of len hall
    subst hrl
    refine ⟨some a, rs, cap, rfl, fun hn => ?_, by omega⟩
    obtain ⟨h0, _⟩ := hrs 0 _ (List.getElem?_eq_getElem hn)
    obtain ⟨g, off, spot⟩ := a
    have hspot : spot = none := by simpa [Addr.add] using World.cell?_spot h0
    subst hspot
    refine ⟨g, off, rfl, fun j x hx => ?_⟩
    obtain ⟨c0, c1, c2⟩ := hrs j x hx
    rw [add_at, add_at] at c0 c1 c2
    exact ⟨c0, c1, c2⟩
end
end Go.Proofs.YtkhniogmogcjlaaDoor
