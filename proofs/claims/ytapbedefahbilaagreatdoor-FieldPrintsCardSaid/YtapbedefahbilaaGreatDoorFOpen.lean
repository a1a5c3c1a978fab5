/- An argument that is a list of records: what its reading says of the memory. -/
import Derived.Test.YtapbedefahbilaaGreatDoorFPrintsLaw
import Derived.Test.YtapbedefahbilaaGreatDoorFMet
import Derived.SliceStrings
import Derived.Carry
import Derived.LaidMore
import Derived.Lib.SmallJoins
namespace Go.Proofs.YtapbedefahbilaaGreatDoor
open Go.ChangeShapes Go.WideShapes Go.ChangeAt Go.RowKit Go.ChangeMaps

theorem list_of {α : Type} {Q : Nat → α → Prop} : ∀ n : Nat, (∀ i, i < n → ∃ x, Q i x) → ∃ l : List α, l.length = n ∧ ∀ i x, l[i]? = some x → Q i x
  | 0, _ => ⟨[], rfl, fun i x h => by simp at h⟩
  | n + 1, h => by
    obtain ⟨l, hl, hq⟩ := list_of n fun i hi => h i (by omega)
    obtain ⟨y, hy⟩ := h n (by omega)
    refine ⟨l ++ [y], by simp [hl], fun i x hx => ?_⟩
    rcases Nat.lt_or_ge i l.length with hi | hi
    · rw [List.getElem?_append_left hi] at hx
      exact hq i x hx
    · rw [List.getElem?_append_right hi] at hx
      have hi2 : i - l.length = 0 := by
        have := (List.getElem?_eq_some_iff.1 hx).1
        simp at this
        omega
      rw [hi2] at hx
      cases hx
      rw [show i = n from by omega]
      exact hy
theorem add_at (g off k : Nat) : (⟨g, off, none⟩ : Addr).add k = ⟨g, off + k, none⟩ := by unfold Addr.add; split <;> simp_all
theorem cellsRec : Tryz.prog.cellsOf 31 = 4 := by kernel_rfl
theorem cellsInt : Tryz.prog.cellsOf 3 = 1 := by kernel_rfl
theorem cellsStr : Tryz.prog.cellsOf 9 = 1 := by kernel_rfl
theorem cellsStrs : Tryz.prog.cellsOf 29 = 1 := by kernel_rfl
section
variable {H : Type} {enc : TypeId × Value → H} {W : World}
theorem drop_one {cs : List Value} {k : Nat} {v : Value} (h : (cs.drop k).take 1 = [v]) : cs[k]? = some v := by
  have := congrArg (·[0]?) h
  simpa [List.getElem?_take, List.getElem?_drop] using this
theorem strings_X {fuel : Nat} {v : Value} {x : DataW H × List MemPlace} (h : DataW.trod enc Tryz.prog W 0 (fun _ => true) true fuel 29 [v] = some x) : ∃ o fs cap, v = .slice o fs.length cap ∧ FieldsX W o fs ∧ fs.length ≤ maxLen := by
  rcases open_strings Tryz.underlying29 Tryz.underlying9 cellsStr h with ⟨hv, _⟩ | ⟨a, len, cap, ss, hv, _, hle, hcap, hlen, _, hc, _⟩
  · obtain rfl : v = .slice none 0 0 := by simpa using hv
    exact ⟨none, [], 0, rfl, fun h => absurd h (Nat.not_lt_zero _), Nat.zero_le _⟩
  · obtain rfl : v = .slice (some a) len cap := by simpa using hv
    simp only [if_true] at hlen
    have hl : (ss.take len).length = len := by rw [List.length_take]; omega
    refine ⟨some a, ss.take len, cap, by rw [hl], fun hn => ?_, by omega⟩
    rw [hl] at hn
    have h0 := hc 0 (by omega)
    obtain ⟨g, off, spot⟩ := a
    have hspot : spot = none := by simpa [Addr.add] using World.cell?_spot h0
    subst hspot
    refine ⟨g, off, rfl, fun j hj => ?_⟩
    rw [hl] at hj
    have := hc j (by omega)
    rw [add_at] at this
    rw [this]
    simp [List.getD, hj]
theorem list4 {α : Type} {cs : List α} (h : cs.length = 4) : ∃ c0 c1 c2 c3, cs = [c0, c1, c2, c3] := by
  match cs, h with
  | [c0, c1, c2, c3], _ => exact ⟨c0, c1, c2, c3, rfl⟩
theorem recOf {fuel : Nat} {cs : List Value} {x : DataW H × List MemPlace} (h : DataW.trod enc Tryz.prog W 0 (fun _ => true) true fuel 31 cs = some x) :
    ∃ (X : RecX) (fo : Option Addr) (fc : Nat), cs[0]? = some (.int .i64 X.1) ∧ cs[1]? = some (.int .i64 X.2.1) ∧ cs[2]? = some (.int .i64 X.2.2.1) ∧ cs[3]? = some (.slice fo X.2.2.2.length fc) ∧ FieldsX W fo X.2.2.2 ∧ In64 X.2.1 ∧ In64 X.2.2.1 ∧ X.2.2.2.length ≤ maxLen := by
  obtain ⟨y0, y1, y2, y3, n, _, hl, h0, h1, h2, h3⟩ := Go.Joins.trod_struct4 Tryz.underlying31 h
  rw [cellsRec] at hl
  obtain ⟨k0, k1, k2, k3, rfl⟩ := list4 hl
  obtain ⟨l, c0, _, _⟩ := DataW.trod_int Tryz.underlying3 h0
  obtain ⟨a, c1, _, wa⟩ := DataW.trod_int Tryz.underlying3 h1
  obtain ⟨b, c2, _, wb⟩ := DataW.trod_int Tryz.underlying3 h2
  change List.take (Tryz.prog.cellsOf 3) (List.drop 0 [k0, k1, k2, k3]) = _ at c0
  change List.take (Tryz.prog.cellsOf 3) (List.drop 1 [k0, k1, k2, k3]) = _ at c1
  change List.take (Tryz.prog.cellsOf 3) (List.drop 2 [k0, k1, k2, k3]) = _ at c2
  change DataW.trod enc Tryz.prog W 0 (fun _ => true) true n 29 (List.take (Tryz.prog.cellsOf 29) (List.drop 3 [k0, k1, k2, k3])) = _ at h3
  rw [cellsInt] at c0 c1 c2
  rw [cellsStrs] at h3
  obtain rfl : k0 = .int .i64 l := by simpa using c0
  obtain rfl : k1 = .int .i64 a := by simpa using c1
  obtain rfl : k2 = .int .i64 b := by simpa using c2
  obtain ⟨fo, fs, fc, rfl, hF, hn⟩ := strings_X (v := k3) h3
  exact ⟨(l, a, b, fs), fo, fc, rfl, rfl, rfl, rfl, hF, in64_of_wf wa, in64_of_wf wb, hn⟩
theorem open_recs {fuel : Nat} {v : Value} {x : DataW H × List MemPlace} (h : DataW.trod enc Tryz.prog W 0 (fun _ => true) true fuel 35 [v] = some x) :
    ∃ (o : Option Addr) (rs : List RecX) (cap : Nat), v = .slice o rs.length cap ∧ ArgX W o rs ∧ (∀ x ∈ rs, In64 x.2.1 ∧ In64 x.2.2.1) ∧ (∀ x ∈ rs, x.2.2.2.length ≤ 9223372036854775807) ∧ rs.length ≤ 9223372036854775807 := by
  rcases DataW.trod_slice Tryz.underlying35 h with ⟨hv, _⟩ | ⟨a, len, cap, elems, rest, n, _, hv, _, _, hle, hcap, hlen, hc, _, _⟩
  · obtain rfl : v = .slice none 0 0 := by simpa using hv
    exact ⟨none, [], 0, rfl, fun h => absurd h (Nat.not_lt_zero _), fun _ h => (List.not_mem_nil h).elim, fun _ h => (List.not_mem_nil h).elim, Nat.zero_le _⟩
  · obtain rfl : v = .slice (some a) len cap := by simpa using hv
    have hm : maxLen = 9223372036854775807 := rfl
    have hall : ∀ i, i < len → ∃ X : RecX, (∃ (fo : Option Addr) (fc : Nat), W.cell? ((a.add (i * 4)).add 0) = some (.int .i64 X.1) ∧ W.cell? ((a.add (i * 4)).add 1) = some (.int .i64 X.2.1) ∧ W.cell? ((a.add (i * 4)).add 2) = some (.int .i64 X.2.2.1) ∧
        W.cell? ((a.add (i * 4)).add 3) = some (.slice fo X.2.2.2.length fc) ∧ FieldsX W fo X.2.2.2) ∧ In64 X.2.1 ∧ In64 X.2.2.1 ∧ X.2.2.2.length ≤ maxLen := fun i hi => by
      have he := hc i hi
      rw [cellsRec, List.getElem?_eq_getElem (by omega)] at he
      obtain ⟨cs, hcs, ht⟩ := Option.bind_eq_some_iff.1 he
      obtain ⟨_, hl, hg⟩ := World.cells?_some hcs
      obtain ⟨X, fo, fc, c0, c1, c2, c3, hF, ha, hb, hn⟩ := recOf ht
      exact ⟨X, ⟨fo, fc, by rw [hg 0 (by omega), c0], by rw [hg 1 (by omega), c1], by rw [hg 2 (by omega), c2], by rw [hg 3 (by omega), c3], hF⟩, ha, hb, hn⟩
    obtain ⟨rs, hrl, hrs⟩ := list_of len hall
    subst hrl
    have hmem : ∀ x ∈ rs, In64 x.2.1 ∧ In64 x.2.2.1 ∧ x.2.2.2.length ≤ maxLen := fun x hx => by
      obtain ⟨i, hi⟩ := List.mem_iff_getElem?.1 hx
      exact (hrs i x hi).2
    refine ⟨some a, rs, cap, rfl, fun hn => ?_, fun x hx => ⟨(hmem x hx).1, (hmem x hx).2.1⟩, fun x hx => hm ▸ (hmem x hx).2.2, by omega⟩
    obtain ⟨fo0, fc0, h0, _⟩ := (hrs 0 _ (List.getElem?_eq_getElem hn)).1
    obtain ⟨g, off, spot⟩ := a
    have hspot : spot = none := by simpa [Addr.add] using World.cell?_spot h0
    subst hspot
    refine ⟨g, off, rfl, fun j x hx => ?_⟩
    obtain ⟨fo, fc, c0, c1, c2, c3, hF⟩ := (hrs j x hx).1
    rw [add_at, add_at] at c0 c1 c2 c3
    exact ⟨fo, fc, c0, c1, c2, c3, hF⟩
end
end Go.Proofs.YtapbedefahbilaaGreatDoor
