/- An argument that is a trie: what its reading says of the memory. -/
import Derived.Test.YtlmkefmfhdjmmaaDoorBunA4
import Derived.Test.YtlmkefmfhdjmmaaDoorBunN9
import Derived.ChangeSame
namespace Go.Proofs.YtlmkefmfhdjmmaaDoor
open Go.ChangeShapes Go.WideShapes Go.ChangeAt Go.RowKit Go.ChangeMaps

theorem cellsTrie : Tryd.prog.cellsOf 28 = 2 := by kernel_rfl
theorem cellsInts : Tryd.prog.cellsOf 25 = 1 := by kernel_rfl
theorem cellsBlks : Tryd.prog.cellsOf 26 = 1 := by kernel_rfl
theorem list1T {α : Type} {cs : List α} (h : cs.length = 1) : ∃ c0, cs = [c0] := by
  match cs, h with
  | [c0], _ => exact ⟨c0, rfl⟩
theorem list2T {α : Type} {cs : List α} (h : cs.length = 2) : ∃ c0 c1, cs = [c0, c1] := by
  match cs, h with
  | [c0, c1], _ => exact ⟨c0, c1, rfl⟩
section
variable {H : Type} {enc : TypeId × Value → H} {W : World}
theorem open_ints {fuel : Nat} {v : Value} {x : DataW H × List MemPlace} (h : DataW.trod enc Tryd.prog W 0 (fun _ => true) true fuel 25 [v] = some x) :
    ∃ (o : Option Addr) (l : List Int) (cap : Nat), v = .slice o l.length cap ∧ IntsT W o l ∧ l.length ≤ cap := by
  rcases DataW.trod_slice Tryd.underlying25 h with ⟨hv, _⟩ | ⟨a, len, cap, elems, rest, n, _, hv, _, _, hle, hcap, hlen, hc, _, _⟩
  · obtain rfl : v = .slice none 0 0 := by simpa using hv
    exact ⟨none, [], 0, rfl, fun h => absurd h (Nat.not_lt_zero _), Nat.le_refl _⟩
  · obtain rfl : v = .slice (some a) len cap := by simpa using hv
    have hall : ∀ i, i < len → ∃ X : Int, W.cell? ((a.add (i * 1)).add 0) = some (.int .i64 X) := fun i hi => by
      have he := hc i hi
      rw [cellsIntN, List.getElem?_eq_getElem (by omega)] at he
      obtain ⟨cs, hcs, ht⟩ := Option.bind_eq_some_iff.1 he
      obtain ⟨_, hl, hg⟩ := World.cells?_some hcs
      obtain ⟨b, c1, _, _⟩ := DataW.trod_int Tryd.underlying3 ht
      exact ⟨b, by rw [hg 0 (by omega), c1]; rfl⟩
    obtain ⟨rs, hrl, hrs⟩ := list_ofN len hall
    subst hrl
    refine ⟨some a, rs, cap, rfl, fun hn => ?_, by omega⟩
    have h0 := hrs 0 _ (List.getElem?_eq_getElem hn)
    obtain ⟨g, off, spot⟩ := a
    have hspot : spot = none := by simpa [Addr.add] using World.cell?_spot h0
    subst hspot
    refine ⟨g, off, rfl, fun j x hx => ?_⟩
    have c0 := hrs j x hx
    rwa [add_atN, add_atN, Nat.mul_one, Nat.add_zero] at c0
theorem open_blks {fuel : Nat} {v : Value} {x : DataW H × List MemPlace} (h : DataW.trod enc Tryd.prog W 0 (fun _ => true) true fuel 26 [v] = some x) :
    ∃ (o : Option Addr) (bs : List (List Int)) (cap : Nat), v = .slice o bs.length cap ∧ BlksT W o bs := by
  rcases DataW.trod_slice Tryd.underlying26 h with ⟨hv, _⟩ | ⟨a, len, cap, elems, rest, n, _, hv, _, _, hle, hcap, hlen, hc, _, _⟩
  · obtain rfl : v = .slice none 0 0 := by simpa using hv
    exact ⟨none, [], 0, rfl, fun h => absurd h (Nat.not_lt_zero _)⟩
  · obtain rfl : v = .slice (some a) len cap := by simpa using hv
    have hall : ∀ i, i < len → ∃ X : List Int, ∃ so sc, W.cell? ((a.add (i * 1)).add 0) = some (.slice so X.length sc) ∧ X.length ≤ sc ∧ IntsT W so X := fun i hi => by
      have he := hc i hi
      rw [cellsInts, List.getElem?_eq_getElem (by omega)] at he
      obtain ⟨cs, hcs, ht⟩ := Option.bind_eq_some_iff.1 he
      obtain ⟨_, hl, hg⟩ := World.cells?_some hcs
      obtain ⟨c0, rfl⟩ := list1T hl
      obtain ⟨so, l, sc, rfl, hI, hsc⟩ := open_ints ht
      exact ⟨l, so, sc, by rw [hg 0 (by omega)]; rfl, hsc, hI⟩
    obtain ⟨rs, hrl, hrs⟩ := list_ofN len hall
    subst hrl
    refine ⟨some a, rs, cap, rfl, fun hn => ?_⟩
    obtain ⟨_, _, h0, _, _⟩ := hrs 0 _ (List.getElem?_eq_getElem hn)
    obtain ⟨g, off, spot⟩ := a
    have hspot : spot = none := by simpa [Addr.add] using World.cell?_spot h0
    subst hspot
    refine ⟨g, off, rfl, fun j x hx => ?_⟩
    obtain ⟨so, sc, c0, c1, c2⟩ := hrs j x hx
    rw [add_atN, add_atN, Nat.mul_one, Nat.add_zero] at c0
    exact ⟨so, sc, c0, c1, c2⟩
theorem open_trie {fuel : Nat} {cs : List Value} {x : DataW H × List MemPlace} (h : DataW.trod enc Tryd.prog W 0 (fun _ => true) true fuel 28 cs = some x) :
    ∃ (io bo : Option Addr) (t : TrieD) (ic bc : Nat), cs = [.slice io t.1.length ic, .slice bo t.2.length bc] ∧ TrieT W io bo t ∧ t.1.length ≤ ic := by
  obtain ⟨y0, y1, n, _, hl, h0, h1⟩ := trod_struct2 Tryd.underlying28 h
  rw [cellsTrie] at hl
  obtain ⟨k0, k1, rfl⟩ := list2T hl
  change DataW.trod enc Tryd.prog W 0 (fun _ => true) true n 25 (List.take (Tryd.prog.cellsOf 25) (List.drop 0 [k0, k1])) = _ at h0
  change DataW.trod enc Tryd.prog W 0 (fun _ => true) true n 26 (List.take (Tryd.prog.cellsOf 26) (List.drop 1 [k0, k1])) = _ at h1
  rw [cellsInts] at h0
  rw [cellsBlks] at h1
  obtain ⟨io, l, ic, rfl, hI, hic⟩ := open_ints (v := k0) h0
  obtain ⟨bo, bs, bc, rfl, hB⟩ := open_blks (v := k1) h1
  exact ⟨io, bo, (l, bs), ic, bc, rfl, ⟨hI, hB⟩, hic⟩
end
end Go.Proofs.YtlmkefmfhdjmmaaDoor
