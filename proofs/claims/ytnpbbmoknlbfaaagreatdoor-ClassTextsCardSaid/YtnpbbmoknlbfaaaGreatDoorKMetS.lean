/- Texts handed in, opened. -/
import Derived.Test.YtnpbbmoknlbfaaaGreatDoorKMet
import Derived.Test.YtnpbbmoknlbfaaaGreatDoorKFew
import Derived.ChangeMaps5
namespace Go.Proofs.YtnpbbmoknlbfaaaGreatDoor
open Go.ChangeShapes Go.WideShapes Go.ChangeAt Go.RowKit Go.Shelf Go.ChangeMaps
theorem cellsStrK : Tryz.prog.cellsOf 9 = 1 := by kernel_rfl
section
variable {H : Type} {enc : TypeId × Value → H} {W : World}
theorem open_namesK {fuel : Nat} {v : Value} {x : DataW H × List MemPlace} (h : DataW.trod enc Tryz.prog W 0 (fun _ => true) true fuel 33 [v] = some x) :
    ∃ (o : Option Addr) (ns : List ByteArray) (cap : Nat), v = .slice o ns.length cap ∧ TxtAt W o ns ∧ ns.length ≤ 9223372036854775807 := by
  have hm : maxLen = 9223372036854775807 := rfl
  rcases open_strings Tryz.underlying33 Tryz.underlying9 cellsStrK h with ⟨hv, _⟩ | ⟨a, len, cap, ss, hv, _, hle, hcap, hlen, _, hc, _⟩
  · obtain rfl : v = .slice none 0 0 := by simpa using hv
    exact ⟨none, [], 0, rfl, fun h => absurd h (Nat.not_lt_zero _), Nat.zero_le _⟩
  · obtain rfl : v = .slice (some a) len cap := by simpa using hv
    simp only [if_true] at hlen
    have hl : (ss.take len).length = len := by rw [List.length_take]; omega
    refine ⟨some a, ss.take len, cap, by rw [hl], fun hn => ?_, by omega⟩
    rw [hl] at hn
    have h0 := hc 0 (by omega)
    obtain ⟨g, off, spot⟩ := a
    have hspot : spot = none := by simpa [Addr.add] using World.cell?_spot h0
    subst hspot
    refine ⟨g, off, rfl, fun j y hy => ?_⟩
    have hj := (List.getElem?_eq_some_iff.1 hy).1
    rw [hl] at hj
    have := hc j (by omega)
    rw [add_atK] at this
    rw [this]
    have hy2 : ss[j]? = some y := by rw [List.getElem?_take_of_lt hj] at hy; exact hy
    simp [List.getD, hy2]
end
end Go.Proofs.YtnpbbmoknlbfaaaGreatDoor
