/- What the cards' own ties give, of trie: the two sentinels, and the handle of the library's error; worlds for the witness. -/
import Derived.Test.YtlmkefmfhdjmmaaDoorBunN9
import Derived.Test.YtlmkefmfhdjmmaaDoorBunA1
import Derived.Stop.LaidTwo
namespace Go.Proofs.YtlmkefmfhdjmmaaDoor
open Go.ChangeShapes Go.WideShapes Go.ChangeAt Go.RowKit

theorem gRan : Tryd.prog.globalNamed "virama/trie.errRange" = some 0 := by kernel_rfl
theorem gTri : Tryd.prog.globalNamed "virama/trie.errTrie" = some 1 := by kernel_rfl
theorem gRanType : (Tryd.prog.globals[0]?).map (·.type) = some 51 := by kernel_rfl
theorem gTriType : (Tryd.prog.globals[1]?).map (·.type) = some 51 := by kernel_rfl
theorem cellsE : Tryd.prog.cellsOf 197 = 1 := by kernel_rfl
theorem cellsS : Tryd.prog.cellsOf 9 = 1 := by kernel_rfl
theorem starE : "*" ++ "errors.errorString" = "*errors.errorString" := by decide
theorem rowE (u : TypeId) (h : Tryd.prog.typeName? 3 u = some "*errors.errorString") : u = 176 :=
  typeName_ptr_named (nm := "errors.errorString") (by rw [starE]; kernel_rfl) (by kernel_rfl) (by decide) u (by rw [starE]; exact h)
abbrev laid2 : List (String × DataW Unit) := [("virama/trie.errRange", Rows.laid_virama_trie_errRange), ("virama/trie.errTrie", Rows.laid_virama_trie_errTrie)]
abbrev laid3 : List (String × DataW Unit) := [("errors.errorType", Rows.laid_errors_errorType), ("virama/trie.errRange", Rows.laid_virama_trie_errRange), ("virama/trie.errTrie", Rows.laid_virama_trie_errTrie)]
theorem glob_of_laid {W : World} (h : laidMetH Tryd.prog laid2 W) : ∃ aU aS, Glob W aU aS := by
  have h' : laidMet Tryd.prog laid2 W := h
  obtain ⟨a0, a1, s0, s1, c0, c1, t0, t1, hv0, hv1, hc0, hs0, hz0, hc1, hs1, hz1, hne, hb0, hb1⟩ :=
    laid_sentinels2 h' gRan gRanType gTri gTriType Tryd.underlying51 rowE Tryd.underlying176 Tryd.underlying197 rfl rfl Tryd.underlying9 cellsE cellsS
  have hS : W.cell? ⟨0, 0, none⟩ = some (errV a0) := by simpa using World.var?_cell gRan hv0 0
  have hU : W.cell? ⟨1, 0, none⟩ = some (errV a1) := by simpa using World.var?_cell gTri hv1 0
  have lt : ∀ {g : Nat} {v : Value}, W.cell? ⟨g, 0, none⟩ = some v → g < W.heap.size := by
    intro g v hc
    rcases Nat.lt_or_ge g W.heap.size with h1 | h1
    · exact h1
    · simp [World.cell?, Array.getElem?_eq_none h1] at hc
  exact ⟨a1, a0, hU, hS, Ne.symm hne, ⟨c1, t1, hb1⟩, ⟨c0, t0, hb0⟩, lt hU, lt hS⟩
theorem glob_of_laid3 {W : World} (h : laidMetH Tryd.prog laid3 W) : (∃ aU aS, Glob W aU aS) ∧ W.cell? ⟨2, 0, none⟩ = some (.iface 133 (.agg #[.pointer (some ⟨3, 51, none⟩)])) := by
  have h1 := laidMetH.filter (fun x => x.1 == "errors.errorType") h
  have h2 := laidMetH.filter (fun x => !(x.1 == "errors.errorType")) h
  exact ⟨glob_of_laid (show laidMetH Tryd.prog laid2 W from h2), et_of_laidN (show laidMetH Tryd.prog laidAN W from h1)⟩
noncomputable def low : Nat := (World.holding Tryd.prog default ⟨#[], #[], []⟩).heap.size
abbrev ranS : ByteArray := ⟨#[116, 114, 105, 101, 58, 32, 114, 97, 110, 103, 101, 115, 32, 116, 104, 97, 116, 32, 97, 114, 101, 32, 110, 111, 32, 109, 97, 112, 44, 32, 111, 114, 32, 116, 111, 111, 32, 109, 97, 110, 121, 32, 102, 111, 114, 32, 111, 110, 101]⟩
abbrev triS : ByteArray := ⟨#[116, 114, 105, 101, 58, 32, 97, 32, 116, 114, 105, 101, 32, 116, 104, 97, 116, 32, 105, 115, 32, 110, 111, 116, 32, 114, 105, 103, 104, 116]⟩
noncomputable def laidWorld2 (os : Os) : World :=
  let w0 := World.holding Tryd.prog os ⟨#[.cells #[.string ranS] 197, .cells #[.string triS] 197], #[], []⟩
  { w0 with heap := (w0.heap.modify 0 fun
      | .cells _ t frozen => .cells #[errV ⟨low, 0, none⟩] t frozen
      | o => o).modify 1 fun
      | .cells _ t frozen => .cells #[errV ⟨low + 1, 0, none⟩] t frozen
      | o => o }
theorem laidWorld2_os (os : Os) : (laidWorld2 os).os = os := rfl
theorem laid_met2 (os : Os) (args : Array Value) : laidMetH Tryd.prog laid2 ((laidWorld2 os).forCall (fun _ _ => 0) ⟨#[], args, []⟩).memory :=
  laidMet_of_run' 8 (by kernel_rfl) (by kernel_rfl)
noncomputable def laidWorld3 (os : Os) : World :=
  let w0 := laidWorld2 os
  { w0 with heap := w0.heap.modify 2 fun
      | .cells _ t frozen => .cells #[.iface 133 (.agg #[.pointer (some ⟨3, 51, none⟩)])] t frozen
      | o => o }
theorem laidWorld3_os (os : Os) : (laidWorld3 os).os = os := rfl
theorem laid_met2w (os : Os) (args : Array Value) : laidMet Tryd.prog laid2 ((laidWorld3 os).forCall (fun _ _ => 0) ⟨#[], args, []⟩).memory :=
  laidMet_of_run' 8 (by kernel_rfl) (by kernel_rfl)
set_option maxRecDepth 100000 in
theorem laid_met3 (os : Os) (args : Array Value) : laidMetH Tryd.prog laid3 ((laidWorld3 os).forCall (fun _ _ => 0) ⟨#[], args, []⟩).memory :=
  laidMetH_of_parts (laid_met2w os args) (by kernel_rfl)
end Go.Proofs.YtlmkefmfhdjmmaaDoor
