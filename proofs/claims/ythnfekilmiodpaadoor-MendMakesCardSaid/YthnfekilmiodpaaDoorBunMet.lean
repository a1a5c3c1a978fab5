/- What the card's own ties give: the two sentinels lie as they were laid; a world for the witness; the last step of each row. -/
import Derived.Test.YthnfekilmiodpaaDoorCards
import Derived.Test.YthnfekilmiodpaaDoorTie
import Derived.Test.YthnfekilmiodpaaDoorBunNext
import Derived.Test.YthnfekilmiodpaaDoorBunRow
import Derived.WalkKit
import Derived.ProofKit
import Derived.OpenShut
import Derived.Below
import Derived.ChangeSame
import Derived.Carry
import Derived.Deep.DeepHandedRow
import Derived.Deep.DeepWitnessRowRef
import Derived.Stop.LaidTwo
namespace Go.Proofs.YthnfekilmiodpaaDoor
open Go.ChangeShapes Go.WideShapes Go.ChangeAt Go.RowKit

theorem own : ownKnob Tryd.prog.godebug = none := by kernel_rfl
theorem gSca : Tryd.prog.globalNamed "virama/scalar.errScalar" = some 2 := by kernel_rfl
theorem gUtf : Tryd.prog.globalNamed "virama/scalar.errUtf" = some 1 := by kernel_rfl
theorem gScaType : (Tryd.prog.globals[2]?).map (·.type) = some 46 := by kernel_rfl
theorem gUtfType : (Tryd.prog.globals[1]?).map (·.type) = some 46 := by kernel_rfl
theorem cellsE : Tryd.prog.cellsOf 138 = 1 := by kernel_rfl
theorem cellsS : Tryd.prog.cellsOf 9 = 1 := by kernel_rfl
theorem starE : "*" ++ "errors.errorString" = "*errors.errorString" := by decide
theorem rowE (u : TypeId) (h : Tryd.prog.typeName? 3 u = some "*errors.errorString") : u = 113 :=
  typeName_ptr_named (nm := "errors.errorString") (by rw [starE]; kernel_rfl) (by kernel_rfl) (by decide) u (by rw [starE]; exact h)

abbrev laid2 : List (String × DataW Unit) := [("virama/scalar.errScalar", Rows.laid_virama_scalar_errScalar), ("virama/scalar.errUtf", Rows.laid_virama_scalar_errUtf)]

theorem glob_of_laid {W : World} (h : laidMetH Tryd.prog laid2 W) : ∃ aU aS, Glob W aU aS := by
  have h' : laidMet Tryd.prog laid2 W := h
  obtain ⟨a0, a1, s0, s1, c0, c1, t0, t1, hv0, hv1, hc0, hs0, hz0, hc1, hs1, hz1, hne, hb0, hb1⟩ :=
    laid_sentinels2 h' gSca gScaType gUtf gUtfType Tryd.underlying46 rowE Tryd.underlying113 Tryd.underlying138 rfl rfl Tryd.underlying9 cellsE cellsS
  have hS : W.cell? ⟨2, 0, none⟩ = some (errV a0) := by simpa using World.var?_cell gSca hv0 0
  have hU : W.cell? ⟨1, 0, none⟩ = some (errV a1) := by simpa using World.var?_cell gUtf hv1 0
  have lt : ∀ {g : Nat} {v : Value}, W.cell? ⟨g, 0, none⟩ = some v → g < W.heap.size := by
    intro g v hc
    rcases Nat.lt_or_ge g W.heap.size with h1 | h1
    · exact h1
    · simp [World.cell?, Array.getElem?_eq_none h1] at hc
  exact ⟨a1, a0, hU, hS, Ne.symm hne, ⟨c1, t1, hb1⟩, ⟨c0, t0, hb0⟩, lt hU, lt hS⟩

/-- A WORLD FOR THE WITNESS: the settled one, the two errors behind it, the two variables holding what their initialisers lay. -/
noncomputable def low : Nat := (World.holding Tryd.prog default ⟨#[], #[], []⟩).heap.size
abbrev scaS : ByteArray := ⟨#[115, 99, 97, 108, 97, 114, 58, 32, 97, 32, 110, 117, 109, 98, 101, 114, 32, 116, 104, 97, 116, 32, 105, 115, 32, 110, 111, 32, 115, 99, 97, 108, 97, 114]⟩
abbrev utfS : ByteArray := ⟨#[115, 99, 97, 108, 97, 114, 58, 32, 98, 121, 116, 101, 115, 32, 116, 104, 97, 116, 32, 97, 114, 101, 32, 110, 111, 32, 115, 99, 97, 108, 97, 114, 39, 115]⟩
noncomputable def laidWorld (os : Os) : World :=
  let w0 := World.holding Tryd.prog os ⟨#[.cells #[.string scaS] 138, .cells #[.string utfS] 138], #[], []⟩
  { w0 with heap := (w0.heap.modify 2 fun
      | .cells _ t frozen => .cells #[errV ⟨low, 0, none⟩] t frozen
      | o => o).modify 1 fun
      | .cells _ t frozen => .cells #[errV ⟨low + 1, 0, none⟩] t frozen
      | o => o }
theorem laid_met (os : Os) (args : Array Value) : laidMet Tryd.prog laid2 ((laidWorld os).forCall (fun _ _ => 0) ⟨#[], args, []⟩).memory :=
  laidMet_of_run' 8 (by kernel_rfl) (by kernel_rfl)

theorem in64_of_wf {n : Int} (h : (Lit.int .i64 n).wf = true) : In64 n := by
  simp only [Lit.wf, Bool.and_eq_true, decide_eq_true_eq] at h
  obtain ⟨h1, h2⟩ := h
  have e1 : IntKind.i64.min = -(2 ^ 63) := by decide
  have e2 : IntKind.i64.max = 2 ^ 63 - 1 := by decide
  rw [e1] at h1
  rw [e2] at h2
  exact ⟨h1, by omega⟩

/-- WHAT EACH ROW ASKS OF A CALL THAT ANSWERS true AND LEAVES WHAT LAY BEFORE IT AS IT LAY. -/
theorem true_post {H : Type} {enc : TypeId × Value → H} {f : Func} {s : ChangeSpec} {W W' : World} {args : Array Value} {ds gs : List (DataW H)} {before : List MemPlace}
    (hW : DataW.Whole enc Tryd.prog f.params.toList s.vars false W args.toList ds gs before) (hr : f.resultTypes = #[4]) (hfn : s.fn H (ds ++ gs) = { results := [.lit (.bool true)], args := ds }) (hv : s.vars = [])
    (hargs : DataW.TrodAll enc Tryd.prog W' 0 (fun b => decide (b < W.heap.size)) true f.params.toList args.toList ds before) (hb : Below W.heap.size W W') :
    s.post enc Tryd.prog f false true false false W args (.bool true) W' := by
  refine ⟨ds, gs, before, [], before, [], hW, ?_, ?_, ?_, ?_, fun h => by cases h⟩
  · rw [hr, hfn]
    exact trodAll_cons_mk (shut_bool Tryd.underlying4 _) trodAll_mk0
  · rw [hfn]
    exact hargs
  · rw [hv, hfn]
    rfl
  · exact World.keptBut_mono (fun p hp => ⟨hp, .inr (.inl hp)⟩) (hb.frame (· ∈ before))
end Go.Proofs.YthnfekilmiodpaaDoor

