/- What the cards' own ties give, where mend's error lies with the two of scalar: as XMet, with three. What the laws of mend share. -/
import Derived.Test.YthnfekilmiodpaaDoorBunMet
import Derived.Test.YthnfekilmiodpaaDoorBunUMap
import Derived.Test.YthnfekilmiodpaaDoorBunUNext
import Derived.Test.YthnfekilmiodpaaDoorBunUnit
namespace Go.Proofs.YthnfekilmiodpaaDoor
open Go.ChangeShapes Go.WideShapes Go.ChangeAt Go.RowKit

theorem gPla : Tryd.prog.globalNamed "virama/mend.errPlace" = some 0 := by kernel_rfl
theorem gPlaType : (Tryd.prog.globals[0]?).map (·.type) = some 46 := by kernel_rfl
abbrev laid3 : List (String × DataW Unit) := [("virama/scalar.errScalar", Rows.laid_virama_scalar_errScalar), ("virama/scalar.errUtf", Rows.laid_virama_scalar_errUtf), ("virama/mend.errPlace", Rows.laid_virama_mend_errPlace)]
theorem laidMet_tail {P : Program} {x : String × DataW Unit} {r : List (String × DataW Unit)} {W : World} (h : laidMet P (x :: r) W) : laidMet P r W := by
  obtain ⟨ps, ⟨g0, t0, cs0, f0, p0, q0, hg0, ht0, hv0, hd0, hrest, e0⟩, hnd, hrows⟩ := h
  subst e0
  exact ⟨q0, hrest, (List.nodup_append.1 hnd).2.1, fun b off hm => hrows b off (List.mem_append_right _ hm)⟩
theorem glob_of_laid3 {W : World} (h : laidMetH Tryd.prog laid3 W) : ∃ aU aS aP, Glob W aU aS ∧ Place W aP := by
  have h' : laidMet Tryd.prog laid3 W := h
  obtain ⟨a0, a1, s0, s1, c0, c1, t0, t1, hv0, hv1, hc0, hs0, hz0, hc1, hs1, hz1, hne, hb0, hb1⟩ :=
    laid_sentinels2 h' gSca gScaType gUtf gUtfType Tryd.underlying46 rowE Tryd.underlying113 Tryd.underlying138 rfl rfl Tryd.underlying9 cellsE cellsS
  obtain ⟨b0, b1, _, _, _, _, _, _, _, hw1, _⟩ :=
    laid_sentinels2 (laidMet_tail h') gUtf gUtfType gPla gPlaType Tryd.underlying46 rowE Tryd.underlying113 Tryd.underlying138 rfl rfl Tryd.underlying9 cellsE cellsS
  have hS : W.cell? ⟨2, 0, none⟩ = some (errV a0) := by simpa using World.var?_cell gSca hv0 0
  have hU : W.cell? ⟨1, 0, none⟩ = some (errV a1) := by simpa using World.var?_cell gUtf hv1 0
  have hP : W.cell? ⟨0, 0, none⟩ = some (errV b1) := by simpa using World.var?_cell gPla hw1 0
  have lt : ∀ {g : Nat} {v : Value}, W.cell? ⟨g, 0, none⟩ = some v → g < W.heap.size := by
    intro g v hc
    rcases Nat.lt_or_ge g W.heap.size with h1 | h1
    · exact h1
    · simp [World.cell?, Array.getElem?_eq_none h1] at hc
  exact ⟨a1, a0, b1, ⟨hU, hS, Ne.symm hne, ⟨c1, t1, hb1⟩, ⟨c0, t0, hb0⟩, lt hU, lt hS⟩, ⟨hP⟩⟩

abbrev placeS : ByteArray := ⟨#[109, 101, 110, 100, 58, 32, 97, 32, 112, 108, 97, 99, 101, 32, 119, 104, 101, 114, 101, 32, 110, 111, 32, 117, 110, 105, 116, 32, 98, 101, 103, 105, 110, 115, 44, 32, 111, 114, 32, 101, 110, 100, 115]⟩
noncomputable def laidWorld3 (os : Os) : World :=
  let w0 := World.holding Tryd.prog os ⟨#[.cells #[.string scaS] 138, .cells #[.string utfS] 138, .cells #[.string placeS] 138], #[], []⟩
  { w0 with heap := ((w0.heap.modify 2 fun
      | .cells _ t frozen => .cells #[errV ⟨low, 0, none⟩] t frozen
      | o => o).modify 1 fun
      | .cells _ t frozen => .cells #[errV ⟨low + 1, 0, none⟩] t frozen
      | o => o).modify 0 fun
      | .cells _ t frozen => .cells #[errV ⟨low + 2, 0, none⟩] t frozen
      | o => o }
theorem laid_met3 (os : Os) (args : Array Value) : laidMet Tryd.prog laid3 ((laidWorld3 os).forCall (fun _ _ => 0) ⟨#[], args, []⟩).memory :=
  laidMet_of_run' 8 (by kernel_rfl) (by kernel_rfl)
end Go.Proofs.YthnfekilmiodpaaDoor

namespace Go.Proofs.YthnfekilmiodpaaDoor
open Go.RowKit

/-- The mended text. -/
def repS (s : ByteArray) : ByteArray := ⟨(repL s.data.toList).toArray⟩
theorem repS_list (s : ByteArray) : (repS s).data.toList = repL s.data.toList := rfl
theorem bytes_of {s t : ByteArray} (h : s.data.toList = t.data.toList) : s = t := by
  have h2 : s.data = t.data := Array.toList_inj.1 h
  cases s; cases t; simp_all
theorem repS_repS (s : ByteArray) : repS (repS s) = repS s := bytes_of (by rw [repS_list, repS_list, rep_rep])
theorem repS_valid {s : ByteArray} (h : validL s.data.toList = true) : repS s = s := bytes_of (by rw [repS_list]; exact (rep_valid _ h).1)
theorem repS_bad {s : ByteArray} (h : validL s.data.toList = false) : repS s ≠ s := by
  intro e
  have := validL_rep s.data.toList
  rw [← repS_list, e, h] at this
  cases this
theorem repS_is (s : ByteArray) : validL (repS s).data.toList = true := validL_rep _
theorem rep_len (l : List UInt8) : (repL l).length ≤ 4 * l.length := by
  have h1 := uevs_length 0 l
  have h2 := repOf_le l (uevs 0 l) fun x hx => (uevs_mem 0 l x hx).2.2.2
  unfold repOf at h2
  unfold repL
  omega
theorem repS_size (s : ByteArray) : (repS s).size ≤ 4 * s.size := by
  have h1 := rep_len s.data.toList
  have h2 : (repS s).size = (repL s.data.toList).length := by
    have : (repS s).data.toList.length = (repS s).size := Array.length_toList
    rw [← this, repS_list]
  have h3 : s.data.toList.length = s.size := Array.length_toList
  omega
theorem repair_s (s : ByteArray) (hs : s.size ≤ 50000) (w : World) (aU aS : Addr) (hG : Glob w aU aS) :
    Calls Tryd.prog 15 #[.string s] w fun e w' => e = .returned (.string (repS s)) ∧ Below w.heap.size w w' := repair_any s hs w aU aS hG
theorem toList_ne {s t : ByteArray} (h : s ≠ t) : (s.toList == t.toList) = false := by
  rw [beq_eq_false_iff_ne, Lib.toList_data, Lib.toList_data]
  exact fun e => h (bytes_of e)
end Go.Proofs.YthnfekilmiodpaaDoor

