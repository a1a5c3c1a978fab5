/- What the cards' own ties give, of class: what the library's variables hold that the calls look at; a world for the witness; the last step of each row. -/
import Derived.Test.YtnpbbmoknlbfaaaGreatDoorKShown
import Derived.Test.YtnpbbmoknlbfaaaGreatDoorCards
import Derived.Test.YtnpbbmoknlbfaaaGreatDoorTie
import Derived.Test.YtnpbbmoknlbfaaaGreatDoorChecked
import Derived.ProofKit
import Derived.OpenShut
import Derived.Below
import Derived.ChangeSame
import Derived.Carry
import Derived.Deep.DeepHandedRow
import Derived.Deep.DeepWitnessRowRef
import Derived.LaidSub
import Derived.LaidHandle
import Derived.Lay
import Derived.MakeChecks
import Derived.Shelf.Vars
import Derived.LaidMore
namespace Go.Proofs.YtnpbbmoknlbfaaaGreatDoor
open Go.ChangeShapes Go.WideShapes Go.ChangeAt Go.RowKit

theorem ownK : ownKnob Tryz.prog.godebug = none := by kernel_rfl
abbrev laidPK : List (String × DataW Unit) := [("math/bits.deBruijn32tab", Rows.laid_math_bits_deBruijn32tab), ("math/bits.deBruijn64tab", Rows.laid_math_bits_deBruijn64tab), ("internal/strconv.uint64pow10", Rows.laid_internal_strconv_uint64pow10), ("unicode/utf8.acceptRanges", Rows.laid_unicode_utf8_acceptRanges), ("unicode/utf8.first", Rows.laid_unicode_utf8_first)]
abbrev laidAK : List (String × DataW Unit) := [("math/bits.deBruijn32tab", Rows.laid_math_bits_deBruijn32tab), ("math/bits.deBruijn64tab", Rows.laid_math_bits_deBruijn64tab), ("internal/strconv.uint64pow10", Rows.laid_internal_strconv_uint64pow10), ("unicode/utf8.acceptRanges", Rows.laid_unicode_utf8_acceptRanges), ("errors.errorType", Rows.laid_errors_errorType), ("unicode/utf8.first", Rows.laid_unicode_utf8_first)]
theorem gEtK : Tryz.prog.globalNamed "errors.errorType" = some 2 := by kernel_rfl
theorem rtNK : (Tryz.prog.cutTypes.find? (·.1 == "internal/reflectlite.rtype")).map (·.2) = some 170 := by kernel_rfl
theorem typesNK : Tryz.prog.types.size = 266 := by kernel_rfl
theorem oneRowK : ((List.range 266).filter fun t => Tryz.prog.rowNamed t [101, 114, 114, 111, 114]) = [65] := by kernel_rfl

theorem et_of_laidK {W : World} (h : laidMetH Tryz.prog laidAK W) : W.cell? ⟨2, 0, none⟩ = some (.iface 170 (.agg #[.pointer (some ⟨9, 65, none⟩)])) := by
  have h1 := laidMetH.filter (fun x => x.1 == "errors.errorType") h
  have h2 : laidMetH Tryz.prog [("errors.errorType", Rows.laid_errors_errorType)] W := h1
  have h' : laidMet Tryz.prog [] W ∧ handlesMet Tryz.prog [("errors.errorType", Rows.laid_errors_errorType)] W := h2
  obtain ⟨name, u, ty, e1, e2, e3, e4, e5⟩ := h'.2 _ (List.mem_singleton.2 rfl)
  have en : name = [101, 114, 114, 111, 114] := (Option.some.inj e1).symm
  subst en
  obtain rfl := Option.some.inj (rtNK.symm.trans e2)
  have hm : ty ∈ (List.range 266).filter fun t => Tryz.prog.rowNamed t [101, 114, 114, 111, 114] := List.mem_filter.2 ⟨List.mem_range.2 (by rw [← typesNK]; exact e3), e4⟩
  rw [oneRowK] at hm
  obtain rfl := List.mem_singleton.1 hm
  have hh : typeHandle Tryz.prog 65 = .pointer (some ⟨9, 65, none⟩) := by kernel_rfl
  rw [hh] at e5
  simpa using World.var?_cell gEtK e5 0
theorem gTabKM : Tryz.prog.globalNamed "internal/strconv.uint64pow10" = some 3 := by kernel_rfl
theorem tab_typeKM : (Tryz.prog.globals[3]?).map (·.type) = some 218 := by kernel_rfl
theorem kglob_of {W : World} (h : laidMetH Tryz.prog laidAK W) : KGlob W := by
  refine ⟨et_of_laidK h, ?_⟩
  have h1 := laidMetH.filter (fun x => x.1 == "internal/strconv.uint64pow10") h
  have h2 : laidMetH Tryz.prog [("internal/strconv.uint64pow10", Rows.laid_internal_strconv_uint64pow10)] W := h1
  rw [MakeChecks.laidMetH_plain _ _ _ (by kernel_rfl)] at h2
  exact Lib.tabIs_of_head gTabKM tab_typeKM Tryz.underlying218 Tryz.underlying183 (by kernel_rfl) (by kernel_rfl) h2

/-- A WORLD FOR THE WITNESS: the settled one, the handle laid, the tables laid. -/
noncomputable def baseWorldK (os : Os) : World :=
  let w0 := World.holding Tryz.prog os ⟨#[], #[], []⟩
  { w0 with heap := w0.heap.modify 2 fun
      | .cells _ t frozen => .cells #[.iface 170 (.agg #[.pointer (some ⟨9, 65, none⟩)])] t frozen
      | o => o }
noncomputable def laidWorldK (os : Os) : World := (baseWorldK os).layVars Tryz.prog laidPK
theorem laidWorld_osK (os : Os) : (laidWorldK os).os = os := World.layVars_os _ _ _
set_option maxRecDepth 100000 in
theorem laid_met_wK (os : Os) : laidMet Tryz.prog laidPK (laidWorldK os) :=
  laidMet_layVars (w0 := baseWorldK os) (laidPK.map (·.1)) [] (by kernel_rfl) (by kernel_rfl) (by kernel_rfl) LaidIn.none
set_option maxRecDepth 100000 in
theorem laid_metK (os : Os) (args : Array Value) : laidMetH Tryz.prog laidAK ((laidWorldK os).forCall (fun _ _ => 0) ⟨#[], args, []⟩).memory :=
  laidMetH_of_parts ((laid_met_wK os).of_heap (by simp [World.memory, World.forCall, Input.heap])) (by kernel_rfl)

/-- WHAT EACH ROW ASKS OF A CALL THAT ANSWERS true AND LEAVES WHAT LAY BEFORE IT AS IT LAY. -/
theorem true_postK {H : Type} {enc : TypeId × Value → H} {f : Func} {s : ChangeSpec} {W W' : World} {args : Array Value} {ds gs : List (DataW H)} {before : List MemPlace}
    (hW : DataW.Whole enc Tryz.prog f.params.toList s.vars false W args.toList ds gs before) (hr : f.resultTypes = #[4]) (hfn : s.fn H (ds ++ gs) = { results := [.lit (.bool true)], args := ds }) (hv : s.vars = [])
    (hargs : DataW.TrodAll enc Tryz.prog W' 0 (fun b => decide (b < W.heap.size)) true f.params.toList args.toList ds before) (hb : Below W.heap.size W W') :
    s.post enc Tryz.prog f false true false false W args (.bool true) W' := by
  refine ⟨ds, gs, before, [], before, [], hW, ?_, ?_, ?_, ?_, fun h => by cases h⟩
  · rw [hr, hfn]
    exact trodAll_cons_mk (shut_bool Tryz.underlying4 _) trodAll_mk0
  · rw [hfn]
    exact hargs
  · rw [hv, hfn]
    rfl
  · exact World.keptBut_mono (fun p hp => ⟨hp, .inr (.inl hp)⟩) (hb.frame (· ∈ before))

/-- Numbers that came in, wherever they lie. -/
def NumsIn (w : World) (o : Option Addr) (l : List Int) : Prop := NumsAt w o l ∧ ∀ c ∈ l, In64K c
theorem in64_wfK {n : Int} (h : (Lit.int .i64 n).wf = true) : In64K n := by
  simp [Lit.wf, IntKind.min, IntKind.max, IntKind.signed, IntKind.bits] at h
  exact h
theorem list_ofK {α : Type} {Q : Nat → α → Prop} : ∀ n : Nat, (∀ i, i < n → ∃ x, Q i x) → ∃ l : List α, l.length = n ∧ ∀ i x, l[i]? = some x → Q i x
  | 0, _ => ⟨[], rfl, fun i x h => by simp at h⟩
  | n + 1, h => by
    obtain ⟨l, hl, hq⟩ := list_ofK n fun i hi => h i (by omega)
    obtain ⟨y, hy⟩ := h n (by omega)
    refine ⟨l ++ [y], by simp [hl], fun i x hx => ?_⟩
    rcases Nat.lt_or_ge i l.length with hi | hi
    · rw [List.getElem?_append_left hi] at hx
      exact hq i x hx
    · rw [List.getElem?_append_right hi] at hx
      have hi2 : i - l.length = 0 := by
        have := (List.getElem?_eq_some_iff.1 hx).1
        simp at this
        omega
      rw [hi2] at hx
      cases hx
      rw [show i = n from by omega]
      exact hy
theorem add_atK (g off k : Nat) : (⟨g, off, none⟩ : Addr).add k = ⟨g, off + k, none⟩ := by unfold Addr.add; split <;> simp_all
theorem cellsIntK : Tryz.prog.cellsOf 3 = 1 := by kernel_rfl
section
variable {H : Type} {enc : TypeId × Value → H} {W : World}
theorem open_intsK {fuel : Nat} {v : Value} {x : DataW H × List MemPlace} (h : DataW.trod enc Tryz.prog W 0 (fun _ => true) true fuel 22 [v] = some x) :
    ∃ (o : Option Addr) (l : List Int) (cap : Nat), v = .slice o l.length cap ∧ NumsIn W o l ∧ l.length ≤ cap := by
  rcases DataW.trod_slice Tryz.underlying22 h with ⟨hv, _⟩ | ⟨a, len, cap, elems, rest, n, _, hv, _, _, hle, hcap, hlen, hc, _, _⟩
  · obtain rfl : v = .slice none 0 0 := by simpa using hv
    exact ⟨none, [], 0, rfl, ⟨fun h => absurd h (Nat.not_lt_zero _), fun c h => by cases h⟩, Nat.le_refl _⟩
  · obtain rfl : v = .slice (some a) len cap := by simpa using hv
    have hall : ∀ i, i < len → ∃ X : Int, W.cell? ((a.add (i * 1)).add 0) = some (.int .i64 X) ∧ In64K X := fun i hi => by
      have he := hc i hi
      rw [cellsIntK, List.getElem?_eq_getElem (by omega)] at he
      obtain ⟨cs, hcs, ht⟩ := Option.bind_eq_some_iff.1 he
      obtain ⟨_, hl, hg⟩ := World.cells?_some hcs
      obtain ⟨b, c1, _, cw⟩ := DataW.trod_int Tryz.underlying3 ht
      exact ⟨b, by rw [hg 0 (by omega), c1]; rfl, in64_wfK cw⟩
    obtain ⟨rs, hrl, hrs⟩ := list_ofK len hall
    subst hrl
    refine ⟨some a, rs, cap, rfl, ⟨fun hn => ?_, fun c hc => by obtain ⟨i, hi⟩ := List.getElem?_of_mem hc; exact (hrs i c hi).2⟩, by omega⟩
    have h0 := (hrs 0 _ (List.getElem?_eq_getElem hn)).1
    obtain ⟨g, off, spot⟩ := a
    have hspot : spot = none := by simpa [Addr.add] using World.cell?_spot h0
    subst hspot
    refine ⟨g, off, rfl, fun j x hx => ?_⟩
    have c0 := (hrs j x hx).1
    rwa [add_atK, add_atK, Nat.mul_one, Nat.add_zero] at c0
end
end Go.Proofs.YtnpbbmoknlbfaaaGreatDoor
