/- What the cards' own ties give, of pattern: the two sentinels, the handle of the library's error; a world for the witness; openings of arguments; the last step of each row. Cut, few: the first items, the first numbers. Few of the laws: the first rules, each side cut. The document's own worth, Right, Has, Of, Classes, Not. shown of the laws: boundaries are known. An argument []api.Rule, opened; the cell of bytealg.MaxLen. -/
import Derived.Test.YtnmhdcbpbaanoaaGreatDoorBunA23
import Derived.Test.YtnmhdcbpbaanoaaGreatDoorCards
import Derived.Test.YtnmhdcbpbaanoaaGreatDoorTie
import Derived.Test.YtnmhdcbpbaanoaaGreatDoorChecked
import Derived.ProofKit
import Derived.OpenShut
import Derived.Below
import Derived.ChangeSame
import Derived.ChangeMaps5
import Derived.Carry
import Derived.Deep.DeepHandedRow
import Derived.Deep.DeepWitnessRowRef
import Derived.LaidSub
import Derived.LaidHandle
import Derived.Lay
import Derived.MakeChecks
import Derived.Shelf.Vars
import Derived.LaidMore
import Derived.Stop.LaidTwo
import Derived.Test.YtnmhdcbpbaanoaaGreatDoorBunA12
import Derived.Test.YtnmhdcbpbaanoaaGreatDoorBunA21
import Derived.Test.YtnmhdcbpbaanoaaGreatDoorBunA14
namespace Go.Proofs.YtnmhdcbpbaanoaaGreatDoor
open Go.ChangeShapes Go.WideShapes Go.ChangeAt Go.RowKit Go.ChangeMaps Go.Shelf

theorem ownQ : ownKnob Tryz.prog.godebug = none := by kernel_rfl
theorem gArgQ : Tryz.prog.globalNamed "virama/pattern.errArg" = some 1 := by kernel_rfl
theorem gPatQ : Tryz.prog.globalNamed "virama/pattern.errPattern" = some 2 := by kernel_rfl
theorem gArgTypeQ : (Tryz.prog.globals[1]?).map (·.type) = some 58 := by kernel_rfl
theorem gPatTypeQ : (Tryz.prog.globals[2]?).map (·.type) = some 58 := by kernel_rfl
theorem cellsEQ : Tryz.prog.cellsOf 292 = 1 := by kernel_rfl
theorem cellsSQ : Tryz.prog.cellsOf 9 = 1 := by kernel_rfl
theorem starEQ : "*" ++ "errors.errorString" = "*errors.errorString" := by decide
theorem rowEQ (u : TypeId) (h : Tryz.prog.typeName? 3 u = some "*errors.errorString") : u = 274 :=
  typeName_ptr_named (nm := "errors.errorString") (by rw [starEQ]; kernel_rfl) (by kernel_rfl) (by decide) u (by rw [starEQ]; exact h)
abbrev laid2Q : List (String × DataW Unit) := [("virama/pattern.errArg", Rows.laid_virama_pattern_errArg), ("virama/pattern.errPattern", Rows.laid_virama_pattern_errPattern)]
abbrev laidPQ : List (String × DataW Unit) := [("unicode/utf8.acceptRanges", Rows.laid_unicode_utf8_acceptRanges), ("virama/pattern.errArg", Rows.laid_virama_pattern_errArg), ("virama/pattern.errPattern", Rows.laid_virama_pattern_errPattern), ("unicode/utf8.first", Rows.laid_unicode_utf8_first)]
abbrev laidTQ : List (String × DataW Unit) := [("unicode/utf8.acceptRanges", Rows.laid_unicode_utf8_acceptRanges), ("unicode/utf8.first", Rows.laid_unicode_utf8_first)]
abbrev laidAQ : List (String × DataW Unit) := [("unicode/utf8.acceptRanges", Rows.laid_unicode_utf8_acceptRanges), ("errors.errorType", Rows.laid_errors_errorType), ("virama/pattern.errArg", Rows.laid_virama_pattern_errArg), ("virama/pattern.errPattern", Rows.laid_virama_pattern_errPattern), ("unicode/utf8.first", Rows.laid_unicode_utf8_first)]
theorem gEtQ : Tryz.prog.globalNamed "errors.errorType" = some 0 := by kernel_rfl
theorem rtNQ : (Tryz.prog.cutTypes.find? (·.1 == "internal/reflectlite.rtype")).map (·.2) = some 183 := by kernel_rfl
theorem typesNQ : Tryz.prog.types.size = 304 := by kernel_rfl
theorem oneRowQ : ((List.range 304).filter fun t => Tryz.prog.rowNamed t [101, 114, 114, 111, 114]) = [58] := by kernel_rfl
theorem et_of_laidQ {W : World} (h : laidMetH Tryz.prog laidAQ W) : W.cell? ⟨0, 0, none⟩ = some (.iface 183 (.agg #[.pointer (some ⟨6, 58, none⟩)])) := by
  have h1 := laidMetH.filter (fun x => x.1 == "errors.errorType") h
  have h2 : laidMetH Tryz.prog [("errors.errorType", Rows.laid_errors_errorType)] W := h1
  have h' : laidMet Tryz.prog [] W ∧ handlesMet Tryz.prog [("errors.errorType", Rows.laid_errors_errorType)] W := h2
  obtain ⟨name, u, ty, e1, e2, e3, e4, e5⟩ := h'.2 _ (List.mem_singleton.2 rfl)
  have en : name = [101, 114, 114, 111, 114] := (Option.some.inj e1).symm
  subst en
  obtain rfl := Option.some.inj (rtNQ.symm.trans e2)
  have hm : ty ∈ (List.range 304).filter fun t => Tryz.prog.rowNamed t [101, 114, 114, 111, 114] := List.mem_filter.2 ⟨List.mem_range.2 (by rw [← typesNQ]; exact e3), e4⟩
  rw [oneRowQ] at hm
  obtain rfl := List.mem_singleton.1 hm
  have hh : typeHandle Tryz.prog 58 = .pointer (some ⟨6, 58, none⟩) := by kernel_rfl
  rw [hh] at e5
  simpa using World.var?_cell gEtQ e5 0
theorem kglob_ofQ {W : World} (h : laidMetH Tryz.prog laidAQ W) : KGlob W := ⟨et_of_laidQ h⟩
theorem glob_ofQ {W : World} (h : laidMetH Tryz.prog laidAQ W) : ∃ aU aS, GlobQ W aU aS := by
  have h1 := laidMetH.filter (fun x => x.1 == "virama/pattern.errArg" || x.1 == "virama/pattern.errPattern") h
  have h2 : laidMetH Tryz.prog laid2Q W := h1
  have h' : laidMet Tryz.prog laid2Q W := h2
  obtain ⟨a0, a1, s0, s1, c0, c1, t0, t1, hv0, hv1, hc0, hs0, hz0, hc1, hs1, hz1, hne, hb0, hb1⟩ :=
    laid_sentinels2 h' gArgQ gArgTypeQ gPatQ gPatTypeQ Tryz.underlying58 rowEQ Tryz.underlying274 Tryz.underlying292 rfl rfl Tryz.underlying9 cellsEQ cellsSQ
  have hS : W.cell? ⟨1, 0, none⟩ = some (errVQ a0) := by simpa using World.var?_cell gArgQ hv0 0
  have hU : W.cell? ⟨2, 0, none⟩ = some (errVQ a1) := by simpa using World.var?_cell gPatQ hv1 0
  have lt : ∀ {g : Nat} {v : Value}, W.cell? ⟨g, 0, none⟩ = some v → g < W.heap.size := by
    intro g v hc
    rcases Nat.lt_or_ge g W.heap.size with h1 | h1
    · exact h1
    · simp [World.cell?, Array.getElem?_eq_none h1] at hc
  exact ⟨a1, a0, hU, hS, Ne.symm hne, ⟨c1, t1, hb1⟩, ⟨c0, t0, hb0⟩, lt hU, lt hS⟩

/-- A WORLD FOR THE WITNESS. -/
noncomputable def lowQ : Nat := (World.holding Tryz.prog default ⟨#[], #[], []⟩).heap.size
abbrev argSQ : ByteArray := ⟨#[112, 97, 116, 116, 101, 114, 110, 58, 32, 110, 97, 109, 101, 115, 32, 116, 104, 97, 116, 32, 97, 114, 101, 32, 110, 111, 110, 101]⟩
abbrev patSQ : ByteArray := ⟨#[112, 97, 116, 116, 101, 114, 110, 58, 32, 97, 32, 112, 97, 116, 116, 101, 114, 110, 32, 116, 104, 97, 116, 32, 105, 115, 32, 110, 111, 116, 32, 114, 105, 103, 104, 116, 44, 32, 111, 114, 32, 97, 32, 116, 101, 120, 116, 32, 116, 104, 97, 116, 32, 105, 115, 32, 110, 111, 110, 101, 39, 115]⟩
noncomputable def baseWorldQ (os : Os) : World :=
  let w0 := World.holding Tryz.prog os ⟨#[.cells #[.string argSQ] 292, .cells #[.string patSQ] 292], #[], []⟩
  { w0 with heap := ((w0.heap.modify 1 fun
      | .cells _ t frozen => .cells #[errVQ ⟨lowQ, 0, none⟩] t frozen
      | o => o).modify 2 fun
      | .cells _ t frozen => .cells #[errVQ ⟨lowQ + 1, 0, none⟩] t frozen
      | o => o).modify 0 fun
      | .cells _ t frozen => .cells #[.iface 183 (.agg #[.pointer (some ⟨6, 58, none⟩)])] t frozen
      | o => o }
noncomputable def laidWorldQ (os : Os) : World := (baseWorldQ os).layVars Tryz.prog laidTQ
theorem laidWorld_osQ (os : Os) : (laidWorldQ os).os = os := World.layVars_os _ _ _
set_option maxRecDepth 100000 in
theorem laid_met_wQ (os : Os) (args : Array Value) : laidMet Tryz.prog laidPQ ((laidWorldQ os).forCall (fun _ _ => 0) ⟨#[], args, []⟩).memory :=
  laidMet_of_run' 8 (by kernel_rfl) (by kernel_rfl)
set_option maxRecDepth 100000 in
theorem laid_metQ (os : Os) (args : Array Value) : laidMetH Tryz.prog laidAQ ((laidWorldQ os).forCall (fun _ _ => 0) ⟨#[], args, []⟩).memory :=
  laidMetH_of_parts (laid_met_wQ os args) (by kernel_rfl)

/-- WHAT EACH ROW ASKS OF A CALL THAT ANSWERS true AND LEAVES WHAT LAY BEFORE IT AS IT LAY. -/
theorem true_postQ {H : Type} {enc : TypeId × Value → H} {f : Func} {s : ChangeSpec} {W W' : World} {args : Array Value} {ds gs : List (DataW H)} {before : List MemPlace}
    (hW : DataW.Whole enc Tryz.prog f.params.toList s.vars false W args.toList ds gs before) (hr : f.resultTypes = #[4]) (hfn : s.fn H (ds ++ gs) = { results := [.lit (.bool true)], args := ds }) (hv : s.vars = [])
    (hargs : DataW.TrodAll enc Tryz.prog W' 0 (fun b => decide (b < W.heap.size)) true f.params.toList args.toList ds before) (hb : Below W.heap.size W W') :
    s.post enc Tryz.prog f false true false false W args (.bool true) W' := by
  refine ⟨ds, gs, before, [], before, [], hW, ?_, ?_, ?_, ?_, fun h => by cases h⟩
  · rw [hr, hfn]
    exact trodAll_cons_mk (shut_bool Tryz.underlying4 _) trodAll_mk0
  · rw [hfn]
    exact hargs
  · rw [hv, hfn]
    rfl
  · exact World.keptBut_mono (fun p hp => ⟨hp, .inr (.inl hp)⟩) (hb.frame (· ∈ before))

/-- Numbers that came in, wherever they lie. -/
def NumsInQ (w : World) (o : Option Addr) (l : List Int) : Prop := NumsAt w o l ∧ ∀ c ∈ l, In64K c
theorem in64_wfQ {n : Int} (h : (Lit.int .i64 n).wf = true) : In64K n := by
  simp [Lit.wf, IntKind.min, IntKind.max, IntKind.signed, IntKind.bits] at h
  exact h
theorem list_ofQ {α : Type} {Q : Nat → α → Prop} : ∀ n : Nat, (∀ i, i < n → ∃ x, Q i x) → ∃ l : List α, l.length = n ∧ ∀ i x, l[i]? = some x → Q i x
  | 0, _ => ⟨[], rfl, fun i x h => by simp at h⟩
  | n + 1, h => by
    obtain ⟨l, hl, hq⟩ := list_ofQ n fun i hi => h i (by omega)
    obtain ⟨y, hy⟩ := h n (by omega)
    refine ⟨l ++ [y], by simp [hl], fun i x hx => ?_⟩
    rcases Nat.lt_or_ge i l.length with hi | hi
    · rw [List.getElem?_append_left hi] at hx
      exact hq i x hx
    · rw [List.getElem?_append_right hi] at hx
      have hi2 : i - l.length = 0 := by
        have := (List.getElem?_eq_some_iff.1 hx).1
        simp at this
        omega
      rw [hi2] at hx
      cases hx
      rw [show i = n from by omega]
      exact hy
theorem add_atQ2 (g off k : Nat) : (⟨g, off, none⟩ : Addr).add k = ⟨g, off + k, none⟩ := by unfold Addr.add; split <;> simp_all
theorem cellsIntQ : Tryz.prog.cellsOf 3 = 1 := by kernel_rfl
theorem cellsI64Q : Tryz.prog.cellsOf 2 = 1 := by kernel_rfl
theorem cellsStrQ : Tryz.prog.cellsOf 9 = 1 := by kernel_rfl
theorem cellsBoolQ : Tryz.prog.cellsOf 4 = 1 := by kernel_rfl
theorem cellsItQ : Tryz.prog.cellsOf 97 = 2 := by kernel_rfl
theorem cellsItsQ : Tryz.prog.cellsOf 33 = 1 := by kernel_rfl
theorem cellsPatQ : Tryz.prog.cellsOf 35 = 2 := by kernel_rfl
section
variable {H : Type} {enc : TypeId × Value → H} {W : World}
theorem open_intsQ {fuel : Nat} {v : Value} {x : DataW H × List MemPlace} (h : DataW.trod enc Tryz.prog W 0 (fun _ => true) true fuel 23 [v] = some x) :
    ∃ (o : Option Addr) (l : List Int) (cap : Nat), v = .slice o l.length cap ∧ (NumsInQ W o l ∧ (o = none → cap = 0) ∧ ∀ p, o = some p → 0 < cap → p.spot = none) ∧ l.length ≤ cap := by
  rcases DataW.trod_slice Tryz.underlying23 h with ⟨hv, _⟩ | ⟨a, len, cap, elems, rest, n, _, hv, _, _, hle, hcap, hlen, hc, hr, _⟩
  · obtain rfl : v = .slice none 0 0 := by simpa using hv
    exact ⟨none, [], 0, rfl, ⟨⟨fun h => absurd h (Nat.not_lt_zero _), fun c h => by cases h⟩, fun _ => rfl, fun p h => by cases h⟩, Nat.le_refl _⟩
  · obtain rfl : v = .slice (some a) len cap := by simpa using hv
    have hall : ∀ i, i < len → ∃ X : Int, W.cell? ((a.add (i * 1)).add 0) = some (.int .i64 X) ∧ In64K X := fun i hi => by
      have he := hc i hi
      rw [cellsIntQ, List.getElem?_eq_getElem (by omega)] at he
      obtain ⟨cs, hcs, ht⟩ := Option.bind_eq_some_iff.1 he
      obtain ⟨_, hl, hg⟩ := World.cells?_some hcs
      obtain ⟨b, c1, _, cw⟩ := DataW.trod_int Tryz.underlying3 ht
      exact ⟨b, by rw [hg 0 (by omega), c1]; rfl, in64_wfQ cw⟩
    have hsp : 0 < cap → a.spot = none := fun h0 => by
      rcases Nat.eq_zero_or_pos len with hz | hz
      · obtain ⟨hrl, hrc⟩ := hr rfl
        have h0l : 0 < rest.length := by rw [hrl, hz]; exact h0
        have he := hrc 0 (by rw [hz]; exact h0)
        rw [cellsIntQ, hz, List.getElem?_eq_getElem h0l] at he
        obtain ⟨cs, hcs, ht⟩ := Option.bind_eq_some_iff.1 he
        obtain ⟨_, hl, hg⟩ := World.cells?_some hcs
        have h1 := hg 0 (by omega)
        rw [List.getElem?_eq_getElem (by rw [hl]; exact Nat.one_pos)] at h1
        simpa [Addr.add] using World.cell?_spot h1
      · obtain ⟨X, h1, _⟩ := hall 0 hz
        simpa [Addr.add] using World.cell?_spot h1
    obtain ⟨rs, hrl, hrs⟩ := list_ofQ len hall
    subst hrl
    refine ⟨some a, rs, cap, rfl, ⟨⟨fun hn => ?_, fun c hc => by obtain ⟨i, hi⟩ := List.getElem?_of_mem hc; exact (hrs i c hi).2⟩, (fun h => by cases h), (fun p h h0 => by cases h; exact hsp h0)⟩, by omega⟩
    have h0 := (hrs 0 _ (List.getElem?_eq_getElem hn)).1
    obtain ⟨g, off, spot⟩ := a
    have hspot : spot = none := by simpa [Addr.add] using World.cell?_spot h0
    subst hspot
    refine ⟨g, off, rfl, fun j x hx => ?_⟩
    have c0 := (hrs j x hx).1
    rwa [add_atQ2, add_atQ2, Nat.mul_one, Nat.add_zero] at c0
theorem open_namesQ {fuel : Nat} {v : Value} {x : DataW H × List MemPlace} (h : DataW.trod enc Tryz.prog W 0 (fun _ => true) true fuel 41 [v] = some x) :
    ∃ (o : Option Addr) (ns : List ByteArray) (cap : Nat), v = .slice o ns.length cap ∧ TxtAt W o ns ∧ ns.length ≤ 9223372036854775807 := by
  have hm : maxLen = 9223372036854775807 := rfl
  rcases open_strings Tryz.underlying41 Tryz.underlying9 cellsStrQ h with ⟨hv, _⟩ | ⟨a, len, cap, ss, hv, _, hle, hcap, hlen, _, hc, _⟩
  · obtain rfl : v = .slice none 0 0 := by simpa using hv
    exact ⟨none, [], 0, rfl, fun h => absurd h (Nat.not_lt_zero _), Nat.zero_le _⟩
  · obtain rfl : v = .slice (some a) len cap := by simpa using hv
    simp only [if_true] at hlen
    have hl : (ss.take len).length = len := by rw [List.length_take]; omega
    refine ⟨some a, ss.take len, cap, by rw [hl], fun hn => ?_, by omega⟩
    rw [hl] at hn
    have h0 := hc 0 (by omega)
    obtain ⟨g, off, spot⟩ := a
    have hspot : spot = none := by simpa [Addr.add] using World.cell?_spot h0
    subst hspot
    refine ⟨g, off, rfl, fun j y hy => ?_⟩
    have hj := (List.getElem?_eq_some_iff.1 hy).1
    rw [hl] at hj
    have := hc j (by omega)
    rw [add_atQ2] at this
    rw [this]
    have hy2 : ss[j]? = some y := by rw [List.getElem?_take_of_lt hj] at hy; exact hy
    simp [List.getD, hy2]
theorem list1Q {α : Type} {cs : List α} (h : cs.length = 1) : ∃ c0, cs = [c0] := by
  match cs, h with
  | [c0], _ => exact ⟨c0, rfl⟩
theorem list2Q {α : Type} {cs : List α} (h : cs.length = 2) : ∃ c0 c1, cs = [c0, c1] := by
  match cs, h with
  | [c0, c1], _ => exact ⟨c0, c1, rfl⟩
theorem open_itQ {fuel : Nat} {cs : List Value} {x : DataW H × List MemPlace} (h : DataW.trod enc Tryz.prog W 0 (fun _ => true) true fuel 97 cs = some x) : ∃ X : ItemP, cs = [.int .i64 X.1, .int .i64 X.2] ∧ In64K X.1 ∧ In64K X.2 := by
  obtain ⟨y0, y1, n, _, hl, h0, h1⟩ := trod_struct2 Tryz.underlying97 h
  rw [cellsItQ] at hl
  obtain ⟨k0, k1, rfl⟩ := list2Q hl
  change DataW.trod enc Tryz.prog W 0 (fun _ => true) true n 2 (List.take (Tryz.prog.cellsOf 2) (List.drop 0 [k0, k1])) = _ at h0
  change DataW.trod enc Tryz.prog W 0 (fun _ => true) true n 3 (List.take (Tryz.prog.cellsOf 3) (List.drop 1 [k0, k1])) = _ at h1
  rw [cellsI64Q] at h0
  rw [cellsIntQ] at h1
  obtain ⟨a, e0, _, w0⟩ := DataW.trod_int Tryz.underlying2 h0
  obtain ⟨b, e1, _, w1⟩ := DataW.trod_int Tryz.underlying3 h1
  obtain rfl : k0 = .int .i64 a := by simpa using e0
  obtain rfl : k1 = .int .i64 b := by simpa using e1
  exact ⟨(a, b), rfl, in64_wfQ w0, in64_wfQ w1⟩
/-- Items that came in. -/
def ItsInQ (w : World) (o : Option Addr) (l : List ItemP) : Prop := AtI w o l ∧ ∀ x ∈ l, In64K x.1 ∧ In64K x.2
theorem open_itsQ {fuel : Nat} {v : Value} {x : DataW H × List MemPlace} (h : DataW.trod enc Tryz.prog W 0 (fun _ => true) true fuel 33 [v] = some x) :
    ∃ (o : Option Addr) (l : List ItemP) (cap : Nat), v = .slice o l.length cap ∧ ItsInQ W o l ∧ l.length ≤ cap := by
  rcases DataW.trod_slice Tryz.underlying33 h with ⟨hv, _⟩ | ⟨a, len, cap, elems, rest, n, _, hv, _, _, hle, hcap, hlen, hc, _, _⟩
  · obtain rfl : v = .slice none 0 0 := by simpa using hv
    exact ⟨none, [], 0, rfl, ⟨fun h => absurd h (Nat.not_lt_zero _), fun c h => by cases h⟩, Nat.le_refl _⟩
  · obtain rfl : v = .slice (some a) len cap := by simpa using hv
    have hall : ∀ i, i < len → ∃ X : ItemP, W.cell? ((a.add (i * 2)).add 0) = some (.int .i64 X.1) ∧ W.cell? ((a.add (i * 2)).add 1) = some (.int .i64 X.2) ∧ In64K X.1 ∧ In64K X.2 := fun i hi => by
      have he := hc i hi
      rw [cellsItQ, List.getElem?_eq_getElem (by omega)] at he
      obtain ⟨cs, hcs, ht⟩ := Option.bind_eq_some_iff.1 he
      obtain ⟨_, hl, hg⟩ := World.cells?_some hcs
      obtain ⟨X, rfl, h1, h2⟩ := open_itQ ht
      exact ⟨X, by rw [hg 0 (by omega)]; rfl, by rw [hg 1 (by omega)]; rfl, h1, h2⟩
    obtain ⟨rs, hrl, hrs⟩ := list_ofQ len hall
    subst hrl
    refine ⟨some a, rs, cap, rfl, ⟨fun hn => ?_, fun c hc => by obtain ⟨i, hi⟩ := List.getElem?_of_mem hc; exact ⟨(hrs i c hi).2.2.1, (hrs i c hi).2.2.2⟩⟩, by omega⟩
    have h0 := (hrs 0 _ (List.getElem?_eq_getElem hn)).1
    obtain ⟨g, off, spot⟩ := a
    have hspot : spot = none := by simpa [Addr.add] using World.cell?_spot h0
    subst hspot
    refine ⟨g, off, rfl, fun j x hx => ?_⟩
    obtain ⟨c0, c1, _⟩ := hrs j x hx
    rw [add_atQ2, add_atQ2] at c0 c1
    exact ⟨c0, c1⟩
theorem open_pat {fuel : Nat} {cs : List Value} {x : DataW H × List MemPlace} (h : DataW.trod enc Tryz.prog W 0 (fun _ => true) true fuel 35 cs = some x) :
    ∃ (st : Bool) (o : Option Addr) (xs : List ItemP) (cap : Nat), cs = [.bool st, .slice o xs.length cap] ∧ ItsInQ W o xs ∧ xs.length ≤ cap := by
  obtain ⟨y0, y1, n, _, hl, h0, h1⟩ := trod_struct2 Tryz.underlying35 h
  rw [cellsPatQ] at hl
  obtain ⟨k0, k1, rfl⟩ := list2Q hl
  change DataW.trod enc Tryz.prog W 0 (fun _ => true) true n 4 (List.take (Tryz.prog.cellsOf 4) (List.drop 0 [k0, k1])) = _ at h0
  change DataW.trod enc Tryz.prog W 0 (fun _ => true) true n 33 (List.take (Tryz.prog.cellsOf 33) (List.drop 1 [k0, k1])) = _ at h1
  rw [cellsBoolQ] at h0
  rw [cellsItsQ] at h1
  obtain ⟨st, e0, _⟩ := DataW.trod_bool Tryz.underlying4 h0
  obtain rfl : k0 = .bool st := by simpa using e0
  obtain ⟨o, xs, cap, rfl, hI, hc⟩ := open_itsQ (v := k1) h1
  exact ⟨st, o, xs, cap, rfl, hI, hc⟩
end
end Go.Proofs.YtnmhdcbpbaanoaaGreatDoor

namespace Go.Proofs.YtnmhdcbpbaanoaaGreatDoor
open Go.RowKit Go.Shelf Go.Maps
attribute [local go_sem] Oper.semAt_some

section
variable {P : Program}
theorem results_cellF {fn : Func} {p : Tmp} {ty : TypeId} (h : fn.results = #[.cell p ty]) (tmps : Array Value) (w : World) (g : Nat) (t : TypeId) (cs : Array Value) (fr : Nat × Nat) (d : TypeDesc)
    (hp : tmps.getD p undef = .pointer (some ⟨g, 0, none⟩)) (hg : w.heap[g]? = some (.cells cs t fr))
    (hu : P.underlying ty = some d) (hd : (match d with | .struct _ | .array _ _ => true | _ => false) = true) (hi : (P.info? ty).map (·.size) = some cs.size) :
    (results fn tmps).run P w = .ok (.agg cs) w := by
  have hp' : tmps[p]?.getD undef = .pointer (some ⟨g, 0, none⟩) := by simpa using hp
  simp [results, h, hp', asAddr, run_loadVar_row w g t ty cs fr d hg hu hd hi]
end
set_option maxRecDepth 100000 in
set_option maxHeartbeats 4000000 in
theorem cutP_any (st : Bool) (o : Option Addr) (xs : List ItemP) (cap : Nat) (hn : xs.length ≤ cap) (w : World) :
    Calls Tryz.prog 33 #[patV st o xs.length cap] w fun e w' => e = .returned (patV st o (xs.take 12).length cap) ∧ Below w.heap.size w w' := by
  have hl : (xs.take 12).length = min xs.length 12 := by rw [List.length_take]; omega
  rw [hl]
  obtain ⟨n, hnn⟩ : ∃ n, xs.length = n := ⟨_, rfl⟩
  rw [hnn] at hn ⊢
  clear hl hnn
  obtain ⟨k, hk⟩ : ∃ k, min n 12 = k := ⟨_, rfl⟩
  have hk2 : min ((n : Nat) : Int) 12 = ((k : Nat) : Int) := by omega
  have hkn : k ≤ n := by omega
  have hkc : k ≤ cap := by omega
  rw [hk]
  obtain ⟨w1, hw1⟩ : ∃ w1, w.alloc (patO st o n cap) = w1 := ⟨_, rfl⟩
  have b1 : Below w.heap.size w w1 := by rw [← hw1]; exact (Below.refl _ _).alloc (Nat.le_refl _) _
  have r1 : w1.heap[w.heap.size]? = some (patO st o n cap) := by rw [← hw1]; exact heap_alloc_new _ _
  have z1 : w1.heap.size = w.heap.size + 1 := by rw [← hw1]; simp
  obtain ⟨w2, hw2⟩ : ∃ w2, w1.alloc (patO false none 0 0) = w2 := ⟨_, rfl⟩
  have b2 : Below w1.heap.size w1 w2 := by rw [← hw2]; exact (Below.refl _ _).alloc (Nat.le_refl _) _
  have r2 : w2.heap[w.heap.size + 1]? = some (patO false none 0 0) := by rw [← hw2, ← z1]; exact heap_alloc_new _ _
  have r1' := row_below r1 b2
  have B2 := b1.trans (b2.mono b1.size)
  obtain ⟨p0, p1⟩ := pat_cells r1'
  obtain ⟨t0, t1⟩ := pat_cells r2
  have f0 := frozen_of_row w2 (w.heap.size + 1) 0 _ _ r2
  have f1 := frozen_of_row w2 (w.heap.size + 1) 1 _ _ r2
  obtain ⟨r3, m3⟩ := two_set (.bool st) (.slice o k cap) r2
  obtain ⟨w3, hw3⟩ : ∃ w3, (w2.setCell ⟨w.heap.size + 1, 0, none⟩ (.bool st)).setCell ⟨w.heap.size + 1, 1, none⟩ (.slice o k cap) = w3 := ⟨_, rfl⟩
  rw [hw3] at r3 m3
  have HB := Lib.hid (Moves.below B2 B2.size m3.drew (fun k hk => by omega))
  have HW1 := Lib.hid hw1
  have HW2 := Lib.hid hw2
  have HW3 := Lib.hid hw3
  have HR3 := Lib.hid r3
  clear hw1 b1 r1 z1 hw2 b2 r2 r1' B2 r3 m3 hw3
  go_enter Tryz.func33, Tryz.ntmps33
  go_wp2_with fail
  rw [HW1.out, HW2.out]
  go_region
  all_goals
    go_wp2_with fail
    rw [HW3.out]
    exact bodyPost_ret (v := patV st o k cap) (results_cellF rfl _ _ (w.heap.size + 1) _ _ _ _ rfl (show w3.drew.heap[w.heap.size + 1]? = _ from HR3.out) Tryz.underlying35 rfl (by kernel_rfl)) rfl ⟨rfl, HB.out⟩
end Go.Proofs.YtnmhdcbpbaanoaaGreatDoor

namespace Go.Proofs.YtnmhdcbpbaanoaaGreatDoor
open Go.RowKit Go.Shelf Go.Maps
attribute [local go_sem] Oper.semAt_some
attribute [local go_sem ↓] app_hide

def fewX (x : RulX) : RulX := ((x.1.1, x.1.2.1, x.1.2.2.1.take 12, x.1.2.2.2), (x.2.1.1, x.2.1.2.1, x.2.1.2.2.1.take 12, x.2.1.2.2.2), x.2.2)
def fewL (l : List RulX) : List RulX := (l.take 42).map fewX
set_option maxRecDepth 100000 in
set_option maxHeartbeats 4000000 in
theorem Few_anyJ (o : Option Addr) (l : List RulX) (cap : Nat) (w : World) (hA : AtC w o l) (hI : ItsC w l) :
    Calls Tryz.prog 12 #[.slice o l.length cap] w fun e w' => ∃ o' c', e = .returned (.slice o' (fewL l).length c') ∧ w'.ownsRow w.heap.size 37 5 (.slice o' (fewL l).length c') (fewL l).length (rulsC (fewL l)) ∧ Below w.heap.size w w' := by
  obtain ⟨P, hP⟩ : ∃ P, (fun (e : Ending) (w' : World) => ∃ o' c', e = .returned (.slice o' (fewL l).length c') ∧ w'.ownsRow w.heap.size 37 5 (.slice o' (fewL l).length c') (fewL l).length (rulsC (fewL l)) ∧ Below w.heap.size w w') = P := ⟨_, rfl⟩
  have HP := Lib.hid hP
  rw [hP]
  obtain ⟨n, hnn⟩ : ∃ n, l.length = n := ⟨_, rfl⟩
  have HN := Lib.hid hnn
  have HA := Lib.hid hA
  have HI := Lib.hid hI
  rw [hnn]
  clear hP hnn hA hI
  go_enter Tryz.func12, Tryz.ntmps12
  go_wp2_with fail
  go_loopg [3, 4] 42 (fun k v3 v4 wr => ∃ (j : Nat) (ro : Option Addr) (rc : Nat), v4 = .int .i64 (j : Nat) ∧ v3 = .slice ro j rc ∧ j ≤ 42 ∧ j ≤ n ∧ k = 42 - j ∧ Hid (wr.ownsRow w.heap.size 37 5 (.slice ro j rc) j (rulsC ((l.take j).map fewX))) ∧ Hid (Below w.heap.size w wr))
  case atStart => exact ⟨0, none, 0, rfl, rfl, by omega, by omega, rfl, Lib.hid (World.ownsRow_nil _ _ _ _), Lib.hid (Below.refl _ _)⟩
  case round =>
    obtain ⟨j, ro, rc, rfl, rfl, hj42, hjn, rfl, HO, HB⟩ := hrel
    have DONE : Hid (j = min n 42 → P (.returned (.slice ro j rc)) wr) := Lib.hid fun hjm => by
      have e : (l.take j).map fewX = fewL l := by
        unfold fewL
        congr 1
        rcases Nat.lt_or_ge n 42 with h | h
        · rw [List.take_of_length_le (by rw [HN.out]; omega), List.take_of_length_le (by rw [HN.out]; omega)]
        · rw [show j = 42 by omega]
      have el : (fewL l).length = j := by unfold fewL; rw [List.length_map, List.length_take, HN.out]; omega
      rw [← HP.out]
      refine ⟨ro, rc, by rw [el], ?_, HB.out⟩
      rw [el, ← e]
      exact HO.out
    rcases Nat.lt_or_ge j n with hlt | hge
    · have d1 : decide (((j : Nat) : Int) < ((n : Nat) : Int)) = true := decide_eq_true (by omega)
      rcases Nat.lt_or_ge j 42 with hlt2 | hge2
      · have d2 : decide (((j : Nat) : Int) < 42) = true := decide_eq_true (by omega)
        obtain ⟨x, hx⟩ : ∃ x, l[j]? = some x := ⟨_, List.getElem?_eq_getElem (by rw [HN.out]; exact hlt)⟩
        obtain ⟨g, off, rfl, hc⟩ := HA.out (by rw [HN.out]; omega)
        have HCX := Lib.hid (hc j x hx)
        obtain ⟨⟨i1, l1⟩, i2, l2⟩ := HI.out x (List.mem_of_getElem? hx)
        have hsn : rulsC ((l.take (j + 1)).map fewX) = rulsC ((l.take j).map fewX) ++ (rulC (fewX x)).toList := by
          rw [List.take_add_one, hx, List.map_append]
          exact rulsC_snoc _ _
        have HSN := Lib.hid hsn
        have K1 := Lib.hid (fun W => cutP_any x.1.1 x.1.2.1 x.1.2.2.1 x.1.2.2.2 l1 W)
        have K2 := Lib.hid (fun W => cutP_any x.2.1.1 x.2.1.2.1 x.2.1.2.2.1 x.2.1.2.2.2 l2 W)
        have HBS := HB.out.size
        have HRO : Hid (∀ W, Below wr.heap.size wr W → ∃ g' cap' w6, (appSem #[22, 22] 22 #[.slice ro j rc, .slice (some ⟨W.heap.size, 0, none⟩) 1 1]).run Tryz.prog (W.alloc (rulO (fewX x))) = .ok (.slice (some ⟨g', 0, none⟩) (j + 1) cap') w6 ∧ Hid (w6.ownsRow w.heap.size 37 5 (.slice (some ⟨g', 0, none⟩) (j + 1) cap') (j + 1) (rulsC ((l.take (j + 1)).map fewX))) ∧ Hid (Below w.heap.size w w6)) := Lib.hid fun W hb => by
          have hz := hb.size
          obtain ⟨g', cap', w6, hrun, hown', hgrow, hat⟩ := rul_own (fewX x) (own_below HO.out hb) (by omega) (by omega)
          rw [← HSN.out] at hown'
          exact ⟨g', cap', w6, hrun, Lib.hid hown', Lib.hid (((HB.out.trans (hb.mono HBS)).alloc (by omega) _).grown hgrow (by rw [World.size_alloc]; omega) (fun k hk => own_rowJ HO.out hk))⟩
        have HCE : Hid (∀ W, Below wr.heap.size wr W → W.cell? ⟨g, off + j * 5, none⟩ = some (.bool x.1.1) ∧ W.cell? ⟨g, off + j * 5 + 1, none⟩ = some (.slice x.1.2.1 x.1.2.2.1.length x.1.2.2.2) ∧ W.cell? ⟨g, off + j * 5 + 2, none⟩ = some (.bool x.2.1.1) ∧ W.cell? ⟨g, off + j * 5 + 3, none⟩ = some (.slice x.2.1.2.1 x.2.1.2.2.1.length x.2.1.2.2.2) ∧ W.cell? ⟨g, off + j * 5 + 4, none⟩ = some (.bool x.2.2)) := Lib.hid fun W hb => by
          obtain ⟨q0, q1, q2, q3, q4⟩ := HCX.out
          have hb2 := HB.out.trans (hb.mono HBS)
          exact ⟨cell_keepQ hb2 q0, cell_keepQ hb2 q1, cell_keepQ hb2 q2, cell_keepQ hb2 q3, cell_keepQ hb2 q4⟩
        obtain ⟨⟨s1, p1, xs1, c1⟩, ⟨s2, p2, xs2, c2⟩, br⟩ := x
        simp only [fewX] at K1 K2 HRO HCE
        obtain ⟨a1, ha1⟩ : ∃ k, (xs1.take 12).length = k := ⟨_, rfl⟩
        obtain ⟨a2, ha2⟩ : ∃ k, (xs2.take 12).length = k := ⟨_, rfl⟩
        obtain ⟨m1, hm1⟩ : ∃ k, xs1.length = k := ⟨_, rfl⟩
        obtain ⟨m2, hm2⟩ : ∃ k, xs2.length = k := ⟨_, rfl⟩
        rw [ha1] at K1
        rw [ha2] at K2
        rw [hm1] at K1
        rw [hm2] at K2
        simp only [ha1, ha2, rulO, rulC] at HRO
        simp only [hm1, hm2] at HCE
        have hd : Below wr.heap.size wr wr.drew := (Below.refl _ _).drew
        have HD := Lib.hid hd
        obtain ⟨t0, t1, t2, t3, t4⟩ := HCE.out wr (Below.refl _ _)
        obtain ⟨u0, u1, u2, u3, u4⟩ := HCE.out _ hd
        have K1S : Hid (∀ W, Hid (Below wr.heap.size wr W) → Calls Tryz.prog 33 #[.agg #[.bool s1, .slice p1 m1 c1]] W fun e w' => e = .returned (.agg #[.bool s1, .slice p1 a1 c1]) ∧ Hid (Below wr.heap.size wr w')) := Lib.hid fun W h => (K1.out W).mono fun e w' h2 => ⟨h2.1, Lib.hid (h.out.trans (h2.2.mono h.out.size))⟩
        have K2S : Hid (∀ W, Hid (Below wr.heap.size wr W) → Calls Tryz.prog 33 #[.agg #[.bool s2, .slice p2 m2 c2]] W fun e w' => e = .returned (.agg #[.bool s2, .slice p2 a2 c2]) ∧ Hid (Below wr.heap.size wr w')) := Lib.hid fun W h => (K2.out W).mono fun e w' h2 => ⟨h2.1, Lib.hid (h.out.trans (h2.2.mono h.out.size))⟩
        have hjm : j < 1000000 := by omega
        clear hc hx i1 l1 i2 l2 hsn K1 K2 DONE ha1 ha2 hm1 hm2 hd HCX HSN HO HB HA HI HP
        go_wp2_with fail
        go_region_with (go_at_call 33; first | (with_reducible refine (K1S.out _ (by first | exact hg | exact HD)).mono ?_; rintro e w3 ⟨rfl, hg⟩; obtain ⟨v0, v1, v2, v3, v4⟩ := HCE.out _ hg.out; obtain ⟨g', cap', w6, hrun, HO6, HB6⟩ := HRO.out _ hg.out) | (with_reducible refine (K2S.out _ (by first | exact hg | exact HD)).mono ?_; rintro e w3 ⟨rfl, hg⟩; obtain ⟨v0, v1, v2, v3, v4⟩ := HCE.out _ hg.out; obtain ⟨g', cap', w6, hrun, HO6, HB6⟩ := HRO.out _ hg.out))
        all_goals
          go_wp2
          go_roundg (42 - (j + 1))
          case measure => omega
          case rel => exact ⟨j + 1, _, _, by simp, rfl, by omega, by omega, rfl, HO6, HB6⟩
      · have d2 : decide (((j : Nat) : Int) < 42) = false := decide_eq_false (by omega)
        have HQ := Lib.hid (DONE.out (by omega))
        clear DONE
        go_wp2
        exact HQ.out
    · have d1 : decide (((j : Nat) : Int) < ((n : Nat) : Int)) = false := decide_eq_false (by omega)
      have HQ := Lib.hid (DONE.out (by omega))
      clear DONE
      go_wp2
      exact HQ.out
end Go.Proofs.YtnmhdcbpbaanoaaGreatDoor

namespace Go.Proofs.YtnmhdcbpbaanoaaGreatDoor
open Go.RowKit Go.Shelf Go.Maps
attribute [local go_sem] Oper.semAt_some
attribute [local go_sem ↓] app_hide

set_option maxHeartbeats 1000000 in
theorem worth_any (n : Nat) (hn : n ≤ 32) (w : World) : Calls Tryz.prog 91 #[.int .i64 (n : Nat)] w fun e w' => e = .returned (.int .i64 ((2 ^ n : Nat) : Int)) ∧ w = w' := by
  obtain ⟨P, hP⟩ : ∃ P, (fun (e : Ending) w' => e = .returned (.int .i64 ((2 ^ n : Nat) : Int)) ∧ w = w') = P := ⟨_, rfl⟩
  have HP := Lib.hid hP
  rw [hP]
  clear hP
  go_enter Tryz.func91, Tryz.ntmps91
  go_wp2_with fail
  go_loopg [3, 4] n (fun k v i wr => ∃ (j p : Nat), i = .int .i64 (j : Nat) ∧ v = .int .i64 (p : Nat) ∧ j ≤ n ∧ k = n - j ∧ Hid (p = 2 ^ j) ∧ w = wr)
  case atStart => exact ⟨0, 1, rfl, rfl, Nat.zero_le _, rfl, Lib.hid rfl, rfl⟩
  case round =>
    obtain ⟨j, p, rfl, rfl, hj, rfl, hp, rfl⟩ := hrel
    rcases Nat.lt_or_ge j n with hlt | hge
    · have hp2 : Hid (2 * p = 2 ^ (j + 1)) := Lib.hid (by rw [hp.out, Nat.pow_succ, Nat.mul_comm])
      have hpl : p ≤ 4294967296 := by rw [hp.out]; exact two_32 (by omega)
      have hj1 : j < 1000000 := by omega
      go_wp2
      go_roundg (n - (j + 1))
      case measure => omega
      case rel => exact ⟨j + 1, 2 * p, by simp, by simp, by omega, rfl, hp2, rfl⟩
    · obtain rfl : j = n := by omega
      have HQ : Hid (P (.returned (.int .i64 ((p : Nat) : Int))) w) := by
        rw [← HP.out]
        exact Lib.hid ⟨by rw [hp.out], rfl⟩
      go_wp2
      exact HQ.out
set_option maxHeartbeats 1000000 in
theorem refRight_any (s n : Int) (w : World) : Calls Tryz.prog 63 #[.int .i64 s, .int .i64 n] w fun e w' => e = .returned (.bool (rightZ s n)) ∧ w = w' := by
  obtain ⟨P, hP⟩ : ∃ P, (fun (e : Ending) w' => e = .returned (.bool (rightZ s n)) ∧ w = w') = P := ⟨_, rfl⟩
  have HP := Lib.hid hP
  have NO : ¬ (1 ≤ n ∧ n ≤ 32 ∧ 0 ≤ s ∧ s < 2 ^ n.toNat) → Hid (P (.returned (.bool false)) w) := fun h => by
    rw [← HP.out]
    exact Lib.hid ⟨by unfold rightZ; rw [decide_eq_false h], rfl⟩
  have YES : (1 ≤ n ∧ n ≤ 32 ∧ 0 ≤ s ∧ s < 2 ^ n.toNat) → Hid (P (.returned (.bool true)) w) := fun h => by
    rw [← HP.out]
    exact Lib.hid ⟨by unfold rightZ; rw [decide_eq_true h], rfl⟩
  rw [hP]
  clear hP
  by_cases g1 : 1 ≤ n
  · by_cases g2 : n ≤ 32
    · by_cases g3 : 0 ≤ s
      · obtain ⟨m, rfl⟩ := Int.eq_ofNat_of_zero_le (show 0 ≤ n by omega)
        have hm : m ≤ 32 := by omega
        have W1 := Lib.hid (worth_any m hm w)
        have e2 : ((2 : Int) ^ m) = ((2 ^ m : Nat) : Int) := by simp
        rw [Int.toNat_natCast, e2] at NO YES
        obtain ⟨p, hpp⟩ : ∃ p, 2 ^ m = p := ⟨_, rfl⟩
        rw [hpp] at NO YES W1
        by_cases g4 : s < ((p : Nat) : Int)
        · have YY := YES ⟨g1, g2, g3, g4⟩
          have g5 : decide (s < ((p : Nat) : Int)) = true := decide_eq_true g4
          clear NO YES hpp e2
          go_enter Tryz.func63, Tryz.ntmps63
          go_wp2_with fail
          refine W1.out.mono ?_
          rintro e w2 ⟨rfl, rfl⟩
          go_wp2
          exact YY.out
        · have YY := NO fun h => g4 h.2.2.2
          have g5 : decide (s < ((p : Nat) : Int)) = false := decide_eq_false g4
          clear NO YES hpp e2
          go_enter Tryz.func63, Tryz.ntmps63
          go_wp2_with fail
          refine W1.out.mono ?_
          rintro e w2 ⟨rfl, rfl⟩
          go_wp2
          exact YY.out
      · have NN := NO (by omega)
        clear NO YES
        go_enter Tryz.func63, Tryz.ntmps63
        go_wp2
        exact NN.out
    · have NN := NO (by omega)
      clear NO YES
      go_enter Tryz.func63, Tryz.ntmps63
      go_wp2
      exact NN.out
  · have NN := NO (by omega)
    clear NO YES
    go_enter Tryz.func63, Tryz.ntmps63
    go_wp2
    exact NN.out
set_option maxRecDepth 100000 in
set_option maxHeartbeats 1000000 in
theorem refHas_any (s c : Int) (w : World) : Calls Tryz.prog 120 #[.int .i64 s, .int .i64 c] w fun e w' => e = .returned (.bool (hasZ s c)) ∧ w = w' := by
  have H := Lib.hid (refRight_any s 32 w)
  obtain ⟨P, hP⟩ : ∃ P, (fun (e : Ending) w' => e = .returned (.bool (hasZ s c)) ∧ w = w') = P := ⟨_, rfl⟩
  have HP := Lib.hid hP
  have ANS : ∀ b, hasZ s c = b → Hid (P (.returned (.bool b)) w) := fun b h => by
    rw [← HP.out]
    exact Lib.hid ⟨by rw [h], rfl⟩
  rw [hP]
  clear hP
  cases hr : rightZ s 32 with
  | false =>
    rw [hr] at H
    have HQ := ANS false (by unfold hasZ; rw [hr]; rfl)
    clear ANS hr
    go_enter Tryz.func120, Tryz.ntmps120
    go_wp2_with fail
    refine H.out.mono ?_
    rintro e w2 ⟨rfl, rfl⟩
    go_wp2
    exact HQ.out
  | true =>
    obtain ⟨x, m, rfl, hm, _, _, hx⟩ := rightZ_of hr
    have h32 : m = 32 := by omega
    subst h32
    clear hm
    rw [hr] at H
    rw [hasZ_nat hx] at ANS
    by_cases g1 : 0 ≤ c
    · by_cases g2 : c < 32
      · obtain ⟨k, rfl⟩ := Int.eq_ofNat_of_zero_le g1
        have hk : k < 32 := by omega
        have W1 := Lib.hid (worth_any k (by omega) w)
        have hp := two_pos k
        have hdb := div_bit x k
        rw [decide_eq_true ⟨g1, g2⟩, Bool.true_and, Int.toNat_natCast] at ANS
        obtain ⟨p, hpp⟩ : ∃ p, 2 ^ k = p := ⟨_, rfl⟩
        rw [hpp] at W1 hp hdb
        have t1 : ((x : Nat) : Int).tdiv ((p : Nat) : Int) = ((x / p : Nat) : Int) := by rw [Int.tdiv_eq_ediv_of_nonneg (Int.natCast_nonneg _)]; simp
        have t2 : ((x : Nat) : Int) / ((p : Nat) : Int) = ((x / p : Nat) : Int) := by simp
        obtain ⟨q, hq⟩ : ∃ q, x / p = q := ⟨_, rfl⟩
        rw [hq] at t1 t2 hdb
        have t3 : ((q : Nat) : Int).tmod 2 = ((q % 2 : Nat) : Int) := by rw [Int.tmod_eq_emod_of_nonneg (Int.natCast_nonneg _)]; simp
        have HQ := ANS (((q : Nat) : Int) % 2 == 1) (by
          rw [← hdb]
          by_cases h : q % 2 = 1
          · rw [decide_eq_true h]
            have : ((q : Nat) : Int) % 2 = 1 := by omega
            rw [this]; rfl
          · rw [decide_eq_false h]
            have : ((q : Nat) : Int) % 2 = 0 := by omega
            rw [this]; rfl)
        have hpne : ¬ ((p : Nat) : Int) = 0 := by omega
        have hwq : wrap64 ((q : Nat) : Int) = ((q : Nat) : Int) := by
          have : q ≤ x := by rw [← hq]; exact Nat.div_le_self _ _
          exact wrap_idK (by omega) (by omega)
        clear ANS hr hx hdb hpp hq g1 g2
        go_enter Tryz.func120, Tryz.ntmps120
        go_wp2_with fail
        refine H.out.mono ?_
        rintro e w2 ⟨rfl, rfl⟩
        go_wp2_with fail
        refine W1.out.mono ?_
        rintro e w3 ⟨rfl, rfl⟩
        go_wp2
        exact HQ.out
      · have HQ := ANS false (by rw [decide_eq_false (by omega)]; rfl)
        clear ANS hr hx
        go_enter Tryz.func120, Tryz.ntmps120
        go_wp2_with fail
        refine H.out.mono ?_
        rintro e w2 ⟨rfl, rfl⟩
        go_wp2
        exact HQ.out
    · have HQ := ANS false (by rw [decide_eq_false (by omega)]; rfl)
      clear ANS hr hx
      go_enter Tryz.func120, Tryz.ntmps120
      go_wp2_with fail
      refine H.out.mono ?_
      rintro e w2 ⟨rfl, rfl⟩
      go_wp2
      exact HQ.out
set_option maxHeartbeats 1000000 in
theorem refNot_any (s n : Int) (w : World) : Calls Tryz.prog 98 #[.int .i64 s, .int .i64 n] w fun e w' => e = .returned (.int .i64 (notZ s n)) ∧ w = w' := by
  have H := Lib.hid (refRight_any s n w)
  cases hr : rightZ s n with
  | false =>
    rw [hr] at H
    have e0 : notZ s n = 0 := by unfold notZ; rw [hr]; rfl
    rw [e0]
    clear hr e0
    go_enter Tryz.func98, Tryz.ntmps98
    go_wp2_with fail
    refine H.out.mono ?_
    rintro e w2 ⟨rfl, rfl⟩
    go_wp2
    go_ret
    exact ⟨rfl, rfl⟩
  | true =>
    obtain ⟨x, m, rfl, rfl, h1, h2, hx⟩ := rightZ_of hr
    rw [hr] at H
    have W1 := Lib.hid (worth_any m h2 w)
    have hl := two_32 h2
    rw [notZ_nat h1 h2 hx]
    unfold notN
    obtain ⟨p, hp⟩ : ∃ p, 2 ^ m = p := ⟨_, rfl⟩
    rw [hp] at W1 hx hl ⊢
    have e1 : ((p - 1 - x : Nat) : Int) = ((p : Nat) : Int) - 1 - ((x : Nat) : Int) := by omega
    rw [e1]
    clear hr hp e1
    go_enter Tryz.func98, Tryz.ntmps98
    go_wp2_with fail
    refine H.out.mono ?_
    rintro e w2 ⟨rfl, rfl⟩
    go_wp2_with fail
    refine W1.out.mono ?_
    rintro e w3 ⟨rfl, rfl⟩
    go_wp2
    go_ret
    exact ⟨rfl, rfl⟩
theorem own_rowK {w : World} {base n cap : Nat} {o : Option Addr} {e : TypeId} {size : Nat} {xs : List Value} {k : Nat} (h : w.ownsRow base e size (.slice o n cap) n xs) (hk : (Value.slice o n cap).ownBlock = some k) : base ≤ k := by
  rcases h.2 with ⟨hv, _⟩ | ⟨g, cap', cur, hv, hg, _⟩
  · rw [hv] at hk; simp [Value.ownBlock] at hk
  · rw [hv] at hk
    obtain rfl : g = k := by simpa [Value.ownBlock] using hk
    exact hg
def clZ (s : Int) (j : Nat) : List Nat := if rightZ s 32 then classesN j s.toNat else []
theorem clZ_all (s : Int) : clZ s 32 = classesZ s := rfl
theorem clZ_snoc (s : Int) {j : Nat} (hj : j < 32) : clZ s (j + 1) = clZ s j ++ (if hasZ s ((j : Nat) : Int) then [j] else []) := by
  unfold clZ
  cases hr : rightZ s 32 with
  | false =>
    have : hasZ s ((j : Nat) : Int) = false := by unfold hasZ; rw [hr]; rfl
    rw [this]; rfl
  | true =>
    have : hasZ s ((j : Nat) : Int) = s.toNat.testBit j := by
      unfold hasZ
      rw [hr, decide_eq_true (show (0 : Int) ≤ ((j : Nat) : Int) ∧ ((j : Nat) : Int) < 32 by omega)]
      simp
    rw [this]
    exact classesN_snoc j s.toNat
theorem clZ_le (s : Int) (j : Nat) : (clZ s j).length ≤ j := by
  unfold clZ
  split
  · exact classesN_le _ _
  · simp
set_option maxRecDepth 100000 in
set_option maxHeartbeats 2000000 in
theorem refClasses_any (s : Int) (w : World) : Calls Tryz.prog 96 #[.int .i64 s] w fun e w' => ∃ o c, e = .returned (.slice o (classesZ s).length c) ∧ NumsAt w' o ((classesZ s).map fun c => ((c : Nat) : Int)) ∧ (classesZ s).length ≤ c ∧ Below w.heap.size w w' := by
  obtain ⟨P, hP⟩ : ∃ P, (fun (e : Ending) w' => ∃ o c, e = .returned (.slice o (classesZ s).length c) ∧ NumsAt w' o ((classesZ s).map fun c => ((c : Nat) : Int)) ∧ (classesZ s).length ≤ c ∧ Below w.heap.size w w') = P := ⟨_, rfl⟩
  have HP := Lib.hid hP
  rw [hP]
  clear hP
  go_enter Tryz.func96, Tryz.ntmps96
  go_wp2_with fail
  go_loopg [3, 4] 32 (fun k v i wr => ∃ (j m : Nat), i = .int .i64 (j : Nat) ∧ j ≤ 32 ∧ k = 32 - j ∧ m ≤ j ∧ Hid ((clZ s j).length = m) ∧ Hid (wr.ownsRow w.heap.size 3 1 v m ((clZ s j).map intC)) ∧ Hid (Below w.heap.size w wr))
  case atStart =>
    have h0 : clZ s 0 = [] := by unfold clZ; split <;> rfl
    exact ⟨0, 0, rfl, by omega, rfl, Nat.le_refl _, Lib.hid (by rw [h0]; rfl), Lib.hid (by rw [h0]; exact World.ownsRow_nil _ _ _ _), Lib.hid (Below.refl _ _)⟩
  case round =>
    obtain ⟨j, m, rfl, hj, rfl, hm, HM, HO, HB⟩ := hrel
    obtain ⟨o, cap, rfl⟩ := own_form HO.out
    rcases Nat.lt_or_ge j 32 with hlt | hge
    · have HH := Lib.hid (refHas_any s ((j : Nat) : Int) wr)
      cases hb : hasZ s ((j : Nat) : Int) with
      | false =>
        have hs : clZ s (j + 1) = clZ s j := by rw [clZ_snoc s hlt, hb]; simp
        rw [hb] at HH
        have HM2 : Hid ((clZ s (j + 1)).length = m) := Lib.hid (by rw [hs]; exact HM.out)
        have HO2 : Hid (wr.ownsRow w.heap.size 3 1 (.slice o m cap) m ((clZ s (j + 1)).map intC)) := Lib.hid (by rw [hs]; exact HO.out)
        clear hb hs
        go_wp2_with fail
        refine HH.out.mono ?_
        rintro e w2 ⟨rfl, rfl⟩
        go_wp2
        go_roundg (32 - (j + 1))
        case measure => omega
        case rel => exact ⟨j + 1, m, by simp, by omega, rfl, by omega, HM2, HO2, HB⟩
      | true =>
        have hs : clZ s (j + 1) = clZ s j ++ [j] := by rw [clZ_snoc s hlt, hb]; rfl
        rw [hb] at HH
        obtain ⟨g', cap', w6, hrun, hown', hgrow⟩ := code_ownK j HO.out (by omega) HB.out.size
        have HM2 : Hid ((clZ s (j + 1)).length = m + 1) := Lib.hid (by rw [hs, List.length_append, HM.out]; rfl)
        have HO2 : Hid (w6.ownsRow w.heap.size 3 1 (.slice (some ⟨g', 0, none⟩) (m + 1) cap') (m + 1) ((clZ s (j + 1)).map intC)) := Lib.hid (by rw [hs, List.map_append]; exact hown')
        have hbW : Below w.heap.size w (wr.alloc (.cells #[.int .i64 (j : Nat)] 3)) := HB.out.alloc HB.out.size _
        have HB2 : Hid (Below w.heap.size w w6) := Lib.hid (hbW.grown hgrow (by have := HB.out.size; simp; omega) (fun k hk => own_rowK HO.out hk))
        clear hb hs hown' hgrow hbW
        go_wp2_with fail
        refine HH.out.mono ?_
        rintro e w2 ⟨rfl, rfl⟩
        go_wp2
        go_roundg (32 - (j + 1))
        case measure => omega
        case rel => exact ⟨j + 1, m + 1, by simp, by omega, rfl, by omega, HM2, by simpa using HO2, HB2⟩
    · obtain rfl : j = 32 := by omega
      have h1 := HM.out
      rw [clZ_all] at h1
      have HQ : Hid (P (.returned (.slice o m cap)) wr) := by
        rw [← HP.out]
        refine Lib.hid ⟨o, cap, by rw [h1], ?_, ?_, HB.out⟩
        · have h2 := HO.out
          rw [clZ_all, ← h1] at h2
          exact nums_own h2
        · rw [h1]; exact own_cap HO.out
      clear h1
      go_wp2
      exact HQ.out
set_option maxRecDepth 100000 in
set_option maxHeartbeats 2000000 in
/-- Two slices that say the same numbers. -/
theorem ints_sameK (o p : Option Addr) (l : List Int) (ca cb : Nat) (hl : l.length ≤ 1000) (w : World) (hA : NumsAt w o l) (hB : NumsAt w p l) :
    Calls Tryz.prog 20 #[.slice o l.length ca, .slice p l.length cb] w fun e w' => e = .returned (.bool true) ∧ Below w.heap.size w w' := by
  obtain ⟨P, hP⟩ : ∃ P, (fun (e : Ending) w' => e = .returned (.bool true) ∧ Below w.heap.size w w') = P := ⟨_, rfl⟩
  have HP := Lib.hid hP
  rw [hP]
  obtain ⟨n, hnn⟩ : ∃ n, l.length = n := ⟨_, rfl⟩
  rw [hnn] at hl ⊢
  have HN := Lib.hid hnn
  have HA := Lib.hid hA
  have HB := Lib.hid hB
  clear hP hA hB hnn
  go_enter Tryz.func20, Tryz.ntmps20
  go_wp2_with fail
  go_loopg [5] n (fun k i wr => ∃ (j : Nat), i = .int .i64 (j : Nat) ∧ j ≤ n ∧ k = n - j ∧ Hid (Below w.heap.size w wr))
  case atStart => exact ⟨0, rfl, Nat.zero_le _, rfl, Lib.hid (Below.refl _ _)⟩
  case round =>
    obtain ⟨j, rfl, hj, rfl, HBl⟩ := hrel
    rcases Nat.lt_or_ge j n with hlt | hge
    · have hj1 : j < 1000000 := by omega
      obtain ⟨c, hc⟩ : ∃ c, l[j]? = some c := ⟨_, List.getElem?_eq_getElem (by rw [HN.out]; exact hlt)⟩
      obtain ⟨g, off, rfl, hcc⟩ := (HA.out.below HBl.out) (by rw [HN.out]; omega)
      obtain ⟨g2, off2, rfl, hcc2⟩ := (HB.out.below HBl.out) (by rw [HN.out]; omega)
      have k0 := hcc j c hc
      have k1 := hcc2 j c hc
      have hg := World.block_lt_of_cell? wr _ k0
      have hg2 := World.block_lt_of_cell? wr _ k1
      have HB2 : Hid (Below w.heap.size w wr.drew) := Lib.hid HBl.out.drew
      clear hcc hcc2 hc
      go_wp2_with fail
      go_still_tail 8, (by kernel_rfl)
      change wpList _ _ _ _ _ wr.drew
      go_wp2
      go_roundg (n - (j + 1))
      case measure => omega
      case rel => exact ⟨j + 1, by simp, by omega, rfl, HB2⟩
    · obtain rfl : j = n := by omega
      have HQ : Hid (P (.returned (.bool true)) wr) := by
        rw [← HP.out]
        exact Lib.hid ⟨rfl, HBl.out⟩
      go_wp2
      exact HQ.out
end Go.Proofs.YtnmhdcbpbaanoaaGreatDoor

namespace Go.Proofs.YtnmhdcbpbaanoaaGreatDoor
open Go.RowKit Go.Shelf Go.Maps
attribute [local go_sem] Oper.semAt_some

theorem rulsC_at : ∀ (xs : List RulX) (j : Nat) (x : RulX), xs[j]? = some x → ∀ i u, (rulC x).toList[i]? = some u → (rulsC xs)[j * 5 + i]? = some u
  | [], j, x, h => by simp at h
  | y :: t, 0, x, h => fun i u hi => by
    obtain rfl : y = x := by simpa using h
    have hlt : i < 5 := (List.getElem?_eq_some_iff.1 hi).1
    unfold rulsC
    rw [List.flatMap_cons, Nat.zero_mul, Nat.zero_add, List.getElem?_append_left (by show i < 5; exact hlt)]
    exact hi
  | y :: t, j + 1, x, h => fun i u hi => by
    have h1 := rulsC_at t j x (by simpa using h) i u hi
    unfold rulsC at h1 ⊢
    rw [List.flatMap_cons, List.getElem?_append_right (by show 5 ≤ _; omega)]
    rw [← h1]
    congr 1
    show (j + 1) * 5 + i - 5 = j * 5 + i
    omega
/-- A row of rules of a call's own. -/
theorem atC_own {w : World} {base n cap : Nat} {o : Option Addr} {xs : List RulX} (ho : w.ownsRow base 37 5 (.slice o n cap) n (rulsC xs)) (hn : n = xs.length) : AtC w o xs := fun h0 => by
  obtain ⟨g, rfl, hc⟩ := row_placeK ho (by omega)
  refine ⟨g, 0, rfl, fun j x hx => ?_⟩
  have h := rulsC_at xs j x hx
  refine ⟨?_, ?_, ?_, ?_, ?_⟩
  · have := hc _ _ (h 0 _ rfl); simpa using this
  · have := hc _ _ (h 1 _ rfl); simpa using this
  · have := hc _ _ (h 2 _ rfl); simpa using this
  · have := hc _ _ (h 3 _ rfl); simpa using this
  · have := hc _ _ (h 4 _ rfl); simpa using this
theorem list_anyJ (o : Option Addr) (n cap : Nat) (hn : n ≤ cap) (w : World) :
    Calls Tryz.prog 13 #[.slice o n cap] w fun e w' => e = .returned (.slice o (min n 30) cap) ∧ w = w' := by
  obtain ⟨k, hk⟩ : ∃ k, min n 30 = k := ⟨_, rfl⟩
  have hk2 : min ((n : Nat) : Int) 30 = ((k : Nat) : Int) := by omega
  have hkn : k ≤ n := by omega
  have hkc : k ≤ cap := by omega
  rw [hk]
  go_enter Tryz.func13, Tryz.ntmps13
  go_wp2
  go_ret
  exact ⟨rfl, rfl⟩
theorem fewC_of {xs : List RulX} {R : List RuleP} (h : xs.map plX = R) (hR : ∀ r ∈ R, r.1.2.length ≤ 1000 ∧ r.2.1.2.length ≤ 1000) : FewC xs := fun x hx => hR (plX x) (by rw [← h]; exact List.mem_map_of_mem hx)
set_option maxRecDepth 100000 in
set_option maxHeartbeats 4000000 in
theorem shownJ_any (w : World) (aU aS : Addr) (hQ : GlobQ w aU aS) (hG : KGlob w) {m : Int} (hMx : w.cell? ⟨3, 0, none⟩ = some (.int .i64 m)) : Calls Tryz.prog 11 #[] w fun e w' => e = .returned (.bool true) ∧ Below w.heap.size w w' := by
  obtain ⟨W0, hW0⟩ : ∃ W0, w.alloc (.cells #[.string ⟨#[67, 82]⟩, .string ⟨#[76, 70]⟩] 9) = W0 := ⟨_, rfl⟩
  have A0 : Below w.heap.size w W0 := by rw [← hW0]; exact (Below.refl _ _).alloc (Nat.le_refl _) _
  have r0 : W0.heap[w.heap.size]? = some (.cells #[.string ⟨#[67, 82]⟩, .string ⟨#[76, 70]⟩] 9 (0, 0)) := by rw [← hW0]; exact heap_alloc_new _ _
  have T0 : TxtAt W0 (some ⟨w.heap.size, 0, none⟩) exNJ := txt_row exNJ r0 (fun j x hx => by
    match j, hx with
    | 0, hx => cases hx; rfl
    | 1, hx => cases hx; rfl
    | j + 2, hx => simp [exNJ] at hx)
  have hz : ∀ s ∈ exNJ, s.size ≤ 1000 := by decide
  have HW0 := Lib.hid hW0
  have HA0 := Lib.hid A0
  have KP : Hid (∀ (t : ByteArray) W, t.size ≤ 1000 → Below W0.heap.size W0 W → Calls Tryz.prog 26 #[.string t, .slice (some ⟨w.heap.size, 0, none⟩) 2 2] W (ParsePost (parseU exNJ t.data.toList) W)) := Lib.hid fun t W ht hb =>
    ParseJ_any t (by omega) (some ⟨w.heap.size, 0, none⟩) exNJ 2 (by decide) hz W aU aS ((hQ.below A0).below hb) ((hG.below A0).below hb) (T0.below hb) (cell_keep ((A0.trans (hb.mono A0.size))) hMx)
  have KP1 : Hid (∀ W, Below W0.heap.size W0 W → Calls Tryz.prog 26 #[.string exAJ, .slice (some ⟨w.heap.size, 0, none⟩) 2 2] W fun e w' => ∃ o cap xs, e = .returned (.tuple #[.slice o 2 cap, .int .i64 0, .int .i64 0]) ∧ Hid (xs.map plX = exRJ) ∧ Hid (xs.length = 2) ∧ Hid (AtC w' o xs) ∧ Hid (ItsC w' xs) ∧ Hid (Below W.heap.size W w')) := Lib.hid fun W hb => by
    refine (KP.out exAJ W (by decide) hb).mono ?_
    rintro e w' ⟨v, xs, rfl, hp, ho, hi, hk, h2⟩
    obtain ⟨e1, e2, e3⟩ := exJ_1
    rw [e1] at hp
    have hl : xs.length = 2 := by have := congrArg List.length hp; simpa using this
    obtain ⟨o, cap, rfl⟩ := own_form ho
    exact ⟨o, cap, xs, by rw [e2, e3, hl], Lib.hid hp, Lib.hid hl, Lib.hid (atC_own ho rfl), Lib.hid hi, Lib.hid h2⟩
  have KP2 : Hid (∀ W, Below W0.heap.size W0 W → Calls Tryz.prog 26 #[.string exBJ, .slice (some ⟨w.heap.size, 0, none⟩) 2 2] W fun e w' => ∃ o n cap, e = .returned (.tuple #[.slice o n cap, .int .i64 3, .int .i64 90]) ∧ Hid (Below W.heap.size W w')) := Lib.hid fun W hb => by
    refine (KP.out exBJ W (by decide) hb).mono ?_
    rintro e w' ⟨v, xs, rfl, hp, ho, hi, hk, h2⟩
    obtain ⟨e2, e3⟩ := exJ_2
    obtain ⟨o, cap, rfl⟩ := own_form ho
    exact ⟨o, _, cap, by rw [e2, e3], Lib.hid h2⟩
  have hRf : ∀ r ∈ exRJ, r.1.2.length ≤ 1000 ∧ r.2.1.2.length ≤ 1000 := by decide
  have hL : ∀ W : World, ListJ (W.alloc (.cells #[.int .i64 0, .int .i64 1, .int .i64 1] 3)) (some ⟨W.heap.size, 0, none⟩) [0, 1, 1] 3 := fun W => ⟨num_row [0, 1, 1] (heap_alloc_new _ _), Nat.le_refl _, fun h => (by cases h), fun p h _ => (by cases h; rfl)⟩
  have hb3 : ∀ W : World, Below W.heap.size W (W.alloc (.cells #[.int .i64 0, .int .i64 1, .int .i64 1] 3)) := fun W => (Below.refl _ _).alloc (Nat.le_refl _) _
  have KC : Hid (∀ o cap xs W, Hid (xs.map plX = exRJ) → Hid (xs.length = 2) → Hid (AtC W o xs) → Hid (ItsC W xs) → Below W0.heap.size W0 W → Calls Tryz.prog 14 #[.slice o 2 cap, .slice (some ⟨W.heap.size, 0, none⟩) 3 3] (W.alloc (.cells #[.int .i64 0, .int .i64 1, .int .i64 1] 3)) fun e w' => ∃ o' c', e = .returned (.tuple #[.slice o' 3 c', .int .i64 0]) ∧ Hid (NumsAt w' o' [0, 2, 3]) ∧ Hid (Below W.heap.size W w')) := Lib.hid fun o cap xs W h1 h2 h3 h4 hb => by
    have h := CutsJ_any o (some ⟨W.heap.size, 0, none⟩) xs cap 3 [0, 1, 1] (by rw [h2.out]; omega) (by decide) (fewC_of h1.out hRf) _ (((hG.below A0).below hb).below (hb3 W)) (h3.out.below (hb3 W)) (h4.out.below (hb3 W)) (hL W)
    rw [h1.out, h2.out, exJ_4.1, exJ_4.2] at h
    refine h.mono ?_
    rintro e w' ⟨o', c', rfl, h5, _, h6⟩
    exact ⟨o', c', rfl, Lib.hid h5, Lib.hid ((hb3 W).trans (h6.mono (hb3 W).size))⟩
  have KD : Hid (∀ o cap xs W, Hid (xs.map plX = exRJ) → Hid (xs.length = 2) → Hid (AtC W o xs) → Hid (ItsC W xs) → Calls Tryz.prog 16 #[.slice o 2 cap, .slice (some ⟨W.heap.size, 0, none⟩) 3 3, .int .i64 1] (W.alloc (.cells #[.int .i64 0, .int .i64 1, .int .i64 1] 3)) fun e w' => e = .returned (.tuple #[.bool false, .int .i64 0]) ∧ Hid (Below W.heap.size W w')) := Lib.hid fun o cap xs W h1 h2 h3 h4 => by
    have h := DecideJ_any o (some ⟨W.heap.size, 0, none⟩) xs cap 3 [0, 1, 1] 1 (by rw [h2.out]; omega) (by decide) (fewC_of h1.out hRf) _ (h3.out.below (hb3 W)) (h4.out.below (hb3 W)) (hL W)
    rw [h1.out, h2.out, exJ_5] at h
    refine h.mono ?_
    rintro e w' ⟨rfl, h6⟩
    exact ⟨rfl, Lib.hid ((hb3 W).trans (h6.mono (hb3 W).size))⟩
  have KR : Hid (∀ o cap xs W, Hid (xs.map plX = exRJ) → Hid (xs.length = 2) → Hid (AtC W o xs) → Hid (ItsC W xs) → Below W0.heap.size W0 W → Calls Tryz.prog 24 #[.slice o 2 cap, .slice (some ⟨w.heap.size, 0, none⟩) 2 2] W fun e w' => e = .returned (.tuple #[.string exTJ, .int .i64 0]) ∧ Hid (Below W.heap.size W w')) := Lib.hid fun o cap xs W h1 h2 h3 h4 hb => by
    have h := PrintJ_any o (some ⟨w.heap.size, 0, none⟩) xs exNJ cap 2 (by decide) hz (by rw [h2.out]; omega) (fewC_of h1.out hRf) W aU aS ((hQ.below A0).below hb) ((hG.below A0).below hb) h3.out h4.out (T0.below hb)
    rw [h1.out, h2.out, show strV (printUV exNJ exRJ) = .string exTJ from congrArg Value.string exJ_3.1, exJ_3.2] at h
    refine h.mono ?_
    rintro e w' ⟨rfl, h6⟩
    exact ⟨rfl, Lib.hid h6⟩
  have KI : Hid (∀ o cap W, Hid (NumsAt W o [0, 2, 3]) → Calls Tryz.prog 20 #[.slice o 3 cap, .slice (some ⟨W.heap.size, 0, none⟩) 3 3] (W.alloc (.cells #[.int .i64 0, .int .i64 2, .int .i64 3] 3)) fun e w' => e = .returned (.bool true) ∧ Hid (Below W.heap.size W w')) := Lib.hid fun o cap W h1 => by
    have hb : Below W.heap.size W (W.alloc (.cells #[.int .i64 0, .int .i64 2, .int .i64 3] 3)) := (Below.refl _ _).alloc (Nat.le_refl _) _
    refine (ints_sameK o (some ⟨W.heap.size, 0, none⟩) [0, 2, 3] cap 3 (by decide) _ (h1.out.below hb) (num_row [0, 2, 3] (heap_alloc_new _ _))).mono ?_
    rintro e w' ⟨rfl, h⟩
    exact ⟨rfl, Lib.hid (hb.trans (h.mono hb.size))⟩
  clear hW0 A0 r0 T0 hz hQ hG KP hMx hRf hL hb3
  go_enter Tryz.func11, Tryz.ntmps11
  go_wp2_with fail
  rw [HW0.out]
  refine (KP1.out W0 (Below.refl _ _)).mono ?_
  rintro e w1 ⟨o1, c1, xs, rfl, hp, hl, a1, i1, b1⟩
  go_wp2_with fail
  refine (KC.out o1 c1 xs w1 hp hl a1 i1 b1.out).mono ?_
  rintro e w2 ⟨o2, c2, rfl, n2, b2⟩
  have a2 := Lib.hid (a1.out.below b2.out)
  have i2 := Lib.hid (i1.out.below b2.out)
  have B2 := Lib.hid (b1.out.trans (b2.out.mono b1.out.size))
  go_wp2_with fail
  refine (KD.out o1 c1 xs w2 hp hl a2 i2).mono ?_
  rintro e w3 ⟨rfl, b3⟩
  have a3 := Lib.hid (a2.out.below b3.out)
  have i3 := Lib.hid (i2.out.below b3.out)
  have n3 := Lib.hid (n2.out.below b3.out)
  have B3 := Lib.hid (B2.out.trans (b3.out.mono B2.out.size))
  go_wp2_with fail
  refine (KR.out o1 c1 xs w3 hp hl a3 i3 B3.out).mono ?_
  rintro e w4 ⟨rfl, b4⟩
  have n4 := Lib.hid (n3.out.below b4.out)
  have B4 := Lib.hid (B3.out.trans (b4.out.mono B3.out.size))
  go_wp2_with fail
  refine (KP2.out w4 B4.out).mono ?_
  rintro e w5 ⟨o5, k5, c5, rfl, b5⟩
  have n5 := Lib.hid (n4.out.below b5.out)
  have B5 := Lib.hid (B4.out.trans (b5.out.mono B4.out.size))
  clear KP1 KP2 KC KD KR
  go_wp2_with fail
  refine (KI.out o2 c2 w5 n5).mono ?_
  rintro e w6 ⟨rfl, b6⟩
  have B6 := Lib.hid (HA0.out.trans ((B5.out.trans (b6.out.mono B5.out.size)).mono HA0.out.size))
  go_wp2_with fail
  go_ret
  exact ⟨rfl, B6.out⟩
end Go.Proofs.YtnmhdcbpbaanoaaGreatDoor

namespace Go.Proofs.YtnmhdcbpbaanoaaGreatDoor
open Go.ChangeShapes Go.WideShapes Go.ChangeAt Go.RowKit Go.ChangeMaps

theorem cellsRulJ : Tryz.prog.cellsOf 37 = 5 := by kernel_rfl
theorem list5J {α : Type} {cs : List α} (h : cs.length = 5) : ∃ c0 c1 c2 c3 c4, cs = [c0, c1, c2, c3, c4] := by
  match cs, h with
  | [c0, c1, c2, c3, c4], _ => exact ⟨c0, c1, c2, c3, c4, rfl⟩
section
variable {H : Type} {enc : TypeId × Value → H} {W : World}
theorem trod3J {P : Program} {t : TypeId} {f0 f1 f2 : Field} {base : Nat} {spare : Nat → Bool} {held : Bool} {fuel : Nat} {cs : List Value} {x : DataW H × List MemPlace} (ht : P.underlying t = some (.struct #[f0, f1, f2])) (h : DataW.trod enc P W base spare held fuel t cs = some x) :
    ∃ y0 y1 y2 n, cs.length = P.cellsOf t ∧ DataW.trod enc P W base spare held n f0.type ((cs.drop f0.offset).take (P.cellsOf f0.type)) = some y0 ∧
      DataW.trod enc P W base spare held n f1.type ((cs.drop f1.offset).take (P.cellsOf f1.type)) = some y1 ∧ DataW.trod enc P W base spare held n f2.type ((cs.drop f2.offset).take (P.cellsOf f2.type)) = some y2 := by
  obtain ⟨xs, n, _, rfl, hl, hlen, hf⟩ := DataW.trod_struct ht h
  match xs, hlen with
  | [y0, y1, y2], _ => exact ⟨y0, y1, y2, n, hl, by simpa using hf 0 f0 rfl, by simpa using hf 1 f1 rfl, by simpa using hf 2 f2 rfl⟩
/-- A rule that came in. -/
def RulIn (w : World) (X : RulX) : Prop := (ItsInQ w X.1.2.1 X.1.2.2.1 ∧ X.1.2.2.1.length ≤ X.1.2.2.2) ∧ ItsInQ w X.2.1.2.1 X.2.1.2.2.1 ∧ X.2.1.2.2.1.length ≤ X.2.1.2.2.2
theorem open_rulJ {fuel : Nat} {cs : List Value} {x : DataW H × List MemPlace} (h : DataW.trod enc Tryz.prog W 0 (fun _ => true) true fuel 37 cs = some x) : ∃ X : RulX, cs = (rulC X).toList ∧ RulIn W X := by
  obtain ⟨y0, y1, y2, n, hl, h0, h1, h2⟩ := trod3J Tryz.underlying37 h
  rw [cellsRulJ] at hl
  obtain ⟨k0, k1, k2, k3, k4, rfl⟩ := list5J hl
  change DataW.trod enc Tryz.prog W 0 (fun _ => true) true n 35 (List.take (Tryz.prog.cellsOf 35) (List.drop 0 [k0, k1, k2, k3, k4])) = _ at h0
  change DataW.trod enc Tryz.prog W 0 (fun _ => true) true n 35 (List.take (Tryz.prog.cellsOf 35) (List.drop 2 [k0, k1, k2, k3, k4])) = _ at h1
  change DataW.trod enc Tryz.prog W 0 (fun _ => true) true n 4 (List.take (Tryz.prog.cellsOf 4) (List.drop 4 [k0, k1, k2, k3, k4])) = _ at h2
  rw [cellsPatQ] at h0 h1
  rw [cellsBoolQ] at h2
  obtain ⟨s1, o1, xs1, c1, e1, i1, l1⟩ := open_pat h0
  obtain ⟨s2, o2, xs2, c2, e2, i2, l2⟩ := open_pat h1
  obtain ⟨br, e3, _⟩ := DataW.trod_bool Tryz.underlying4 h2
  have e1' : k0 = .bool s1 ∧ k1 = .slice o1 xs1.length c1 := by simpa using e1
  have e2' : k2 = .bool s2 ∧ k3 = .slice o2 xs2.length c2 := by simpa using e2
  have e3' : k4 = .bool br := by simpa using e3
  obtain ⟨rfl, rfl⟩ := e1'
  obtain ⟨rfl, rfl⟩ := e2'
  obtain rfl := e3'
  exact ⟨((s1, o1, xs1, c1), (s2, o2, xs2, c2), br), rfl, ⟨i1, l1⟩, i2, l2⟩
theorem open_rulsJ {fuel : Nat} {v : Value} {x : DataW H × List MemPlace} (h : DataW.trod enc Tryz.prog W 0 (fun _ => true) true fuel 22 [v] = some x) :
    ∃ (o : Option Addr) (l : List RulX) (cap : Nat), v = .slice o l.length cap ∧ (AtC W o l ∧ ItsC W l) ∧ l.length ≤ cap := by
  rcases DataW.trod_slice Tryz.underlying22 h with ⟨hv, _⟩ | ⟨a, len, cap, elems, rest, n, _, hv, _, _, hle, hcap, hlen, hc, _, _⟩
  · obtain rfl : v = .slice none 0 0 := by simpa using hv
    exact ⟨none, [], 0, rfl, ⟨fun h => absurd h (Nat.not_lt_zero _), fun c h => by cases h⟩, Nat.le_refl _⟩
  · obtain rfl : v = .slice (some a) len cap := by simpa using hv
    have hall : ∀ i, i < len → ∃ X : RulX, (W.cell? ((a.add (i * 5)).add 0) = some (.bool X.1.1) ∧ W.cell? ((a.add (i * 5)).add 1) = some (.slice X.1.2.1 X.1.2.2.1.length X.1.2.2.2) ∧ W.cell? ((a.add (i * 5)).add 2) = some (.bool X.2.1.1) ∧
        W.cell? ((a.add (i * 5)).add 3) = some (.slice X.2.1.2.1 X.2.1.2.2.1.length X.2.1.2.2.2) ∧ W.cell? ((a.add (i * 5)).add 4) = some (.bool X.2.2)) ∧ RulIn W X := fun i hi => by
      have he := hc i hi
      rw [cellsRulJ, List.getElem?_eq_getElem (by omega)] at he
      obtain ⟨cs, hcs, ht⟩ := Option.bind_eq_some_iff.1 he
      obtain ⟨_, hl, hg⟩ := World.cells?_some hcs
      obtain ⟨X, rfl, h1⟩ := open_rulJ ht
      exact ⟨X, ⟨by rw [hg 0 (by omega)]; rfl, by rw [hg 1 (by omega)]; rfl, by rw [hg 2 (by omega)]; rfl, by rw [hg 3 (by omega)]; rfl, by rw [hg 4 (by omega)]; rfl⟩, h1⟩
    obtain ⟨rs, hrl, hrs⟩ := list_ofQ len hall
    subst hrl
    refine ⟨some a, rs, cap, rfl, ⟨fun hn => ?_, fun c hc => by
      obtain ⟨i, hi⟩ := List.getElem?_of_mem hc
      obtain ⟨⟨i1, l1⟩, i2, l2⟩ := (hrs i c hi).2
      exact ⟨⟨i1.1, l1⟩, i2.1, l2⟩⟩, by omega⟩
    have h0 := (hrs 0 _ (List.getElem?_eq_getElem hn)).1.1
    obtain ⟨g, off, spot⟩ := a
    have hspot : spot = none := by simpa [Addr.add] using World.cell?_spot h0
    subst hspot
    refine ⟨g, off, rfl, fun j x hx => ?_⟩
    obtain ⟨⟨c0, c1, c2, c3, c4⟩, _⟩ := hrs j x hx
    rw [add_atQ2, add_atQ2] at c0 c1 c2 c3 c4
    exact ⟨c0, c1, c2, c3, c4⟩
end
theorem mx_shapedJ {W : World} (h : W.ShapedOpen Tryz.prog) : ∃ m, W.cell? ⟨3, 0, none⟩ = some (.int .i64 m) :=
  cell_of_shapedOpen_int (t := 3) (zero := #[.int .i64 0]) h (of_decide_eq_true (by kernel_rfl)) (by kernel_rfl) rfl (by kernel_rfl) (by kernel_rfl) Tryz.underlying3
end Go.Proofs.YtnmhdcbpbaanoaaGreatDoor
