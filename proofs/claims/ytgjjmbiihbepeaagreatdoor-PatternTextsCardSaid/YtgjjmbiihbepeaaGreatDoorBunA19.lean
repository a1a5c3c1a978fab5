/- What the cards' own ties give, of pattern: the two sentinels, the handle of the library's error; a world for the witness; openings of arguments; the last step of each row. Cut, few: the first items, the first numbers. shown: sets' texts are known. The document's own Split; a text put behind others. Few: the first texts, cut; cut. The document's own worth, Right, Has, Of, Classes, Not. The document's own Right. -/
import Derived.Test.YtgjjmbiihbepeaaGreatDoorBunA18
import Derived.Test.YtgjjmbiihbepeaaGreatDoorCards
import Derived.Test.YtgjjmbiihbepeaaGreatDoorTie
import Derived.Test.YtgjjmbiihbepeaaGreatDoorChecked
import Derived.ProofKit
import Derived.OpenShut
import Derived.Below
import Derived.ChangeSame
import Derived.ChangeMaps5
import Derived.Carry
import Derived.Deep.DeepHandedRow
import Derived.Deep.DeepWitnessRowRef
import Derived.LaidSub
import Derived.LaidHandle
import Derived.Lay
import Derived.MakeChecks
import Derived.Shelf.Vars
import Derived.LaidMore
import Derived.Stop.LaidTwo
import Derived.Test.YtgjjmbiihbepeaaGreatDoorBunA15
import Derived.Test.YtgjjmbiihbepeaaGreatDoorBunA12
namespace Go.Proofs.YtgjjmbiihbepeaaGreatDoor
open Go.ChangeShapes Go.WideShapes Go.ChangeAt Go.RowKit Go.ChangeMaps Go.Shelf

theorem ownQ : ownKnob Tryz.prog.godebug = none := by kernel_rfl
theorem gArgQ : Tryz.prog.globalNamed "virama/pattern.errArg" = some 0 := by kernel_rfl
theorem gPatQ : Tryz.prog.globalNamed "virama/pattern.errPattern" = some 1 := by kernel_rfl
theorem gArgTypeQ : (Tryz.prog.globals[0]?).map (·.type) = some 54 := by kernel_rfl
theorem gPatTypeQ : (Tryz.prog.globals[1]?).map (·.type) = some 54 := by kernel_rfl
theorem cellsEQ : Tryz.prog.cellsOf 226 = 1 := by kernel_rfl
theorem cellsSQ : Tryz.prog.cellsOf 9 = 1 := by kernel_rfl
theorem starEQ : "*" ++ "errors.errorString" = "*errors.errorString" := by decide
theorem rowEQ (u : TypeId) (h : Tryz.prog.typeName? 3 u = some "*errors.errorString") : u = 208 :=
  typeName_ptr_named (nm := "errors.errorString") (by rw [starEQ]; kernel_rfl) (by kernel_rfl) (by decide) u (by rw [starEQ]; exact h)
abbrev laid2Q : List (String × DataW Unit) := [("virama/pattern.errArg", Rows.laid_virama_pattern_errArg), ("virama/pattern.errPattern", Rows.laid_virama_pattern_errPattern)]
abbrev laidPQ : List (String × DataW Unit) := [("unicode/utf8.acceptRanges", Rows.laid_unicode_utf8_acceptRanges), ("virama/pattern.errArg", Rows.laid_virama_pattern_errArg), ("virama/pattern.errPattern", Rows.laid_virama_pattern_errPattern), ("unicode/utf8.first", Rows.laid_unicode_utf8_first)]
abbrev laidTQ : List (String × DataW Unit) := [("unicode/utf8.acceptRanges", Rows.laid_unicode_utf8_acceptRanges), ("unicode/utf8.first", Rows.laid_unicode_utf8_first)]
abbrev laidAQ : List (String × DataW Unit) := [("unicode/utf8.acceptRanges", Rows.laid_unicode_utf8_acceptRanges), ("errors.errorType", Rows.laid_errors_errorType), ("virama/pattern.errArg", Rows.laid_virama_pattern_errArg), ("virama/pattern.errPattern", Rows.laid_virama_pattern_errPattern), ("unicode/utf8.first", Rows.laid_unicode_utf8_first)]
theorem gEtQ : Tryz.prog.globalNamed "errors.errorType" = some 2 := by kernel_rfl
theorem rtNQ : (Tryz.prog.cutTypes.find? (·.1 == "internal/reflectlite.rtype")).map (·.2) = some 140 := by kernel_rfl
theorem typesNQ : Tryz.prog.types.size = 238 := by kernel_rfl
theorem oneRowQ : ((List.range 238).filter fun t => Tryz.prog.rowNamed t [101, 114, 114, 111, 114]) = [54] := by kernel_rfl
theorem et_of_laidQ {W : World} (h : laidMetH Tryz.prog laidAQ W) : W.cell? ⟨2, 0, none⟩ = some (.iface 140 (.agg #[.pointer (some ⟨6, 54, none⟩)])) := by
  have h1 := laidMetH.filter (fun x => x.1 == "errors.errorType") h
  have h2 : laidMetH Tryz.prog [("errors.errorType", Rows.laid_errors_errorType)] W := h1
  have h' : laidMet Tryz.prog [] W ∧ handlesMet Tryz.prog [("errors.errorType", Rows.laid_errors_errorType)] W := h2
  obtain ⟨name, u, ty, e1, e2, e3, e4, e5⟩ := h'.2 _ (List.mem_singleton.2 rfl)
  have en : name = [101, 114, 114, 111, 114] := (Option.some.inj e1).symm
  subst en
  obtain rfl := Option.some.inj (rtNQ.symm.trans e2)
  have hm : ty ∈ (List.range 238).filter fun t => Tryz.prog.rowNamed t [101, 114, 114, 111, 114] := List.mem_filter.2 ⟨List.mem_range.2 (by rw [← typesNQ]; exact e3), e4⟩
  rw [oneRowQ] at hm
  obtain rfl := List.mem_singleton.1 hm
  have hh : typeHandle Tryz.prog 54 = .pointer (some ⟨6, 54, none⟩) := by kernel_rfl
  rw [hh] at e5
  simpa using World.var?_cell gEtQ e5 0
theorem kglob_ofQ {W : World} (h : laidMetH Tryz.prog laidAQ W) : KGlob W := ⟨et_of_laidQ h⟩
theorem glob_ofQ {W : World} (h : laidMetH Tryz.prog laidAQ W) : ∃ aU aS, GlobQ W aU aS := by
  have h1 := laidMetH.filter (fun x => x.1 == "virama/pattern.errArg" || x.1 == "virama/pattern.errPattern") h
  have h2 : laidMetH Tryz.prog laid2Q W := h1
  have h' : laidMet Tryz.prog laid2Q W := h2
  obtain ⟨a0, a1, s0, s1, c0, c1, t0, t1, hv0, hv1, hc0, hs0, hz0, hc1, hs1, hz1, hne, hb0, hb1⟩ :=
    laid_sentinels2 h' gArgQ gArgTypeQ gPatQ gPatTypeQ Tryz.underlying54 rowEQ Tryz.underlying208 Tryz.underlying226 rfl rfl Tryz.underlying9 cellsEQ cellsSQ
  have hS : W.cell? ⟨0, 0, none⟩ = some (errVQ a0) := by simpa using World.var?_cell gArgQ hv0 0
  have hU : W.cell? ⟨1, 0, none⟩ = some (errVQ a1) := by simpa using World.var?_cell gPatQ hv1 0
  have lt : ∀ {g : Nat} {v : Value}, W.cell? ⟨g, 0, none⟩ = some v → g < W.heap.size := by
    intro g v hc
    rcases Nat.lt_or_ge g W.heap.size with h1 | h1
    · exact h1
    · simp [World.cell?, Array.getElem?_eq_none h1] at hc
  exact ⟨a1, a0, hU, hS, Ne.symm hne, ⟨c1, t1, hb1⟩, ⟨c0, t0, hb0⟩, lt hU, lt hS⟩

/-- A WORLD FOR THE WITNESS. -/
noncomputable def lowQ : Nat := (World.holding Tryz.prog default ⟨#[], #[], []⟩).heap.size
abbrev argSQ : ByteArray := ⟨#[112, 97, 116, 116, 101, 114, 110, 58, 32, 110, 97, 109, 101, 115, 32, 116, 104, 97, 116, 32, 97, 114, 101, 32, 110, 111, 110, 101]⟩
abbrev patSQ : ByteArray := ⟨#[112, 97, 116, 116, 101, 114, 110, 58, 32, 97, 32, 112, 97, 116, 116, 101, 114, 110, 32, 116, 104, 97, 116, 32, 105, 115, 32, 110, 111, 116, 32, 114, 105, 103, 104, 116, 44, 32, 111, 114, 32, 97, 32, 116, 101, 120, 116, 32, 116, 104, 97, 116, 32, 105, 115, 32, 110, 111, 110, 101, 39, 115]⟩
noncomputable def baseWorldQ (os : Os) : World :=
  let w0 := World.holding Tryz.prog os ⟨#[.cells #[.string argSQ] 226, .cells #[.string patSQ] 226], #[], []⟩
  { w0 with heap := ((w0.heap.modify 0 fun
      | .cells _ t frozen => .cells #[errVQ ⟨lowQ, 0, none⟩] t frozen
      | o => o).modify 1 fun
      | .cells _ t frozen => .cells #[errVQ ⟨lowQ + 1, 0, none⟩] t frozen
      | o => o).modify 2 fun
      | .cells _ t frozen => .cells #[.iface 140 (.agg #[.pointer (some ⟨6, 54, none⟩)])] t frozen
      | o => o }
noncomputable def laidWorldQ (os : Os) : World := (baseWorldQ os).layVars Tryz.prog laidTQ
theorem laidWorld_osQ (os : Os) : (laidWorldQ os).os = os := World.layVars_os _ _ _
set_option maxRecDepth 100000 in
theorem laid_met_wQ (os : Os) (args : Array Value) : laidMet Tryz.prog laidPQ ((laidWorldQ os).forCall (fun _ _ => 0) ⟨#[], args, []⟩).memory :=
  laidMet_of_run' 8 (by kernel_rfl) (by kernel_rfl)
set_option maxRecDepth 100000 in
theorem laid_metQ (os : Os) (args : Array Value) : laidMetH Tryz.prog laidAQ ((laidWorldQ os).forCall (fun _ _ => 0) ⟨#[], args, []⟩).memory :=
  laidMetH_of_parts (laid_met_wQ os args) (by kernel_rfl)

/-- WHAT EACH ROW ASKS OF A CALL THAT ANSWERS true AND LEAVES WHAT LAY BEFORE IT AS IT LAY. -/
theorem true_postQ {H : Type} {enc : TypeId × Value → H} {f : Func} {s : ChangeSpec} {W W' : World} {args : Array Value} {ds gs : List (DataW H)} {before : List MemPlace}
    (hW : DataW.Whole enc Tryz.prog f.params.toList s.vars false W args.toList ds gs before) (hr : f.resultTypes = #[4]) (hfn : s.fn H (ds ++ gs) = { results := [.lit (.bool true)], args := ds }) (hv : s.vars = [])
    (hargs : DataW.TrodAll enc Tryz.prog W' 0 (fun b => decide (b < W.heap.size)) true f.params.toList args.toList ds before) (hb : Below W.heap.size W W') :
    s.post enc Tryz.prog f false true false false W args (.bool true) W' := by
  refine ⟨ds, gs, before, [], before, [], hW, ?_, ?_, ?_, ?_, fun h => by cases h⟩
  · rw [hr, hfn]
    exact trodAll_cons_mk (shut_bool Tryz.underlying4 _) trodAll_mk0
  · rw [hfn]
    exact hargs
  · rw [hv, hfn]
    rfl
  · exact World.keptBut_mono (fun p hp => ⟨hp, .inr (.inl hp)⟩) (hb.frame (· ∈ before))

/-- Numbers that came in, wherever they lie. -/
def NumsInQ (w : World) (o : Option Addr) (l : List Int) : Prop := NumsAt w o l ∧ ∀ c ∈ l, In64K c
theorem in64_wfQ {n : Int} (h : (Lit.int .i64 n).wf = true) : In64K n := by
  simp [Lit.wf, IntKind.min, IntKind.max, IntKind.signed, IntKind.bits] at h
  exact h
theorem list_ofQ {α : Type} {Q : Nat → α → Prop} : ∀ n : Nat, (∀ i, i < n → ∃ x, Q i x) → ∃ l : List α, l.length = n ∧ ∀ i x, l[i]? = some x → Q i x
  | 0, _ => ⟨[], rfl, fun i x h => by simp at h⟩
  | n + 1, h => by
    obtain ⟨l, hl, hq⟩ := list_ofQ n fun i hi => h i (by omega)
    obtain ⟨y, hy⟩ := h n (by omega)
    refine ⟨l ++ [y], by simp [hl], fun i x hx => ?_⟩
    rcases Nat.lt_or_ge i l.length with hi | hi
    · rw [List.getElem?_append_left hi] at hx
      exact hq i x hx
    · rw [List.getElem?_append_right hi] at hx
      have hi2 : i - l.length = 0 := by
        have := (List.getElem?_eq_some_iff.1 hx).1
        simp at this
        omega
      rw [hi2] at hx
      cases hx
      rw [show i = n from by omega]
      exact hy
theorem add_atQ2 (g off k : Nat) : (⟨g, off, none⟩ : Addr).add k = ⟨g, off + k, none⟩ := by unfold Addr.add; split <;> simp_all
theorem cellsIntQ : Tryz.prog.cellsOf 3 = 1 := by kernel_rfl
theorem cellsI64Q : Tryz.prog.cellsOf 2 = 1 := by kernel_rfl
theorem cellsStrQ : Tryz.prog.cellsOf 9 = 1 := by kernel_rfl
theorem cellsBoolQ : Tryz.prog.cellsOf 4 = 1 := by kernel_rfl
theorem cellsItQ : Tryz.prog.cellsOf 43 = 2 := by kernel_rfl
theorem cellsItsQ : Tryz.prog.cellsOf 22 = 1 := by kernel_rfl
theorem cellsPatQ : Tryz.prog.cellsOf 24 = 2 := by kernel_rfl
section
variable {H : Type} {enc : TypeId × Value → H} {W : World}
theorem open_intsQ {fuel : Nat} {v : Value} {x : DataW H × List MemPlace} (h : DataW.trod enc Tryz.prog W 0 (fun _ => true) true fuel 25 [v] = some x) :
    ∃ (o : Option Addr) (l : List Int) (cap : Nat), v = .slice o l.length cap ∧ (NumsInQ W o l ∧ (o = none → cap = 0) ∧ ∀ p, o = some p → 0 < cap → p.spot = none) ∧ l.length ≤ cap := by
  rcases DataW.trod_slice Tryz.underlying25 h with ⟨hv, _⟩ | ⟨a, len, cap, elems, rest, n, _, hv, _, _, hle, hcap, hlen, hc, hr, _⟩
  · obtain rfl : v = .slice none 0 0 := by simpa using hv
    exact ⟨none, [], 0, rfl, ⟨⟨fun h => absurd h (Nat.not_lt_zero _), fun c h => by cases h⟩, fun _ => rfl, fun p h => by cases h⟩, Nat.le_refl _⟩
  · obtain rfl : v = .slice (some a) len cap := by simpa using hv
    have hall : ∀ i, i < len → ∃ X : Int, W.cell? ((a.add (i * 1)).add 0) = some (.int .i64 X) ∧ In64K X := fun i hi => by
      have he := hc i hi
      rw [cellsIntQ, List.getElem?_eq_getElem (by omega)] at he
      obtain ⟨cs, hcs, ht⟩ := Option.bind_eq_some_iff.1 he
      obtain ⟨_, hl, hg⟩ := World.cells?_some hcs
      obtain ⟨b, c1, _, cw⟩ := DataW.trod_int Tryz.underlying3 ht
      exact ⟨b, by rw [hg 0 (by omega), c1]; rfl, in64_wfQ cw⟩
    have hsp : 0 < cap → a.spot = none := fun h0 => by
      rcases Nat.eq_zero_or_pos len with hz | hz
      · obtain ⟨hrl, hrc⟩ := hr rfl
        have h0l : 0 < rest.length := by rw [hrl, hz]; exact h0
        have he := hrc 0 (by rw [hz]; exact h0)
        rw [cellsIntQ, hz, List.getElem?_eq_getElem h0l] at he
        obtain ⟨cs, hcs, ht⟩ := Option.bind_eq_some_iff.1 he
        obtain ⟨_, hl, hg⟩ := World.cells?_some hcs
        have h1 := hg 0 (by omega)
        rw [List.getElem?_eq_getElem (by rw [hl]; exact Nat.one_pos)] at h1
        simpa [Addr.add] using World.cell?_spot h1
      · obtain ⟨X, h1, _⟩ := hall 0 hz
        simpa [Addr.add] using World.cell?_spot h1
    obtain ⟨rs, hrl, hrs⟩ := list_ofQ len hall
    subst hrl
    refine ⟨some a, rs, cap, rfl, ⟨⟨fun hn => ?_, fun c hc => by obtain ⟨i, hi⟩ := List.getElem?_of_mem hc; exact (hrs i c hi).2⟩, (fun h => by cases h), (fun p h h0 => by cases h; exact hsp h0)⟩, by omega⟩
    have h0 := (hrs 0 _ (List.getElem?_eq_getElem hn)).1
    obtain ⟨g, off, spot⟩ := a
    have hspot : spot = none := by simpa [Addr.add] using World.cell?_spot h0
    subst hspot
    refine ⟨g, off, rfl, fun j x hx => ?_⟩
    have c0 := (hrs j x hx).1
    rwa [add_atQ2, add_atQ2, Nat.mul_one, Nat.add_zero] at c0
theorem open_namesQ {fuel : Nat} {v : Value} {x : DataW H × List MemPlace} (h : DataW.trod enc Tryz.prog W 0 (fun _ => true) true fuel 34 [v] = some x) :
    ∃ (o : Option Addr) (ns : List ByteArray) (cap : Nat), v = .slice o ns.length cap ∧ TxtAt W o ns ∧ ns.length ≤ 9223372036854775807 := by
  have hm : maxLen = 9223372036854775807 := rfl
  rcases open_strings Tryz.underlying34 Tryz.underlying9 cellsStrQ h with ⟨hv, _⟩ | ⟨a, len, cap, ss, hv, _, hle, hcap, hlen, _, hc, _⟩
  · obtain rfl : v = .slice none 0 0 := by simpa using hv
    exact ⟨none, [], 0, rfl, fun h => absurd h (Nat.not_lt_zero _), Nat.zero_le _⟩
  · obtain rfl : v = .slice (some a) len cap := by simpa using hv
    simp only [if_true] at hlen
    have hl : (ss.take len).length = len := by rw [List.length_take]; omega
    refine ⟨some a, ss.take len, cap, by rw [hl], fun hn => ?_, by omega⟩
    rw [hl] at hn
    have h0 := hc 0 (by omega)
    obtain ⟨g, off, spot⟩ := a
    have hspot : spot = none := by simpa [Addr.add] using World.cell?_spot h0
    subst hspot
    refine ⟨g, off, rfl, fun j y hy => ?_⟩
    have hj := (List.getElem?_eq_some_iff.1 hy).1
    rw [hl] at hj
    have := hc j (by omega)
    rw [add_atQ2] at this
    rw [this]
    have hy2 : ss[j]? = some y := by rw [List.getElem?_take_of_lt hj] at hy; exact hy
    simp [List.getD, hy2]
theorem list1Q {α : Type} {cs : List α} (h : cs.length = 1) : ∃ c0, cs = [c0] := by
  match cs, h with
  | [c0], _ => exact ⟨c0, rfl⟩
theorem list2Q {α : Type} {cs : List α} (h : cs.length = 2) : ∃ c0 c1, cs = [c0, c1] := by
  match cs, h with
  | [c0, c1], _ => exact ⟨c0, c1, rfl⟩
theorem open_itQ {fuel : Nat} {cs : List Value} {x : DataW H × List MemPlace} (h : DataW.trod enc Tryz.prog W 0 (fun _ => true) true fuel 43 cs = some x) : ∃ X : ItemP, cs = [.int .i64 X.1, .int .i64 X.2] ∧ In64K X.1 ∧ In64K X.2 := by
  obtain ⟨y0, y1, n, _, hl, h0, h1⟩ := trod_struct2 Tryz.underlying43 h
  rw [cellsItQ] at hl
  obtain ⟨k0, k1, rfl⟩ := list2Q hl
  change DataW.trod enc Tryz.prog W 0 (fun _ => true) true n 2 (List.take (Tryz.prog.cellsOf 2) (List.drop 0 [k0, k1])) = _ at h0
  change DataW.trod enc Tryz.prog W 0 (fun _ => true) true n 3 (List.take (Tryz.prog.cellsOf 3) (List.drop 1 [k0, k1])) = _ at h1
  rw [cellsI64Q] at h0
  rw [cellsIntQ] at h1
  obtain ⟨a, e0, _, w0⟩ := DataW.trod_int Tryz.underlying2 h0
  obtain ⟨b, e1, _, w1⟩ := DataW.trod_int Tryz.underlying3 h1
  obtain rfl : k0 = .int .i64 a := by simpa using e0
  obtain rfl : k1 = .int .i64 b := by simpa using e1
  exact ⟨(a, b), rfl, in64_wfQ w0, in64_wfQ w1⟩
/-- Items that came in. -/
def ItsInQ (w : World) (o : Option Addr) (l : List ItemP) : Prop := AtI w o l ∧ ∀ x ∈ l, In64K x.1 ∧ In64K x.2
theorem open_itsQ {fuel : Nat} {v : Value} {x : DataW H × List MemPlace} (h : DataW.trod enc Tryz.prog W 0 (fun _ => true) true fuel 22 [v] = some x) :
    ∃ (o : Option Addr) (l : List ItemP) (cap : Nat), v = .slice o l.length cap ∧ ItsInQ W o l ∧ l.length ≤ cap := by
  rcases DataW.trod_slice Tryz.underlying22 h with ⟨hv, _⟩ | ⟨a, len, cap, elems, rest, n, _, hv, _, _, hle, hcap, hlen, hc, _, _⟩
  · obtain rfl : v = .slice none 0 0 := by simpa using hv
    exact ⟨none, [], 0, rfl, ⟨fun h => absurd h (Nat.not_lt_zero _), fun c h => by cases h⟩, Nat.le_refl _⟩
  · obtain rfl : v = .slice (some a) len cap := by simpa using hv
    have hall : ∀ i, i < len → ∃ X : ItemP, W.cell? ((a.add (i * 2)).add 0) = some (.int .i64 X.1) ∧ W.cell? ((a.add (i * 2)).add 1) = some (.int .i64 X.2) ∧ In64K X.1 ∧ In64K X.2 := fun i hi => by
      have he := hc i hi
      rw [cellsItQ, List.getElem?_eq_getElem (by omega)] at he
      obtain ⟨cs, hcs, ht⟩ := Option.bind_eq_some_iff.1 he
      obtain ⟨_, hl, hg⟩ := World.cells?_some hcs
      obtain ⟨X, rfl, h1, h2⟩ := open_itQ ht
      exact ⟨X, by rw [hg 0 (by omega)]; rfl, by rw [hg 1 (by omega)]; rfl, h1, h2⟩
    obtain ⟨rs, hrl, hrs⟩ := list_ofQ len hall
    subst hrl
    refine ⟨some a, rs, cap, rfl, ⟨fun hn => ?_, fun c hc => by obtain ⟨i, hi⟩ := List.getElem?_of_mem hc; exact ⟨(hrs i c hi).2.2.1, (hrs i c hi).2.2.2⟩⟩, by omega⟩
    have h0 := (hrs 0 _ (List.getElem?_eq_getElem hn)).1
    obtain ⟨g, off, spot⟩ := a
    have hspot : spot = none := by simpa [Addr.add] using World.cell?_spot h0
    subst hspot
    refine ⟨g, off, rfl, fun j x hx => ?_⟩
    obtain ⟨c0, c1, _⟩ := hrs j x hx
    rw [add_atQ2, add_atQ2] at c0 c1
    exact ⟨c0, c1⟩
theorem open_pat {fuel : Nat} {cs : List Value} {x : DataW H × List MemPlace} (h : DataW.trod enc Tryz.prog W 0 (fun _ => true) true fuel 24 cs = some x) :
    ∃ (st : Bool) (o : Option Addr) (xs : List ItemP) (cap : Nat), cs = [.bool st, .slice o xs.length cap] ∧ ItsInQ W o xs ∧ xs.length ≤ cap := by
  obtain ⟨y0, y1, n, _, hl, h0, h1⟩ := trod_struct2 Tryz.underlying24 h
  rw [cellsPatQ] at hl
  obtain ⟨k0, k1, rfl⟩ := list2Q hl
  change DataW.trod enc Tryz.prog W 0 (fun _ => true) true n 4 (List.take (Tryz.prog.cellsOf 4) (List.drop 0 [k0, k1])) = _ at h0
  change DataW.trod enc Tryz.prog W 0 (fun _ => true) true n 22 (List.take (Tryz.prog.cellsOf 22) (List.drop 1 [k0, k1])) = _ at h1
  rw [cellsBoolQ] at h0
  rw [cellsItsQ] at h1
  obtain ⟨st, e0, _⟩ := DataW.trod_bool Tryz.underlying4 h0
  obtain rfl : k0 = .bool st := by simpa using e0
  obtain ⟨o, xs, cap, rfl, hI, hc⟩ := open_itsQ (v := k1) h1
  exact ⟨st, o, xs, cap, rfl, hI, hc⟩
end
end Go.Proofs.YtgjjmbiihbepeaaGreatDoor

namespace Go.Proofs.YtgjjmbiihbepeaaGreatDoor
open Go.RowKit Go.Shelf Go.Maps
attribute [local go_sem] Oper.semAt_some

section
variable {P : Program}
theorem results_cellF {fn : Func} {p : Tmp} {ty : TypeId} (h : fn.results = #[.cell p ty]) (tmps : Array Value) (w : World) (g : Nat) (t : TypeId) (cs : Array Value) (fr : Nat × Nat) (d : TypeDesc)
    (hp : tmps.getD p undef = .pointer (some ⟨g, 0, none⟩)) (hg : w.heap[g]? = some (.cells cs t fr))
    (hu : P.underlying ty = some d) (hd : (match d with | .struct _ | .array _ _ => true | _ => false) = true) (hi : (P.info? ty).map (·.size) = some cs.size) :
    (results fn tmps).run P w = .ok (.agg cs) w := by
  have hp' : tmps[p]?.getD undef = .pointer (some ⟨g, 0, none⟩) := by simpa using hp
  simp [results, h, hp', asAddr, run_loadVar_row w g t ty cs fr d hg hu hd hi]
end
theorem fewL_any (lo : Option Addr) (l : List Int) (cap : Nat) (hn : l.length ≤ cap) (w : World) :
    Calls Tryz.prog 7 #[.slice lo l.length cap] w fun e w' => e = .returned (.slice lo (l.take 40).length cap) ∧ w = w' := by
  have hl : (l.take 40).length = min l.length 40 := by rw [List.length_take]; omega
  rw [hl]
  obtain ⟨n, hnn⟩ : ∃ n, l.length = n := ⟨_, rfl⟩
  rw [hnn] at hn ⊢
  clear hl hnn
  rcases Nat.lt_or_ge n 41 with h | h
  · have h1 : min n 40 = n := by omega
    have h2 : min ((n : Nat) : Int) 40 = ((n : Nat) : Int) := by omega
    rw [h1]
    go_enter Tryz.func7, Tryz.ntmps7
    go_wp2_with fail
    go_ret
    exact ⟨rfl, rfl⟩
  · have h1 : min n 40 = 40 := by omega
    have h2 : min ((n : Nat) : Int) 40 = 40 := by omega
    have h3 : 40 ≤ cap := by omega
    rw [h1]
    go_enter Tryz.func7, Tryz.ntmps7
    go_wp2_with fail
    go_ret
    exact ⟨rfl, rfl⟩
set_option maxRecDepth 100000 in
set_option maxHeartbeats 4000000 in
theorem cutP_any (st : Bool) (o : Option Addr) (xs : List ItemP) (cap : Nat) (hn : xs.length ≤ cap) (w : World) :
    Calls Tryz.prog 6 #[patV st o xs.length cap] w fun e w' => e = .returned (patV st o (xs.take 12).length cap) ∧ Below w.heap.size w w' := by
  have hl : (xs.take 12).length = min xs.length 12 := by rw [List.length_take]; omega
  rw [hl]
  obtain ⟨n, hnn⟩ : ∃ n, xs.length = n := ⟨_, rfl⟩
  rw [hnn] at hn ⊢
  clear hl hnn
  obtain ⟨k, hk⟩ : ∃ k, min n 12 = k := ⟨_, rfl⟩
  have hk2 : min ((n : Nat) : Int) 12 = ((k : Nat) : Int) := by omega
  have hkn : k ≤ n := by omega
  have hkc : k ≤ cap := by omega
  rw [hk]
  obtain ⟨w1, hw1⟩ : ∃ w1, w.alloc (patO st o n cap) = w1 := ⟨_, rfl⟩
  have b1 : Below w.heap.size w w1 := by rw [← hw1]; exact (Below.refl _ _).alloc (Nat.le_refl _) _
  have r1 : w1.heap[w.heap.size]? = some (patO st o n cap) := by rw [← hw1]; exact heap_alloc_new _ _
  have z1 : w1.heap.size = w.heap.size + 1 := by rw [← hw1]; simp
  obtain ⟨w2, hw2⟩ : ∃ w2, w1.alloc (patO false none 0 0) = w2 := ⟨_, rfl⟩
  have b2 : Below w1.heap.size w1 w2 := by rw [← hw2]; exact (Below.refl _ _).alloc (Nat.le_refl _) _
  have r2 : w2.heap[w.heap.size + 1]? = some (patO false none 0 0) := by rw [← hw2, ← z1]; exact heap_alloc_new _ _
  have r1' := row_below r1 b2
  have B2 := b1.trans (b2.mono b1.size)
  obtain ⟨p0, p1⟩ := pat_cells r1'
  obtain ⟨t0, t1⟩ := pat_cells r2
  have f0 := frozen_of_row w2 (w.heap.size + 1) 0 _ _ r2
  have f1 := frozen_of_row w2 (w.heap.size + 1) 1 _ _ r2
  obtain ⟨r3, m3⟩ := two_set (.bool st) (.slice o k cap) r2
  obtain ⟨w3, hw3⟩ : ∃ w3, (w2.setCell ⟨w.heap.size + 1, 0, none⟩ (.bool st)).setCell ⟨w.heap.size + 1, 1, none⟩ (.slice o k cap) = w3 := ⟨_, rfl⟩
  rw [hw3] at r3 m3
  have HB := Lib.hid (Moves.below B2 B2.size m3.drew (fun k hk => by omega))
  have HW1 := Lib.hid hw1
  have HW2 := Lib.hid hw2
  have HW3 := Lib.hid hw3
  have HR3 := Lib.hid r3
  clear hw1 b1 r1 z1 hw2 b2 r2 r1' B2 r3 m3 hw3
  go_enter Tryz.func6, Tryz.ntmps6
  go_wp2_with fail
  rw [HW1.out, HW2.out]
  go_region
  all_goals
    go_wp2_with fail
    rw [HW3.out]
    exact bodyPost_ret (v := patV st o k cap) (results_cellF rfl _ _ (w.heap.size + 1) _ _ _ _ rfl (show w3.drew.heap[w.heap.size + 1]? = _ from HR3.out) Tryz.underlying24 rfl (by kernel_rfl)) rfl ⟨rfl, HB.out⟩
end Go.Proofs.YtgjjmbiihbepeaaGreatDoor

namespace Go.Proofs.YtgjjmbiihbepeaaGreatDoor
open Go.RowKit Go.Shelf Go.Maps
attribute [local go_sem] Oper.semAt_some

def exN : List ByteArray := [⟨#[65]⟩, ⟨#[66]⟩, ⟨#[67]⟩, ⟨#[68]⟩]
theorem exN_ok : namesL exN := by decide +kernel
theorem exN_5 : (⟨(printV exN 5).toArray⟩ : ByteArray) = ⟨#[91, 65, 32, 67, 93]⟩ ∧ printE exN 5 = 0 := by decide +kernel
theorem exN_7 : (⟨(printV exN 7).toArray⟩ : ByteArray) = ⟨#[91, 94, 68, 93]⟩ ∧ printE exN 7 = 0 := by decide +kernel
theorem exN_p : parseV exN [91, 94, 68, 32, 65, 93] = 6 ∧ parseE exN [91, 94, 68, 32, 65, 93] = 0 := by decide +kernel
theorem exN_q : parseV exN [91, 65, 32, 65, 93] = 0 ∧ parseE exN [91, 65, 32, 65, 93] = 70 := by decide +kernel
theorem exO : ofV [2, 0, 2] = 5 ∧ errZ (ofZ [2, 0, 2]) = 0 := by decide +kernel
theorem exH : hasZ 5 2 = true := by decide +kernel
theorem exT : notZ 5 4 = 10 := by decide +kernel
/-- Names at a row of the call's own. -/
theorem exN_at {w : World} {g : Nat} (h : w.heap[g]? = some (.cells #[.string ⟨#[65]⟩, .string ⟨#[66]⟩, .string ⟨#[67]⟩, .string ⟨#[68]⟩] 9 (0, 0))) : TxtAt w (some ⟨g, 0, none⟩) exN := fun _ => by
  refine ⟨g, 0, rfl, fun j x hx => ?_⟩
  rw [Nat.zero_add, cell_of_row w g j _ _ _ h]
  match j, hx with
  | 0, hx => cases hx; rfl
  | 1, hx => cases hx; rfl
  | 2, hx => cases hx; rfl
  | 3, hx => cases hx; rfl
  | j + 4, hx => simp [exN] at hx
theorem exL_at {w : World} {g : Nat} (h : w.heap[g]? = some (.cells #[.int .i64 2, .int .i64 0, .int .i64 2] 3 (0, 0))) : NumsAt w (some ⟨g, 0, none⟩) [2, 0, 2] := fun _ => by
  refine ⟨g, 0, rfl, fun j x hx => ?_⟩
  rw [Nat.zero_add, cell_of_row w g j _ _ _ h]
  match j, hx with
  | 0, hx => cases hx; rfl
  | 1, hx => cases hx; rfl
  | 2, hx => cases hx; rfl
  | j + 3, hx => simp at hx
end Go.Proofs.YtgjjmbiihbepeaaGreatDoor

namespace Go.Proofs.YtgjjmbiihbepeaaGreatDoor
open Go.RowKit Go.Shelf Go.Maps
attribute [local go_sem ↓] app_hide

theorem own_geQ {w : World} {base : Nat} {e : TypeId} {size : Nat} {v : Value} {n : Nat} {xs : List Value} (h : w.ownsRow base e size v n xs) {g : Nat} (hg : v.ownBlock = some g) : base ≤ g := by
  rcases h.2 with ⟨rfl, _⟩ | ⟨g', cap', cur, rfl, hb', _⟩
  · simp [Value.ownBlock] at hg
  · obtain rfl : g' = g := by simpa [Value.ownBlock] using hg
    exact hb'
theorem str_ownQ {W : World} {base k : Nat} {v : Value} {xs : List Value} (s : ByteArray) (ho : W.ownsRow base 9 1 v k xs) (hk : k ≤ 1000000) (hbase : base ≤ W.heap.size) :
    ∃ o cap w6, (appSem #[34, 34] 34 #[v, .slice (some ⟨W.heap.size, 0, none⟩) 1 1]).run Tryz.prog (W.alloc (.cells #[.string s] 9)) = .ok (.slice o (k + 1) cap) w6 ∧
      w6.ownsRow base 9 1 (.slice o (k + 1) cap) (k + 1) (xs ++ [.string s]) ∧ Below base W w6 := by
  obtain ⟨i0, hi, hz0, hz1, hz2⟩ := info_parts infoString
  have hb : Below W.heap.size W (W.alloc (.cells #[.string s] 9)) := (Below.refl _ _).alloc (Nat.le_refl _) _
  obtain ⟨v', w6, hr, h2, h3, h4⟩ := run_append_own (P := Tryz.prog) _ base 34 34 9 i0 (.string ⟨#[]⟩) 1 16 Tryz.underlying34 hi hz0 hz1 hz2 rfl (by decide) v k xs (own_below ho hb) ⟨W.heap.size, 0, none⟩ 1 1 [.string s] rfl
    (cell_one_new _ _ _) (by simp [Value.oneCell']) (by unfold maxLen; omega) (by omega) (by simp; omega)
  obtain ⟨o, cap, rfl⟩ := own_form h2
  exact ⟨o, cap, w6, hr, h2, Below.grown (hb.mono hbase) h3 (by have := hb.size; omega) (fun g hg => own_geQ ho hg)⟩
/-- Where Split stands: what is parted, and from where on. -/
inductive SplitAtQ (c : UInt8) (l : List UInt8) (ps : List (List UInt8)) (f j : Nat) : Prop
  | on (h1 : j ≤ l.length) (h2 : f ≤ j) (h3 : splitL c l = ps ++ splitL c (l.drop f)) (h4 : ∀ k : Nat, f ≤ k → k < j → l[k]? ≠ some c)
  | off (h1 : j = l.length + 1) (h2 : ps = splitL c l)
theorem SplitAtQ.skip {c : UInt8} {l : List UInt8} {ps : List (List UInt8)} {f j : Nat} (h : SplitAtQ c l ps f j) (hj : j < l.length) (hc : l[j]? ≠ some c) : SplitAtQ c l ps f (j + 1) := by
  cases h with
  | on h1 h2 h3 h4 =>
    refine .on (by omega) (by omega) h3 fun k k1 k2 => ?_
    rcases Nat.lt_or_ge k j with h | h
    · exact h4 k k1 h
    · obtain rfl : k = j := by omega
      exact hc
  | off h1 h2 => omega
theorem SplitAtQ.part {c : UInt8} {l : List UInt8} {ps : List (List UInt8)} {f j : Nat} (h : SplitAtQ c l ps f j) (hj : j < l.length) (hc : l[j]? = some c) : f ≤ j ∧ SplitAtQ c l (ps ++ [(l.drop f).take (j - f)]) (j + 1) (j + 1) := by
  cases h with
  | on h1 h2 h3 h4 =>
    refine ⟨h2, .on (by omega) (Nat.le_refl _) ?_ fun k k1 k2 => by omega⟩
    have := splitL_at (c := c) (l := l.drop f) (m := j - f) (by rw [List.getElem?_drop, show f + (j - f) = j from by omega]; exact hc) (fun k hk => by rw [List.getElem?_drop]; exact h4 _ (by omega) (by omega))
    rw [List.drop_drop, show f + (j - f + 1) = j + 1 from by omega] at this
    rw [h3, this]
    simp
  | off h1 h2 => omega
theorem SplitAtQ.last {c : UInt8} {l : List UInt8} {ps : List (List UInt8)} {f : Nat} (h : SplitAtQ c l ps f l.length) : f ≤ l.length ∧ SplitAtQ c l (ps ++ [(l.drop f).take (l.length - f)]) (l.length + 1) (l.length + 1) := by
  cases h with
  | on h1 h2 h3 h4 =>
    refine ⟨h2, .off rfl ?_⟩
    have := splitL_none (c := c) (l := l.drop f) (fun k hk => by
      rw [List.getElem?_drop] at hk
      have hlt := (List.getElem?_eq_some_iff.1 hk).1
      exact h4 _ (by omega) hlt hk)
    rw [h3, this, List.take_of_length_le (by rw [List.length_drop]; exact Nat.le_refl _)]
  | off h1 h2 => omega
theorem SplitAtQ.len {c : UInt8} {l : List UInt8} {ps : List (List UInt8)} {f j : Nat} (h : SplitAtQ c l ps f j) : ps.length ≤ l.length + 1 := by
  have hl := splitL_length c l
  cases h with
  | on h1 h2 h3 h4 => rw [h3, List.length_append] at hl; omega
  | off h1 h2 => rw [h2]; exact hl
theorem ext_bytesQ (s : ByteArray) (f j : Nat) : (.string (s.extract f j) : Value) = strV ((s.data.toList.drop f).take (j - f)) := by
  congr 1
  rw [← Lib.extract_data]
set_option maxRecDepth 100000 in
set_option maxHeartbeats 2000000 in
theorem rsplit_anyQ (c : UInt8) (s : ByteArray) (hs : s.size ≤ 100000) (w : World) :
    Calls Tryz.prog 82 #[.string s, .int .u8 (c.toNat : Nat)] w fun e w' => ∃ o cap, e = .returned (.slice o (splitL c s.data.toList).length cap) ∧ w'.ownsRow w.heap.size 9 1 (.slice o (splitL c s.data.toList).length cap) (splitL c s.data.toList).length ((splitL c s.data.toList).map strV) ∧ Below w.heap.size w w' := by
  have hl : s.data.toList.length = s.size := Array.length_toList
  have HL := Lib.hid hl
  have HP : Hid (∀ (o : Option Addr) (cap : Nat) (w' : World), w'.ownsRow w.heap.size 9 1 (.slice o (splitL c s.data.toList).length cap) (splitL c s.data.toList).length ((splitL c s.data.toList).map strV) → Below w.heap.size w w' → (fun e w' => ∃ o cap, e = .returned (.slice o (splitL c s.data.toList).length cap) ∧ w'.ownsRow w.heap.size 9 1 (.slice o (splitL c s.data.toList).length cap) (splitL c s.data.toList).length ((splitL c s.data.toList).map strV) ∧ Below w.heap.size w w') (Ending.returned (.slice o (splitL c s.data.toList).length cap)) w') :=
    Lib.hid fun o cap w' h1 h2 => ⟨o, cap, rfl, h1, h2⟩
  obtain ⟨P, hP⟩ : ∃ P : Ending → World → Prop, (fun e w' => ∃ o cap, e = .returned (.slice o (splitL c s.data.toList).length cap) ∧ w'.ownsRow w.heap.size 9 1 (.slice o (splitL c s.data.toList).length cap) (splitL c s.data.toList).length ((splitL c s.data.toList).map strV) ∧ Below w.heap.size w w') = P := ⟨_, rfl⟩
  rw [hP] at HP ⊢
  obtain ⟨d, hd⟩ : ∃ d, c.toNat = d := ⟨_, rfl⟩
  rw [hd]
  have HD := Lib.hid hd
  clear hP hl hd
  go_enter Tryz.func82, Tryz.ntmps82
  go_wp2_with fail
  go_loopg [5, 6, 7] (s.size + 1) (fun k v f i wr => ∃ (j g : Nat) (ps : List (List UInt8)), i = .int .i64 (j : Nat) ∧ f = .int .i64 (g : Nat) ∧ j ≤ s.size + 1 ∧ s.size + 1 - j = k ∧ Hid (SplitAtQ c s.data.toList ps g j) ∧ Hid (wr.ownsRow w.heap.size 9 1 v ps.length (ps.map strV)) ∧ Below w.heap.size w wr)
  case atStart => exact ⟨0, 0, [], rfl, rfl, Nat.zero_le _, rfl, Lib.hid (.on (Nat.zero_le _) (Nat.le_refl _) rfl fun k _ h => absurd h (Nat.not_lt_zero _)), Lib.hid (World.ownsRow_nil _ _ _ _), Below.refl _ _⟩
  case round =>
    obtain ⟨j, g, ps, rfl, rfl, hj, rfl, hat, ho, hb⟩ := hrel
    have hpl := hat.out.len
    rw [HL.out] at hpl
    have hbb : w.heap.size ≤ wr.heap.size := hb.size
    have hwj : IntKind.i64.wrap (((j : Nat) : Int) + 1) = (j : Nat) + 1 := wrap_id (by omega) (by omega)
    rcases Nat.lt_or_ge s.size j with hend | hin
    · have hps : ps = splitL c s.data.toList := by
        cases hat.out with
        | on h1 h2 h3 h4 => rw [HL.out] at h1; omega
        | off h1 h2 => exact h2
      have ho' := ho.out
      rw [hps] at ho'
      obtain ⟨o, cap, rfl⟩ := own_form ho'
      have HPP := Lib.hid (HP.out o cap wr ho' hb)
      have n1 : ¬ j ≤ s.size := by omega
      clear hps ho' ho hat hpl HP
      go_wp2
      exact HPP.out
    · rcases Nat.lt_or_ge j s.size with hlt | hge
      · have hjl : (((j : Nat) : Int) == ((s.size : Nat) : Int)) = false := by simp; omega
        by_cases hc : (s[j]'hlt) = c
        · have hce : s.data.toList[j]? = some c := by rw [← hc]; exact List.getElem?_eq_getElem (by simpa using hlt)
          obtain ⟨hgj, hat2⟩ := hat.out.part (by rw [HL.out]; exact hlt) hce
          obtain ⟨o', cap', w6, hrun, hown, hb6⟩ := str_ownQ (s.extract g j) ho.out (by omega) hb.size
          rw [ext_bytesQ] at hown
          have hcv : (s[j]'hlt).toNat = d := by rw [hc]; exact HD.out
          have HA2 := Lib.hid hat2
          have HO2 := Lib.hid hown
          have HB6 := Lib.hid hb6
          clear hc hce hat2 hown hb6 ho hat
          go_wp2
          go_roundg (s.size + 1 - (j + 1))
          case measure => omega
          case rel =>
            refine ⟨j + 1, j + 1, _, by simp, by simp, by omega, rfl, HA2, Lib.hid ?_, hb.trans HB6.out⟩
            rw [List.length_append, List.map_append]
            exact HO2.out
        · have hne : s.data.toList[j]? ≠ some c := by
            rw [List.getElem?_eq_getElem (by simpa using hlt)]
            exact fun h => hc (Option.some.inj h)
          have HA2 := Lib.hid (hat.out.skip (by rw [HL.out]; exact hlt) hne)
          have hcv : (((s[j]'hlt).toNat : Int) == ((d : Nat) : Int)) = false := by
            rw [beq_eq_false_iff_ne]
            intro e
            refine hc (UInt8.toNat_inj.1 ?_)
            rw [HD.out]
            omega
          clear hc hne hat
          go_wp2
          go_roundg (s.size + 1 - (j + 1))
          case measure => omega
          case rel => exact ⟨j + 1, g, ps, by simp, rfl, by omega, rfl, HA2, ho, hb⟩
      · obtain rfl : j = s.size := by omega
        have hat1 := hat.out
        rw [← HL.out] at hat1
        obtain ⟨hgj, hat2⟩ := hat1.last
        rw [HL.out] at hgj hat2
        obtain ⟨o', cap', w6, hrun, hown, hb6⟩ := str_ownQ (s.extract g s.size) ho.out (by omega) hb.size
        rw [ext_bytesQ] at hown
        have HA2 := Lib.hid hat2
        have HO2 := Lib.hid hown
        have HB6 := Lib.hid hb6
        clear hat1 hat2 hown hb6 ho hat
        go_wp2
        go_roundg (s.size + 1 - (s.size + 1))
        case measure => omega
        case rel =>
          refine ⟨s.size + 1, s.size + 1, _, by simp, by simp, by omega, rfl, HA2, Lib.hid ?_, hb.trans HB6.out⟩
          rw [List.length_append, List.map_append]
          exact HO2.out
end Go.Proofs.YtgjjmbiihbepeaaGreatDoor

namespace Go.Proofs.YtgjjmbiihbepeaaGreatDoor
open Go.RowKit Go.Shelf Go.Maps
attribute [local go_sem ↓] app_hide

def cut42K (f : ByteArray) : ByteArray := f.extract 0 (min (f.size : Int) 42).toNat
def fewTK (ns : List ByteArray) : List ByteArray := (ns.take 34).map cut42K
theorem cut42_leK (f : ByteArray) : (cut42K f).size ≤ 42 := by
  unfold cut42K
  rw [ByteArray.size_extract]
  omega
theorem fewT_lenK (ns : List ByteArray) : (fewTK ns).length ≤ 34 := by unfold fewTK; rw [List.length_map, List.length_take]; omega
theorem fewT_leK (ns : List ByteArray) : ∀ s ∈ fewTK ns, s.size ≤ 42 := fun s hs => by
  obtain ⟨f, _, rfl⟩ := List.mem_map.1 hs
  exact cut42_leK f
theorem txt_ownK {w : World} {base cap : Nat} {o : Option Addr} {ns : List ByteArray} (h : w.ownsRow base 9 1 (.slice o ns.length cap) ns.length (ns.map .string)) : TxtAt w o ns := fun hn => by
  obtain ⟨g, ho, hc⟩ := row_placeK h hn
  refine ⟨g, 0, ho, fun j x hx => ?_⟩
  have := hc j (.string x) (by rw [List.getElem?_map, hx]; rfl)
  rw [Nat.zero_add]
  exact this
def FewTCK (ns : List ByteArray) (w : World) (e : Ending) (w' : World) : Prop :=
  ∃ o cap, e = .returned (.slice o (fewTK ns).length cap) ∧ (fewTK ns).length ≤ cap ∧ TxtAt w' o (fewTK ns) ∧ Below w.heap.size w w'
theorem own_capTK {w : World} {base : Nat} {o : Option Addr} {n cap : Nat} {cs : List Value} (h : w.ownsRow base 9 1 (.slice o n cap) n cs) : n ≤ cap := by
  rcases h.2 with ⟨h', h0⟩ | ⟨g, cap', cur, h', _, _, hnc, _⟩
  · omega
  · cases h'
    exact hnc
set_option maxRecDepth 100000 in
set_option maxHeartbeats 4000000 in
theorem fewT_capK (ns : List ByteArray) (hn : ns.length ≤ 9223372036854775807) (o : Option Addr) (cap : Nat) (w : World) (hA : TxtAt w o ns) :
    Calls Tryz.prog 18 #[.slice o ns.length cap] w (FewTCK ns w) := by
  obtain ⟨n, hnn⟩ : ∃ n, ns.length = n := ⟨_, rfl⟩
  rw [hnn] at hn ⊢
  have HN := Lib.hid hnn
  have HA := Lib.hid hA
  obtain ⟨P, hP⟩ : ∃ P, FewTCK ns w = P := ⟨_, rfl⟩
  have HP := Lib.hid hP
  rw [hP]
  clear hnn hA hP
  go_enter Tryz.func18, Tryz.ntmps18
  go_wp2_with fail
  go_loopg [3, 4] (n) (fun k v i wr => ∃ (j : Nat), i = .int .i64 (j : Nat) ∧ j ≤ n ∧ j ≤ 34 ∧ n - j = k ∧ Hid (wr.ownsRow w.heap.size 9 1 v j (((ns.take j).map cut42K).map .string)) ∧ Below w.heap.size w wr)
  case atStart => exact ⟨0, rfl, Nat.zero_le _, Nat.zero_le _, rfl, Lib.hid (World.ownsRow_nil _ _ _ _), Below.refl _ _⟩
  case round =>
    obtain ⟨j, rfl, hj, hj34, rfl, ho, hb⟩ := hrel
    have hwj : IntKind.i64.wrap (((j : Nat) : Int) + 1) = (j : Nat) + 1 := wrap_id (by omega) (by omega)
    by_cases hin : j < n ∧ j < 34
    · obtain ⟨hlt, h34⟩ := hin
      obtain ⟨f, hf⟩ : ∃ X, ns[j]? = some X := ⟨_, List.getElem?_eq_getElem (by rw [HN.out]; exact hlt)⟩
      obtain ⟨g, off, rfl, hc⟩ := (HA.out.below hb) (by rw [HN.out]; omega)
      have k0 := hc j f hf
      have hg := World.block_lt_of_cell? wr _ k0
      obtain ⟨ov, capv, rfl⟩ := own_form ho.out
      obtain ⟨o6, cap6, w6, hrun, own6, hb6⟩ := str_ownQ (W := wr.drew) (cut42K f) (ho.out : wr.drew.ownsRow w.heap.size 9 1 (.slice ov j capv) j _) (by omega) hb.size
      have hrun2 : (appSem #[34, 34] 34 #[.slice ov j capv, .slice (some ⟨wr.heap.size, 0, none⟩) 1 1]).run Tryz.prog ((wr.alloc (.cells #[.string (f.extract 0 (min (f.size : Int) 42).toNat)] 9)).drew) = .ok (.slice o6 (j + 1) cap6) w6 := hrun
      have OWN6 : Hid (w6.ownsRow w.heap.size 9 1 (.slice o6 (j + 1) cap6) (j + 1) (((ns.take (j + 1)).map cut42K).map .string)) := Lib.hid (by
        rw [List.take_add_one, hf]
        have := own6
        simp only [Option.toList, List.map_append, List.map_cons, List.map_nil] at this ⊢
        exact this)
      have HB6 := Lib.hid (hb.trans ((show Below w.heap.size wr w6 from ((Below.refl wr.heap.size wr).drew.mono hb.size).trans hb6)))
      clear hrun own6 hb6 hc hf ho hb
      go_wp2_with fail
      go_region
      go_wp2
      go_roundg (n - (j + 1))
      case measure => omega
      case rel => exact ⟨j + 1, by simp, by omega, by omega, rfl, OWN6, HB6.out⟩
    · have hall : (ns.take j).map cut42K = fewTK ns := by
        unfold fewTK
        congr 1
        rcases (by omega : j = n ∨ j = 34) with h | h
        · rw [List.take_of_length_le (by rw [HN.out]; omega), List.take_of_length_le (by rw [HN.out]; omega)]
        · rw [h]
      have hlen : (fewTK ns).length = j := by rw [← hall, List.length_map, List.length_take, HN.out]; omega
      obtain ⟨ou, capu, rfl⟩ := own_form ho.out
      have HPP : Hid (P (.returned (.slice ou j capu)) wr) := by
        rw [← HP.out]
        have h := ho.out
        rw [hall] at h
        refine Lib.hid ⟨ou, capu, by rw [hlen], by rw [hlen]; exact own_capTK ho.out, txt_ownK (by rw [hlen]; exact h), hb⟩
      have hways : ¬ j < n ∨ (j < n ∧ ¬ j < 34) := by omega
      clear hall hlen ho hin
      rcases hways with h1 | ⟨h1, h2⟩
      all_goals
        go_wp2
        exact HPP.out

def cutK (f : ByteArray) : ByteArray := f.extract 0 (min (f.size : Int) 200).toNat
theorem cutK_size (f : ByteArray) : (cutK f).size ≤ 200 := by
  unfold cutK
  rw [ByteArray.size_extract]
  omega
end Go.Proofs.YtgjjmbiihbepeaaGreatDoor

namespace Go.Proofs.YtgjjmbiihbepeaaGreatDoor
open Go.RowKit Go.Shelf Go.Maps
attribute [local go_sem] Oper.semAt_some
attribute [local go_sem ↓] app_hide

set_option maxHeartbeats 1000000 in
theorem worth_any (n : Nat) (hn : n ≤ 32) (w : World) : Calls Tryz.prog 40 #[.int .i64 (n : Nat)] w fun e w' => e = .returned (.int .i64 ((2 ^ n : Nat) : Int)) ∧ w = w' := by
  obtain ⟨P, hP⟩ : ∃ P, (fun (e : Ending) w' => e = .returned (.int .i64 ((2 ^ n : Nat) : Int)) ∧ w = w') = P := ⟨_, rfl⟩
  have HP := Lib.hid hP
  rw [hP]
  clear hP
  go_enter Tryz.func40, Tryz.ntmps40
  go_wp2_with fail
  go_loopg [3, 4] n (fun k v i wr => ∃ (j p : Nat), i = .int .i64 (j : Nat) ∧ v = .int .i64 (p : Nat) ∧ j ≤ n ∧ k = n - j ∧ Hid (p = 2 ^ j) ∧ w = wr)
  case atStart => exact ⟨0, 1, rfl, rfl, Nat.zero_le _, rfl, Lib.hid rfl, rfl⟩
  case round =>
    obtain ⟨j, p, rfl, rfl, hj, rfl, hp, rfl⟩ := hrel
    rcases Nat.lt_or_ge j n with hlt | hge
    · have hp2 : Hid (2 * p = 2 ^ (j + 1)) := Lib.hid (by rw [hp.out, Nat.pow_succ, Nat.mul_comm])
      have hpl : p ≤ 4294967296 := by rw [hp.out]; exact two_32 (by omega)
      have hj1 : j < 1000000 := by omega
      go_wp2
      go_roundg (n - (j + 1))
      case measure => omega
      case rel => exact ⟨j + 1, 2 * p, by simp, by simp, by omega, rfl, hp2, rfl⟩
    · obtain rfl : j = n := by omega
      have HQ : Hid (P (.returned (.int .i64 ((p : Nat) : Int))) w) := by
        rw [← HP.out]
        exact Lib.hid ⟨by rw [hp.out], rfl⟩
      go_wp2
      exact HQ.out
set_option maxHeartbeats 1000000 in
theorem refRight_any (s n : Int) (w : World) : Calls Tryz.prog 25 #[.int .i64 s, .int .i64 n] w fun e w' => e = .returned (.bool (rightZ s n)) ∧ w = w' := by
  obtain ⟨P, hP⟩ : ∃ P, (fun (e : Ending) w' => e = .returned (.bool (rightZ s n)) ∧ w = w') = P := ⟨_, rfl⟩
  have HP := Lib.hid hP
  have NO : ¬ (1 ≤ n ∧ n ≤ 32 ∧ 0 ≤ s ∧ s < 2 ^ n.toNat) → Hid (P (.returned (.bool false)) w) := fun h => by
    rw [← HP.out]
    exact Lib.hid ⟨by unfold rightZ; rw [decide_eq_false h], rfl⟩
  have YES : (1 ≤ n ∧ n ≤ 32 ∧ 0 ≤ s ∧ s < 2 ^ n.toNat) → Hid (P (.returned (.bool true)) w) := fun h => by
    rw [← HP.out]
    exact Lib.hid ⟨by unfold rightZ; rw [decide_eq_true h], rfl⟩
  rw [hP]
  clear hP
  by_cases g1 : 1 ≤ n
  · by_cases g2 : n ≤ 32
    · by_cases g3 : 0 ≤ s
      · obtain ⟨m, rfl⟩ := Int.eq_ofNat_of_zero_le (show 0 ≤ n by omega)
        have hm : m ≤ 32 := by omega
        have W1 := Lib.hid (worth_any m hm w)
        have e2 : ((2 : Int) ^ m) = ((2 ^ m : Nat) : Int) := by simp
        rw [Int.toNat_natCast, e2] at NO YES
        obtain ⟨p, hpp⟩ : ∃ p, 2 ^ m = p := ⟨_, rfl⟩
        rw [hpp] at NO YES W1
        by_cases g4 : s < ((p : Nat) : Int)
        · have YY := YES ⟨g1, g2, g3, g4⟩
          have g5 : decide (s < ((p : Nat) : Int)) = true := decide_eq_true g4
          clear NO YES hpp e2
          go_enter Tryz.func25, Tryz.ntmps25
          go_wp2_with fail
          refine W1.out.mono ?_
          rintro e w2 ⟨rfl, rfl⟩
          go_wp2
          exact YY.out
        · have YY := NO fun h => g4 h.2.2.2
          have g5 : decide (s < ((p : Nat) : Int)) = false := decide_eq_false g4
          clear NO YES hpp e2
          go_enter Tryz.func25, Tryz.ntmps25
          go_wp2_with fail
          refine W1.out.mono ?_
          rintro e w2 ⟨rfl, rfl⟩
          go_wp2
          exact YY.out
      · have NN := NO (by omega)
        clear NO YES
        go_enter Tryz.func25, Tryz.ntmps25
        go_wp2
        exact NN.out
    · have NN := NO (by omega)
      clear NO YES
      go_enter Tryz.func25, Tryz.ntmps25
      go_wp2
      exact NN.out
  · have NN := NO (by omega)
    clear NO YES
    go_enter Tryz.func25, Tryz.ntmps25
    go_wp2
    exact NN.out
set_option maxRecDepth 100000 in
set_option maxHeartbeats 1000000 in
theorem refHas_any (s c : Int) (w : World) : Calls Tryz.prog 68 #[.int .i64 s, .int .i64 c] w fun e w' => e = .returned (.bool (hasZ s c)) ∧ w = w' := by
  have H := Lib.hid (refRight_any s 32 w)
  obtain ⟨P, hP⟩ : ∃ P, (fun (e : Ending) w' => e = .returned (.bool (hasZ s c)) ∧ w = w') = P := ⟨_, rfl⟩
  have HP := Lib.hid hP
  have ANS : ∀ b, hasZ s c = b → Hid (P (.returned (.bool b)) w) := fun b h => by
    rw [← HP.out]
    exact Lib.hid ⟨by rw [h], rfl⟩
  rw [hP]
  clear hP
  cases hr : rightZ s 32 with
  | false =>
    rw [hr] at H
    have HQ := ANS false (by unfold hasZ; rw [hr]; rfl)
    clear ANS hr
    go_enter Tryz.func68, Tryz.ntmps68
    go_wp2_with fail
    refine H.out.mono ?_
    rintro e w2 ⟨rfl, rfl⟩
    go_wp2
    exact HQ.out
  | true =>
    obtain ⟨x, m, rfl, hm, _, _, hx⟩ := rightZ_of hr
    have h32 : m = 32 := by omega
    subst h32
    clear hm
    rw [hr] at H
    rw [hasZ_nat hx] at ANS
    by_cases g1 : 0 ≤ c
    · by_cases g2 : c < 32
      · obtain ⟨k, rfl⟩ := Int.eq_ofNat_of_zero_le g1
        have hk : k < 32 := by omega
        have W1 := Lib.hid (worth_any k (by omega) w)
        have hp := two_pos k
        have hdb := div_bit x k
        rw [decide_eq_true ⟨g1, g2⟩, Bool.true_and, Int.toNat_natCast] at ANS
        obtain ⟨p, hpp⟩ : ∃ p, 2 ^ k = p := ⟨_, rfl⟩
        rw [hpp] at W1 hp hdb
        have t1 : ((x : Nat) : Int).tdiv ((p : Nat) : Int) = ((x / p : Nat) : Int) := by rw [Int.tdiv_eq_ediv_of_nonneg (Int.natCast_nonneg _)]; simp
        have t2 : ((x : Nat) : Int) / ((p : Nat) : Int) = ((x / p : Nat) : Int) := by simp
        obtain ⟨q, hq⟩ : ∃ q, x / p = q := ⟨_, rfl⟩
        rw [hq] at t1 t2 hdb
        have t3 : ((q : Nat) : Int).tmod 2 = ((q % 2 : Nat) : Int) := by rw [Int.tmod_eq_emod_of_nonneg (Int.natCast_nonneg _)]; simp
        have HQ := ANS (((q : Nat) : Int) % 2 == 1) (by
          rw [← hdb]
          by_cases h : q % 2 = 1
          · rw [decide_eq_true h]
            have : ((q : Nat) : Int) % 2 = 1 := by omega
            rw [this]; rfl
          · rw [decide_eq_false h]
            have : ((q : Nat) : Int) % 2 = 0 := by omega
            rw [this]; rfl)
        have hpne : ¬ ((p : Nat) : Int) = 0 := by omega
        have hwq : wrap64 ((q : Nat) : Int) = ((q : Nat) : Int) := by
          have : q ≤ x := by rw [← hq]; exact Nat.div_le_self _ _
          exact wrap_idK (by omega) (by omega)
        clear ANS hr hx hdb hpp hq g1 g2
        go_enter Tryz.func68, Tryz.ntmps68
        go_wp2_with fail
        refine H.out.mono ?_
        rintro e w2 ⟨rfl, rfl⟩
        go_wp2_with fail
        refine W1.out.mono ?_
        rintro e w3 ⟨rfl, rfl⟩
        go_wp2
        exact HQ.out
      · have HQ := ANS false (by rw [decide_eq_false (by omega)]; rfl)
        clear ANS hr hx
        go_enter Tryz.func68, Tryz.ntmps68
        go_wp2_with fail
        refine H.out.mono ?_
        rintro e w2 ⟨rfl, rfl⟩
        go_wp2
        exact HQ.out
    · have HQ := ANS false (by rw [decide_eq_false (by omega)]; rfl)
      clear ANS hr hx
      go_enter Tryz.func68, Tryz.ntmps68
      go_wp2_with fail
      refine H.out.mono ?_
      rintro e w2 ⟨rfl, rfl⟩
      go_wp2
      exact HQ.out
set_option maxHeartbeats 1000000 in
theorem refNot_any (s n : Int) (w : World) : Calls Tryz.prog 56 #[.int .i64 s, .int .i64 n] w fun e w' => e = .returned (.int .i64 (notZ s n)) ∧ w = w' := by
  have H := Lib.hid (refRight_any s n w)
  cases hr : rightZ s n with
  | false =>
    rw [hr] at H
    have e0 : notZ s n = 0 := by unfold notZ; rw [hr]; rfl
    rw [e0]
    clear hr e0
    go_enter Tryz.func56, Tryz.ntmps56
    go_wp2_with fail
    refine H.out.mono ?_
    rintro e w2 ⟨rfl, rfl⟩
    go_wp2
    go_ret
    exact ⟨rfl, rfl⟩
  | true =>
    obtain ⟨x, m, rfl, rfl, h1, h2, hx⟩ := rightZ_of hr
    rw [hr] at H
    have W1 := Lib.hid (worth_any m h2 w)
    have hl := two_32 h2
    rw [notZ_nat h1 h2 hx]
    unfold notN
    obtain ⟨p, hp⟩ : ∃ p, 2 ^ m = p := ⟨_, rfl⟩
    rw [hp] at W1 hx hl ⊢
    have e1 : ((p - 1 - x : Nat) : Int) = ((p : Nat) : Int) - 1 - ((x : Nat) : Int) := by omega
    rw [e1]
    clear hr hp e1
    go_enter Tryz.func56, Tryz.ntmps56
    go_wp2_with fail
    refine H.out.mono ?_
    rintro e w2 ⟨rfl, rfl⟩
    go_wp2_with fail
    refine W1.out.mono ?_
    rintro e w3 ⟨rfl, rfl⟩
    go_wp2
    go_ret
    exact ⟨rfl, rfl⟩
theorem own_rowK {w : World} {base n cap : Nat} {o : Option Addr} {e : TypeId} {size : Nat} {xs : List Value} {k : Nat} (h : w.ownsRow base e size (.slice o n cap) n xs) (hk : (Value.slice o n cap).ownBlock = some k) : base ≤ k := by
  rcases h.2 with ⟨hv, _⟩ | ⟨g, cap', cur, hv, hg, _⟩
  · rw [hv] at hk; simp [Value.ownBlock] at hk
  · rw [hv] at hk
    obtain rfl : g = k := by simpa [Value.ownBlock] using hk
    exact hg
def clZ (s : Int) (j : Nat) : List Nat := if rightZ s 32 then classesN j s.toNat else []
theorem clZ_all (s : Int) : clZ s 32 = classesZ s := rfl
theorem clZ_snoc (s : Int) {j : Nat} (hj : j < 32) : clZ s (j + 1) = clZ s j ++ (if hasZ s ((j : Nat) : Int) then [j] else []) := by
  unfold clZ
  cases hr : rightZ s 32 with
  | false =>
    have : hasZ s ((j : Nat) : Int) = false := by unfold hasZ; rw [hr]; rfl
    rw [this]; rfl
  | true =>
    have : hasZ s ((j : Nat) : Int) = s.toNat.testBit j := by
      unfold hasZ
      rw [hr, decide_eq_true (show (0 : Int) ≤ ((j : Nat) : Int) ∧ ((j : Nat) : Int) < 32 by omega)]
      simp
    rw [this]
    exact classesN_snoc j s.toNat
theorem clZ_le (s : Int) (j : Nat) : (clZ s j).length ≤ j := by
  unfold clZ
  split
  · exact classesN_le _ _
  · simp
set_option maxRecDepth 100000 in
set_option maxHeartbeats 2000000 in
theorem refClasses_any (s : Int) (w : World) : Calls Tryz.prog 54 #[.int .i64 s] w fun e w' => ∃ o c, e = .returned (.slice o (classesZ s).length c) ∧ NumsAt w' o ((classesZ s).map fun c => ((c : Nat) : Int)) ∧ (classesZ s).length ≤ c ∧ Below w.heap.size w w' := by
  obtain ⟨P, hP⟩ : ∃ P, (fun (e : Ending) w' => ∃ o c, e = .returned (.slice o (classesZ s).length c) ∧ NumsAt w' o ((classesZ s).map fun c => ((c : Nat) : Int)) ∧ (classesZ s).length ≤ c ∧ Below w.heap.size w w') = P := ⟨_, rfl⟩
  have HP := Lib.hid hP
  rw [hP]
  clear hP
  go_enter Tryz.func54, Tryz.ntmps54
  go_wp2_with fail
  go_loopg [3, 4] 32 (fun k v i wr => ∃ (j m : Nat), i = .int .i64 (j : Nat) ∧ j ≤ 32 ∧ k = 32 - j ∧ m ≤ j ∧ Hid ((clZ s j).length = m) ∧ Hid (wr.ownsRow w.heap.size 3 1 v m ((clZ s j).map intC)) ∧ Hid (Below w.heap.size w wr))
  case atStart =>
    have h0 : clZ s 0 = [] := by unfold clZ; split <;> rfl
    exact ⟨0, 0, rfl, by omega, rfl, Nat.le_refl _, Lib.hid (by rw [h0]; rfl), Lib.hid (by rw [h0]; exact World.ownsRow_nil _ _ _ _), Lib.hid (Below.refl _ _)⟩
  case round =>
    obtain ⟨j, m, rfl, hj, rfl, hm, HM, HO, HB⟩ := hrel
    obtain ⟨o, cap, rfl⟩ := own_form HO.out
    rcases Nat.lt_or_ge j 32 with hlt | hge
    · have HH := Lib.hid (refHas_any s ((j : Nat) : Int) wr)
      cases hb : hasZ s ((j : Nat) : Int) with
      | false =>
        have hs : clZ s (j + 1) = clZ s j := by rw [clZ_snoc s hlt, hb]; simp
        rw [hb] at HH
        have HM2 : Hid ((clZ s (j + 1)).length = m) := Lib.hid (by rw [hs]; exact HM.out)
        have HO2 : Hid (wr.ownsRow w.heap.size 3 1 (.slice o m cap) m ((clZ s (j + 1)).map intC)) := Lib.hid (by rw [hs]; exact HO.out)
        clear hb hs
        go_wp2_with fail
        refine HH.out.mono ?_
        rintro e w2 ⟨rfl, rfl⟩
        go_wp2
        go_roundg (32 - (j + 1))
        case measure => omega
        case rel => exact ⟨j + 1, m, by simp, by omega, rfl, by omega, HM2, HO2, HB⟩
      | true =>
        have hs : clZ s (j + 1) = clZ s j ++ [j] := by rw [clZ_snoc s hlt, hb]; rfl
        rw [hb] at HH
        obtain ⟨g', cap', w6, hrun, hown', hgrow⟩ := code_ownK j HO.out (by omega) HB.out.size
        have HM2 : Hid ((clZ s (j + 1)).length = m + 1) := Lib.hid (by rw [hs, List.length_append, HM.out]; rfl)
        have HO2 : Hid (w6.ownsRow w.heap.size 3 1 (.slice (some ⟨g', 0, none⟩) (m + 1) cap') (m + 1) ((clZ s (j + 1)).map intC)) := Lib.hid (by rw [hs, List.map_append]; exact hown')
        have hbW : Below w.heap.size w (wr.alloc (.cells #[.int .i64 (j : Nat)] 3)) := HB.out.alloc HB.out.size _
        have HB2 : Hid (Below w.heap.size w w6) := Lib.hid (hbW.grown hgrow (by have := HB.out.size; simp; omega) (fun k hk => own_rowK HO.out hk))
        clear hb hs hown' hgrow hbW
        go_wp2_with fail
        refine HH.out.mono ?_
        rintro e w2 ⟨rfl, rfl⟩
        go_wp2
        go_roundg (32 - (j + 1))
        case measure => omega
        case rel => exact ⟨j + 1, m + 1, by simp, by omega, rfl, by omega, HM2, by simpa using HO2, HB2⟩
    · obtain rfl : j = 32 := by omega
      have h1 := HM.out
      rw [clZ_all] at h1
      have HQ : Hid (P (.returned (.slice o m cap)) wr) := by
        rw [← HP.out]
        refine Lib.hid ⟨o, cap, by rw [h1], ?_, ?_, HB.out⟩
        · have h2 := HO.out
          rw [clZ_all, ← h1] at h2
          exact nums_own h2
        · rw [h1]; exact own_cap HO.out
      clear h1
      go_wp2
      exact HQ.out
end Go.Proofs.YtgjjmbiihbepeaaGreatDoor

namespace Go.Proofs.YtgjjmbiihbepeaaGreatDoor
open Go.RowKit Go.Shelf Go.Maps
attribute [local go_sem] Oper.semAt_some

theorem goodI_not {m : Int} {x : ItemP} (h : rightZ x.1 m = false ∨ x.2 < 0 ∨ 2 < x.2) : ¬ goodI m x := by
  rintro ⟨h1, h2⟩
  rcases h with h | h
  · rw [h] at h1; cases h1
  · omega
set_option maxRecDepth 100000 in
set_option maxHeartbeats 4000000 in
theorem refRight_anyQ (start : Bool) (o : Option Addr) (xs : List ItemP) (cap : Nat) (m : Int) (hn : xs.length ≤ 100000) (w : World) (hA : AtI w o xs) :
    Calls Tryz.prog 9 #[patV start o xs.length cap, .int .i64 m] w fun e w' => e = .returned (.bool (rightB xs m)) ∧ Below w.heap.size w w' := by
  obtain ⟨n, hnn⟩ : ∃ n, xs.length = n := ⟨_, rfl⟩
  rw [hnn] at hn ⊢
  obtain ⟨P, hP⟩ : ∃ P, (fun (e : Ending) w' => e = .returned (.bool (rightB xs m)) ∧ Below w.heap.size w w') = P := ⟨_, rfl⟩
  have HP := Lib.hid hP
  rw [hP]
  obtain ⟨w1, hw1⟩ : ∃ w1, w.alloc (patO start o n cap) = w1 := ⟨_, rfl⟩
  have b1 : Below w.heap.size w w1 := by rw [← hw1]; exact (Below.refl _ _).alloc (Nat.le_refl _) _
  have r1 : w1.heap[w.heap.size]? = some (patO start o n cap) := by rw [← hw1]; exact heap_alloc_new _ _
  have HN := Lib.hid hnn
  have HA := Lib.hid hA
  have HW1 := Lib.hid hw1
  have HB1 := Lib.hid b1
  have HR1 := Lib.hid r1
  have HK := Lib.hid (fun s W => refRight_any s m W)
  have FIN : Hid (∀ W b, rightB xs m = b → Below w.heap.size w W → P (.returned (.bool b)) W) := Lib.hid fun W b h hb => by
    rw [← HP.out]; exact ⟨by rw [h], hb⟩
  clear hP hnn hA hw1 b1 r1
  go_enter Tryz.func9, Tryz.ntmps9
  go_wp2_with fail
  rw [HW1.out]
  go_loopg [5] (n) (fun k' v5 wr => ∃ (j : Nat), v5 = .int .i64 (j : Nat) ∧ j ≤ n ∧ n - j = k' ∧ Hid (∀ i x, i < j → xs[i]? = some x → goodI m x) ∧ Hid (Below w1.heap.size w1 wr))
  case atStart => exact ⟨0, rfl, Nat.zero_le _, rfl, Lib.hid fun i x h => absurd h (Nat.not_lt_zero _), Lib.hid (Below.refl _ _)⟩
  case round =>
    obtain ⟨j, rfl, hj, rfl, HG, HB⟩ := hrel
    have hj6 : j < 1000000 := by omega
    have HBW := Lib.hid (HB1.out.trans (HB.out.mono HB1.out.size))
    obtain ⟨p0, p1⟩ := pat_cells (row_below HR1.out HB.out)
    rcases Nat.lt_or_ge j n with hlt | hge
    · obtain ⟨x, hx⟩ : ∃ x, xs[j]? = some x := ⟨_, List.getElem?_eq_getElem (by rw [HN.out]; exact hlt)⟩
      obtain ⟨g, off, rfl, hc⟩ := (HA.out.below HBW.out) (by rw [HN.out]; omega)
      obtain ⟨k0, k1⟩ := hc j x hx
      have bb : Below wr.heap.size wr (wr.alloc (itO x)) := (Below.refl _ _).alloc (Nat.le_refl _) _
      have HBB := Lib.hid (HB.out.trans (bb.mono HB.out.size))
      have HBBW := Lib.hid (HBW.out.trans (bb.mono HBW.out.size))
      have HX := Lib.hid hx
      obtain ⟨s, h⟩ := x
      have HKX := Lib.hid (HK.out s (wr.alloc (itO (s, h))))
      simp only at k0 k1
      cases hr : rightZ s m with
      | false =>
        rw [hr] at HKX
        have HF := Lib.hid (FIN.out (wr.alloc (itO (s, h))) false (rightB_bad HX.out (goodI_not (.inl hr))) HBBW.out)
        clear hr hc hx bb
        go_wp2_with fail
        refine HKX.out.mono ?_
        rintro e _ ⟨rfl, rfl⟩
        go_wp2
        first | exact HF.out | (go_ret; exact HF.out)
      | true =>
        rw [hr] at HKX
        by_cases h1 : h < 0
        · have HF := Lib.hid (FIN.out (wr.alloc (itO (s, h))) false (rightB_bad HX.out (goodI_not (.inr (.inl h1)))) HBBW.out)
          clear hr hc hx bb
          go_wp2_with fail
          refine HKX.out.mono ?_
          rintro e _ ⟨rfl, rfl⟩
          go_wp2
          first | exact HF.out | (go_ret; exact HF.out)
        by_cases h2 : 2 < h
        · have HF := Lib.hid (FIN.out (wr.alloc (itO (s, h))) false (rightB_bad HX.out (goodI_not (.inr (.inr h2)))) HBBW.out)
          clear hr hc hx bb
          go_wp2_with fail
          refine HKX.out.mono ?_
          rintro e _ ⟨rfl, rfl⟩
          go_wp2
          first | exact HF.out | (go_ret; exact HF.out)
        have HGN : Hid (∀ i x, i < j + 1 → xs[i]? = some x → goodI m x) := Lib.hid fun i x hi hxi => by
          rcases Nat.lt_or_ge i j with hl | hg
          · exact HG.out i x hl hxi
          · obtain rfl : i = j := by omega
            rw [HX.out] at hxi
            cases hxi
            exact ⟨hr, by simp only; omega⟩
        clear hr hc hx bb
        go_wp2_with fail
        refine HKX.out.mono ?_
        rintro e _ ⟨rfl, rfl⟩
        go_wp2
        go_roundg (n - (j + 1))
        case measure => omega
        case rel => exact ⟨j + 1, by simp, by omega, rfl, HGN, HBB⟩
    · obtain rfl : j = n := by omega
      have hall : ∀ x ∈ xs, goodI m x := fun x hx => by
        obtain ⟨i, hi⟩ := List.getElem?_of_mem hx
        exact HG.out i x (by have := (List.getElem?_eq_some_iff.1 hi).1; have := HN.out; omega) hi
      by_cases m1 : m < 1
      · have HF := Lib.hid (FIN.out wr false (rightB_not (by omega)) HBW.out)
        clear hall
        go_wp2
        first | exact HF.out | (go_ret; exact HF.out)
      by_cases m2 : 32 < m
      · have HF := Lib.hid (FIN.out wr false (rightB_not (by omega)) HBW.out)
        clear hall
        go_wp2
        first | exact HF.out | (go_ret; exact HF.out)
      by_cases m3 : 10 < j
      · have HF := Lib.hid (FIN.out wr false (rightB_not (by have := HN.out; omega)) HBW.out)
        have m7 : decide (((j : Nat) : Int) ≤ 10) = false := decide_eq_false (by omega)
        clear hall
        go_wp2
        first | exact HF.out | (go_ret; exact HF.out)
      · have HF := Lib.hid (FIN.out wr true (rightB_of (by omega) (by have := HN.out; omega) hall) HBW.out)
        have m4 : ((j : Nat) : Int) ≤ 10 := by omega
        have m5 : 1 ≤ m := by omega
        have m6 : m ≤ 32 := by omega
        clear hall
        go_wp2
        first | exact HF.out | (go_ret; exact HF.out)
end Go.Proofs.YtgjjmbiihbepeaaGreatDoor
