/- Shaken by bunq.py. -/
import Derived.Test.YtaoooocalpkhjaaDoorBuq8
import Derived.Test.YtaoooocalpkhjaaDoorBuq5
import Derived.Test.YtaoooocalpkhjaaDoorCards
import Derived.Test.YtaoooocalpkhjaaDoorTie
import Derived.Test.YtaoooocalpkhjaaDoorChecked
import Derived.ProofKit
import Derived.OpenShut
import Derived.Below
import Derived.ChangeSame
import Derived.ChangeMaps5
import Derived.Carry
import Derived.Deep.DeepHandedRow
import Derived.Deep.DeepWitnessRowRef
import Derived.LaidSub
import Derived.LaidHandle
import Derived.Lay
import Derived.MakeChecks
import Derived.Shelf.Vars
import Derived.LaidMore
import Derived.Stop.LaidTwo
namespace Go.Proofs.YtaoooocalpkhjaaDoor
open Go.ChangeShapes Go.WideShapes Go.ChangeAt Go.RowKit Go.ChangeMaps Go.Shelf

theorem ownQ : ownKnob Tryd.prog.godebug = none := by kernel_rfl
theorem gPatQ : Tryd.prog.globalNamed "virama/nfa.errPattern" = some 5 := by kernel_rfl
theorem gStaQ : Tryd.prog.globalNamed "virama/nfa.errStates" = some 6 := by kernel_rfl
theorem gFarQ : Tryd.prog.globalNamed "virama/nfa.far" = some 7 := by kernel_rfl
theorem gPatTypeQ : (Tryd.prog.globals[5]?).map (·.type) = some 57 := by kernel_rfl
theorem gStaTypeQ : (Tryd.prog.globals[6]?).map (·.type) = some 57 := by kernel_rfl
theorem gFarTypeQ : (Tryd.prog.globals[7]?).map (·.type) = some 202 := by kernel_rfl
theorem cellsEQ : Tryd.prog.cellsOf 228 = 1 := by kernel_rfl
theorem cellsSQ : Tryd.prog.cellsOf 9 = 1 := by kernel_rfl
theorem starEQ : "*" ++ "errors.errorString" = "*errors.errorString" := by decide
theorem rowEQ (u : TypeId) (h : Tryd.prog.typeName? 3 u = some "*errors.errorString") : u = 203 :=
  typeName_ptr_named (nm := "errors.errorString") (by rw [starEQ]; kernel_rfl) (by kernel_rfl) (by decide) u (by rw [starEQ]; exact h)
abbrev laid2Q : List (String × DataW Unit) := [("virama/nfa.errPattern", Rows.laid_virama_nfa_errPattern), ("virama/nfa.errStates", Rows.laid_virama_nfa_errStates)]
abbrev laidTQ : List (String × DataW Unit) := [("virama/nfa.far", Rows.laid_virama_nfa_far)]
theorem gRulD : Tryd.prog.globalNamed "virama/dfa.errRule" = some 0 := by kernel_rfl
theorem gRulTypeD : (Tryd.prog.globals[0]?).map (·.type) = some 57 := by kernel_rfl
theorem gMacD : Tryd.prog.globalNamed "virama/dfa.errMachine" = some 1 := by kernel_rfl
theorem gMacTypeD : (Tryd.prog.globals[1]?).map (·.type) = some 57 := by kernel_rfl
abbrev laid2D : List (String × DataW Unit) := [("virama/dfa.errRule", Rows.laid_virama_dfa_errRule), ("virama/dfa.errMachine", Rows.laid_virama_dfa_errMachine)]
abbrev laidAQ : List (String × DataW Unit) := [("virama/nfa.errPattern", Rows.laid_virama_nfa_errPattern), ("virama/nfa.errStates", Rows.laid_virama_nfa_errStates), ("virama/nfa.far", Rows.laid_virama_nfa_far), ("virama/dfa.errRule", Rows.laid_virama_dfa_errRule), ("virama/dfa.errMachine", Rows.laid_virama_dfa_errMachine)]
theorem far_of_laidQ {W : World} (h : laidMetH Tryd.prog laidAQ W) : ∀ j x, j < 3 → [(2 : Int), 0, 1][j]? = some x → W.cell? ⟨7, j, none⟩ = some (.int .i64 x) := by
  intro j x hj hx
  have h1 := laidMetH.filter (fun x => x.1 == "virama/nfa.far") h
  have h2 : laidMetH Tryd.prog laidTQ W := h1
  rw [MakeChecks.laidMetH_plain _ _ _ (by kernel_rfl)] at h2
  obtain ⟨ps, ⟨g, t, cs, fuel, p, q, hg, ht, hv, hd, _, _⟩, _, _⟩ := h2
  obtain rfl := Option.some.inj (gFarQ.symm.trans hg)
  obtain rfl := Option.some.inj (gFarTypeQ.symm.trans ht)
  obtain ⟨xs, m, _, ex, _, hl, hel⟩ := DataW.trod_array Tryd.underlying202 hd
  have c5 : Tryd.prog.cellsOf 3 = 1 := by kernel_rfl
  have hlt : j < xs.length := by clear ex hd hel; omega
  have hE := hel j hj
  rw [c5, Nat.mul_one, List.getElem?_eq_getElem hlt] at hE
  obtain ⟨z, e1, e2, _⟩ := DataW.trod_int Tryd.underlying3 hE
  have e3 : .agg (xs.map (·.1)) = Rows.laid_virama_nfa_far (H := Unit) := (Prod.mk.inj ex).1.symm
  have e4 : (xs.map (·.1))[j]? = some (.lit (.int .i64 x)) := by
    have := DataW.agg.inj e3
    rw [this]
    match j, hj, hx with
    | 0, _, hx => cases hx; rfl
    | 1, _, hx => cases hx; rfl
    | 2, _, hx => cases hx; rfl
  rw [List.getElem?_map, List.getElem?_eq_getElem hlt, Option.map_some, e2] at e4
  have hz : z = x := by simpa using e4
  rw [World.var?_cell gFarQ hv j]
  have h0 : ((cs.toList.drop j).take 1)[0]? = some (.int .i64 z) := by rw [e1]; rfl
  rw [hz] at h0
  simpa using h0
theorem glob_ofQ {W : World} (h : laidMetH Tryd.prog laidAQ W) : ∃ aP aS, GlobH W aP aS := by
  have h1 := laidMetH.filter (fun x => x.1 == "virama/nfa.errPattern" || x.1 == "virama/nfa.errStates") h
  have h2 : laidMetH Tryd.prog laid2Q W := h1
  have h' : laidMet Tryd.prog laid2Q W := by rw [MakeChecks.laidMetH_plain _ _ _ (by kernel_rfl)] at h2; exact h2
  obtain ⟨a0, a1, s0, s1, c0, c1, t0, t1, hv0, hv1, hc0, hs0, hz0, hc1, hs1, hz1, hne, hb0, hb1⟩ :=
    laid_sentinels2 h' gPatQ gPatTypeQ gStaQ gStaTypeQ Tryd.underlying57 rowEQ Tryd.underlying203 Tryd.underlying228 rfl rfl Tryd.underlying9 cellsEQ cellsSQ
  have hP : W.cell? ⟨5, 0, none⟩ = some (errVQ a0) := by simpa using World.var?_cell gPatQ hv0 0
  have hS : W.cell? ⟨6, 0, none⟩ = some (errVQ a1) := by simpa using World.var?_cell gStaQ hv1 0
  have lt : ∀ {g j : Nat} {v : Value}, W.cell? ⟨g, j, none⟩ = some v → g < W.heap.size := by
    intro g j v hc
    exact World.block_lt_of_cell? W _ hc
  have f0 := far_of_laidQ h 0 2 (by decide) rfl
  have f1 := far_of_laidQ h 1 0 (by decide) rfl
  have f2 := far_of_laidQ h 2 1 (by decide) rfl
  exact ⟨a0, a1, hP, hS, hne, ⟨c0, t0, hb0⟩, ⟨c1, t1, hb1⟩, lt hP, lt hS, lt f0, f0, f1, f2⟩

theorem glob_ofD {W : World} (h : laidMetH Tryd.prog laidAQ W) : ∃ aR aM, GlobD W aR aM := by
  have h1 := laidMetH.filter (fun x => x.1 == "virama/dfa.errRule" || x.1 == "virama/dfa.errMachine") h
  have h2 : laidMetH Tryd.prog laid2D W := h1
  have h' : laidMet Tryd.prog laid2D W := by rw [MakeChecks.laidMetH_plain _ _ _ (by kernel_rfl)] at h2; exact h2
  obtain ⟨a0, a1, s0, s1, c0, c1, t0, t1, hv0, hv1, hc0, hs0, hz0, hc1, hs1, hz1, hne, hb0, hb1⟩ :=
    laid_sentinels2 h' gRulD gRulTypeD gMacD gMacTypeD Tryd.underlying57 rowEQ Tryd.underlying203 Tryd.underlying228 rfl rfl Tryd.underlying9 cellsEQ cellsSQ
  have hP : W.cell? ⟨0, 0, none⟩ = some (errVQ a0) := by simpa using World.var?_cell gRulD hv0 0
  have hS : W.cell? ⟨1, 0, none⟩ = some (errVQ a1) := by simpa using World.var?_cell gMacD hv1 0
  have lt : ∀ {g j : Nat} {v : Value}, W.cell? ⟨g, j, none⟩ = some v → g < W.heap.size := by
    intro g j v hc
    exact World.block_lt_of_cell? W _ hc
  exact ⟨a0, a1, hP, hS, hne, ⟨c0, t0, hb0⟩, ⟨c1, t1, hb1⟩, lt hP, lt hS⟩

noncomputable def lowQ : Nat := (World.holding Tryd.prog default ⟨#[], #[], []⟩).heap.size
abbrev patSQ : ByteArray := ⟨#[110, 102, 97, 58, 32, 97, 32, 112, 97, 116, 116, 101, 114, 110, 32, 116, 104, 97, 116, 32, 105, 115, 32, 110, 111, 116, 32, 114, 105, 103, 104, 116]⟩
abbrev staSQ : ByteArray := ⟨#[110, 102, 97, 58, 32, 115, 116, 97, 116, 101, 115, 32, 116, 104, 97, 116, 32, 116, 104, 101, 32, 112, 97, 116, 116, 101, 114, 110, 32, 104, 97, 115, 32, 110, 111, 116]⟩
abbrev rulSQ : ByteArray := ⟨#[100, 102, 97, 58, 32, 114, 117, 108, 101, 115, 32, 116, 104, 97, 116, 32, 97, 114, 101, 32, 110, 111, 116, 32, 114, 105, 103, 104, 116]⟩
abbrev macSQ : ByteArray := ⟨#[100, 102, 97, 58, 32, 97, 32, 109, 97, 99, 104, 105, 110, 101, 32, 116, 104, 97, 116, 32, 105, 115, 32, 110, 111, 116, 32, 114, 105, 103, 104, 116, 44, 32, 111, 114, 32, 119, 111, 117, 108, 100, 32, 104, 97, 118, 101, 32, 116, 111, 111, 32, 109, 97, 110, 121, 32, 115, 116, 97, 116, 101, 115]⟩
noncomputable def baseWorldQ (os : Os) : World :=
  let w0 := World.holding Tryd.prog os ⟨#[.cells #[.string patSQ] 228, .cells #[.string staSQ] 228, .cells #[.string rulSQ] 228, .cells #[.string macSQ] 228], #[], []⟩
  { w0 with heap := ((((w0.heap.modify 5 fun
      | .cells _ t frozen => .cells #[errVQ ⟨lowQ, 0, none⟩] t frozen
      | o => o).modify 6 fun
      | .cells _ t frozen => .cells #[errVQ ⟨lowQ + 1, 0, none⟩] t frozen
      | o => o).modify 0 fun
      | .cells _ t frozen => .cells #[errVQ ⟨lowQ + 2, 0, none⟩] t frozen
      | o => o).modify 1 fun
      | .cells _ t frozen => .cells #[errVQ ⟨lowQ + 3, 0, none⟩] t frozen
      | o => o) }
noncomputable def laidWorldQ (os : Os) : World := (baseWorldQ os).layVars Tryd.prog laidTQ
theorem laidWorld_osQ (os : Os) : (laidWorldQ os).os = os := World.layVars_os _ _ _
set_option maxRecDepth 100000 in
theorem laid_met_wQ (os : Os) (args : Array Value) : laidMet Tryd.prog laidAQ ((laidWorldQ os).forCall (fun _ _ => 0) ⟨#[], args, []⟩).memory :=
  laidMet_of_run' 8 (by kernel_rfl) (by kernel_rfl)
theorem laid_metQ (os : Os) (args : Array Value) : laidMetH Tryd.prog laidAQ ((laidWorldQ os).forCall (fun _ _ => 0) ⟨#[], args, []⟩).memory := by
  rw [MakeChecks.laidMetH_plain _ _ _ (by kernel_rfl)]
  exact laid_met_wQ os args

theorem true_postQ {H : Type} {enc : TypeId × Value → H} {f : Func} {s : ChangeSpec} {W W' : World} {args : Array Value} {ds gs : List (DataW H)} {before : List MemPlace}
    (hW : DataW.Whole enc Tryd.prog f.params.toList s.vars false W args.toList ds gs before) (hr : f.resultTypes = #[4]) (hfn : s.fn H (ds ++ gs) = { results := [.lit (.bool true)], args := ds }) (hv : s.vars = [])
    (hargs : DataW.TrodAll enc Tryd.prog W' 0 (fun b => decide (b < W.heap.size)) true f.params.toList args.toList ds before) (hb : Below W.heap.size W W') :
    s.post enc Tryd.prog f false true false false W args (.bool true) W' := by
  refine ⟨ds, gs, before, [], before, [], hW, ?_, ?_, ?_, ?_, fun h => by cases h⟩
  · rw [hr, hfn]
    exact trodAll_cons_mk (shut_bool Tryd.underlying4 _) trodAll_mk0
  · rw [hfn]
    exact hargs
  · rw [hv, hfn]
    rfl
  · exact World.keptBut_mono (fun p hp => ⟨hp, .inr (.inl hp)⟩) (hb.frame (· ∈ before))

abbrev In64K (n : Int) : Prop := -9223372036854775808 ≤ n ∧ n ≤ 9223372036854775807
theorem in64_wfQ {n : Int} (h : (Lit.int .i64 n).wf = true) : In64K n := by
  simp [Lit.wf, IntKind.min, IntKind.max, IntKind.signed, IntKind.bits] at h
  exact h
theorem list_ofQ {α : Type} {Q : Nat → α → Prop} : ∀ n : Nat, (∀ i, i < n → ∃ x, Q i x) → ∃ l : List α, l.length = n ∧ ∀ i x, l[i]? = some x → Q i x
  | 0, _ => ⟨[], rfl, fun i x h => by simp at h⟩
  | n + 1, h => by
    obtain ⟨l, hl, hq⟩ := list_ofQ n fun i hi => h i (by omega)
    obtain ⟨y, hy⟩ := h n (by omega)
    refine ⟨l ++ [y], by simp [hl], fun i x hx => ?_⟩
    rcases Nat.lt_or_ge i l.length with hi | hi
    · rw [List.getElem?_append_left hi] at hx
      exact hq i x hx
    · rw [List.getElem?_append_right hi] at hx
      have hi2 : i - l.length = 0 := by
        have := (List.getElem?_eq_some_iff.1 hx).1
        simp at this
        omega
      rw [hi2] at hx
      cases hx
      rw [show i = n from by omega]
      exact hy
theorem add_atQ2 (g off k : Nat) : (⟨g, off, none⟩ : Addr).add k = ⟨g, off + k, none⟩ := by unfold Addr.add; split <;> simp_all
theorem cellsIntQ : Tryd.prog.cellsOf 3 = 1 := by kernel_rfl
theorem cellsI64Q : Tryd.prog.cellsOf 2 = 1 := by kernel_rfl
theorem cellsBoolQ : Tryd.prog.cellsOf 4 = 1 := by kernel_rfl
theorem cellsItQ : Tryd.prog.cellsOf 69 = 2 := by kernel_rfl
theorem cellsItsQ : Tryd.prog.cellsOf 38 = 1 := by kernel_rfl
theorem cellsPatQ : Tryd.prog.cellsOf 40 = 2 := by kernel_rfl
section
variable {H : Type} {enc : TypeId × Value → H} {W : World}
theorem list2Q {α : Type} {cs : List α} (h : cs.length = 2) : ∃ c0 c1, cs = [c0, c1] := by
  match cs, h with
  | [c0, c1], _ => exact ⟨c0, c1, rfl⟩
theorem open_itQ {fuel : Nat} {cs : List Value} {x : DataW H × List MemPlace} (h : DataW.trod enc Tryd.prog W 0 (fun _ => true) true fuel 69 cs = some x) : ∃ X : ItemP, cs = [.int .i64 X.1, .int .i64 X.2] ∧ In64K X.1 ∧ In64K X.2 := by
  obtain ⟨y0, y1, n, _, hl, h0, h1⟩ := trod_struct2 Tryd.underlying69 h
  rw [cellsItQ] at hl
  obtain ⟨k0, k1, rfl⟩ := list2Q hl
  change DataW.trod enc Tryd.prog W 0 (fun _ => true) true n 2 (List.take (Tryd.prog.cellsOf 2) (List.drop 0 [k0, k1])) = _ at h0
  change DataW.trod enc Tryd.prog W 0 (fun _ => true) true n 3 (List.take (Tryd.prog.cellsOf 3) (List.drop 1 [k0, k1])) = _ at h1
  rw [cellsI64Q] at h0
  rw [cellsIntQ] at h1
  obtain ⟨a, e0, _, w0⟩ := DataW.trod_int Tryd.underlying2 h0
  obtain ⟨b, e1, _, w1⟩ := DataW.trod_int Tryd.underlying3 h1
  obtain rfl : k0 = .int .i64 a := by simpa using e0
  obtain rfl : k1 = .int .i64 b := by simpa using e1
  exact ⟨(a, b), rfl, in64_wfQ w0, in64_wfQ w1⟩
def ItsInQ (w : World) (o : Option Addr) (l : List ItemP) : Prop := AtI w o l ∧ ∀ x ∈ l, In64K x.1 ∧ In64K x.2
theorem open_itsQ {fuel : Nat} {v : Value} {x : DataW H × List MemPlace} (h : DataW.trod enc Tryd.prog W 0 (fun _ => true) true fuel 38 [v] = some x) :
    ∃ (o : Option Addr) (l : List ItemP) (cap : Nat), v = .slice o l.length cap ∧ ItsInQ W o l ∧ l.length ≤ cap := by
  rcases DataW.trod_slice Tryd.underlying38 h with ⟨hv, _⟩ | ⟨a, len, cap, elems, rest, n, _, hv, _, _, hle, hcap, hlen, hc, _, _⟩
  · obtain rfl : v = .slice none 0 0 := by simpa using hv
    exact ⟨none, [], 0, rfl, ⟨fun h => absurd h (Nat.not_lt_zero _), fun c h => by cases h⟩, Nat.le_refl _⟩
  · obtain rfl : v = .slice (some a) len cap := by simpa using hv
    have hall : ∀ i, i < len → ∃ X : ItemP, W.cell? ((a.add (i * 2)).add 0) = some (.int .i64 X.1) ∧ W.cell? ((a.add (i * 2)).add 1) = some (.int .i64 X.2) ∧ In64K X.1 ∧ In64K X.2 := fun i hi => by
      have he := hc i hi
      rw [cellsItQ, List.getElem?_eq_getElem (by omega)] at he
      obtain ⟨cs, hcs, ht⟩ := Option.bind_eq_some_iff.1 he
      obtain ⟨_, hl, hg⟩ := World.cells?_some hcs
      obtain ⟨X, rfl, h1, h2⟩ := open_itQ ht
      exact ⟨X, by rw [hg 0 (by omega)]; rfl, by rw [hg 1 (by omega)]; rfl, h1, h2⟩
    obtain ⟨rs, hrl, hrs⟩ := list_ofQ len hall
    subst hrl
    refine ⟨some a, rs, cap, rfl, ⟨fun hn => ?_, fun c hc => by obtain ⟨i, hi⟩ := List.getElem?_of_mem hc; exact ⟨(hrs i c hi).2.2.1, (hrs i c hi).2.2.2⟩⟩, by omega⟩
    have h0 := (hrs 0 _ (List.getElem?_eq_getElem hn)).1
    obtain ⟨g, off, spot⟩ := a
    have hspot : spot = none := by simpa [Addr.add] using World.cell?_spot h0
    subst hspot
    refine ⟨g, off, rfl, fun j x hx => ?_⟩
    obtain ⟨c0, c1, _⟩ := hrs j x hx
    rw [add_atQ2, add_atQ2] at c0 c1
    exact ⟨c0, c1⟩
theorem open_pat {fuel : Nat} {cs : List Value} {x : DataW H × List MemPlace} (h : DataW.trod enc Tryd.prog W 0 (fun _ => true) true fuel 40 cs = some x) :
    ∃ (st : Bool) (o : Option Addr) (xs : List ItemP) (cap : Nat), cs = [.bool st, .slice o xs.length cap] ∧ ItsInQ W o xs ∧ xs.length ≤ cap := by
  obtain ⟨y0, y1, n, _, hl, h0, h1⟩ := trod_struct2 Tryd.underlying40 h
  rw [cellsPatQ] at hl
  obtain ⟨k0, k1, rfl⟩ := list2Q hl
  change DataW.trod enc Tryd.prog W 0 (fun _ => true) true n 4 (List.take (Tryd.prog.cellsOf 4) (List.drop 0 [k0, k1])) = _ at h0
  change DataW.trod enc Tryd.prog W 0 (fun _ => true) true n 38 (List.take (Tryd.prog.cellsOf 38) (List.drop 1 [k0, k1])) = _ at h1
  rw [cellsBoolQ] at h0
  rw [cellsItsQ] at h1
  obtain ⟨st, e0, _⟩ := DataW.trod_bool Tryd.underlying4 h0
  obtain rfl : k0 = .bool st := by simpa using e0
  obtain ⟨o, xs, cap, rfl, hI, hc⟩ := open_itsQ (v := k1) h1
  exact ⟨st, o, xs, cap, rfl, hI, hc⟩
end

theorem cellsRulJ : Tryd.prog.cellsOf 42 = 5 := by kernel_rfl
theorem list5J {α : Type} {cs : List α} (h : cs.length = 5) : ∃ c0 c1 c2 c3 c4, cs = [c0, c1, c2, c3, c4] := by
  match cs, h with
  | [c0, c1, c2, c3, c4], _ => exact ⟨c0, c1, c2, c3, c4, rfl⟩
section
variable {H : Type} {enc : TypeId × Value → H} {W : World}
theorem trod3J {P : Program} {t : TypeId} {f0 f1 f2 : Field} {base : Nat} {spare : Nat → Bool} {held : Bool} {fuel : Nat} {cs : List Value} {x : DataW H × List MemPlace} (ht : P.underlying t = some (.struct #[f0, f1, f2])) (h : DataW.trod enc P W base spare held fuel t cs = some x) :
    ∃ y0 y1 y2 n, cs.length = P.cellsOf t ∧ DataW.trod enc P W base spare held n f0.type ((cs.drop f0.offset).take (P.cellsOf f0.type)) = some y0 ∧
      DataW.trod enc P W base spare held n f1.type ((cs.drop f1.offset).take (P.cellsOf f1.type)) = some y1 ∧ DataW.trod enc P W base spare held n f2.type ((cs.drop f2.offset).take (P.cellsOf f2.type)) = some y2 := by
  obtain ⟨xs, n, _, rfl, hl, hlen, hf⟩ := DataW.trod_struct ht h
  match xs, hlen with
  | [y0, y1, y2], _ => exact ⟨y0, y1, y2, n, hl, by simpa using hf 0 f0 rfl, by simpa using hf 1 f1 rfl, by simpa using hf 2 f2 rfl⟩
def RulIn (w : World) (X : RulX) : Prop := (ItsInQ w X.1.2.1 X.1.2.2.1 ∧ X.1.2.2.1.length ≤ X.1.2.2.2) ∧ ItsInQ w X.2.1.2.1 X.2.1.2.2.1 ∧ X.2.1.2.2.1.length ≤ X.2.1.2.2.2
theorem open_rulJ {fuel : Nat} {cs : List Value} {x : DataW H × List MemPlace} (h : DataW.trod enc Tryd.prog W 0 (fun _ => true) true fuel 42 cs = some x) : ∃ X : RulX, cs = (rulC X).toList ∧ RulIn W X := by
  obtain ⟨y0, y1, y2, n, hl, h0, h1, h2⟩ := trod3J Tryd.underlying42 h
  rw [cellsRulJ] at hl
  obtain ⟨k0, k1, k2, k3, k4, rfl⟩ := list5J hl
  change DataW.trod enc Tryd.prog W 0 (fun _ => true) true n 40 (List.take (Tryd.prog.cellsOf 40) (List.drop 0 [k0, k1, k2, k3, k4])) = _ at h0
  change DataW.trod enc Tryd.prog W 0 (fun _ => true) true n 40 (List.take (Tryd.prog.cellsOf 40) (List.drop 2 [k0, k1, k2, k3, k4])) = _ at h1
  change DataW.trod enc Tryd.prog W 0 (fun _ => true) true n 4 (List.take (Tryd.prog.cellsOf 4) (List.drop 4 [k0, k1, k2, k3, k4])) = _ at h2
  rw [cellsPatQ] at h0 h1
  rw [cellsBoolQ] at h2
  obtain ⟨s1, o1, xs1, c1, e1, i1, l1⟩ := open_pat h0
  obtain ⟨s2, o2, xs2, c2, e2, i2, l2⟩ := open_pat h1
  obtain ⟨br, e3, _⟩ := DataW.trod_bool Tryd.underlying4 h2
  have e1' : k0 = .bool s1 ∧ k1 = .slice o1 xs1.length c1 := by simpa using e1
  have e2' : k2 = .bool s2 ∧ k3 = .slice o2 xs2.length c2 := by simpa using e2
  have e3' : k4 = .bool br := by simpa using e3
  obtain ⟨rfl, rfl⟩ := e1'
  obtain ⟨rfl, rfl⟩ := e2'
  obtain rfl := e3'
  exact ⟨((s1, o1, xs1, c1), (s2, o2, xs2, c2), br), rfl, ⟨i1, l1⟩, i2, l2⟩
theorem open_rulsJ {fuel : Nat} {v : Value} {x : DataW H × List MemPlace} (h : DataW.trod enc Tryd.prog W 0 (fun _ => true) true fuel 36 [v] = some x) :
    ∃ (o : Option Addr) (l : List RulX) (cap : Nat), v = .slice o l.length cap ∧ (AtC W o l ∧ ItsC W l) ∧ l.length ≤ cap := by
  rcases DataW.trod_slice Tryd.underlying36 h with ⟨hv, _⟩ | ⟨a, len, cap, elems, rest, n, _, hv, _, _, hle, hcap, hlen, hc, _, _⟩
  · obtain rfl : v = .slice none 0 0 := by simpa using hv
    exact ⟨none, [], 0, rfl, ⟨fun h => absurd h (Nat.not_lt_zero _), fun c h => by cases h⟩, Nat.le_refl _⟩
  · obtain rfl : v = .slice (some a) len cap := by simpa using hv
    have hall : ∀ i, i < len → ∃ X : RulX, (W.cell? ((a.add (i * 5)).add 0) = some (.bool X.1.1) ∧ W.cell? ((a.add (i * 5)).add 1) = some (.slice X.1.2.1 X.1.2.2.1.length X.1.2.2.2) ∧ W.cell? ((a.add (i * 5)).add 2) = some (.bool X.2.1.1) ∧
        W.cell? ((a.add (i * 5)).add 3) = some (.slice X.2.1.2.1 X.2.1.2.2.1.length X.2.1.2.2.2) ∧ W.cell? ((a.add (i * 5)).add 4) = some (.bool X.2.2)) ∧ RulIn W X := fun i hi => by
      have he := hc i hi
      rw [cellsRulJ, List.getElem?_eq_getElem (by omega)] at he
      obtain ⟨cs, hcs, ht⟩ := Option.bind_eq_some_iff.1 he
      obtain ⟨_, hl, hg⟩ := World.cells?_some hcs
      obtain ⟨X, rfl, h1⟩ := open_rulJ ht
      exact ⟨X, ⟨by rw [hg 0 (by omega)]; rfl, by rw [hg 1 (by omega)]; rfl, by rw [hg 2 (by omega)]; rfl, by rw [hg 3 (by omega)]; rfl, by rw [hg 4 (by omega)]; rfl⟩, h1⟩
    obtain ⟨rs, hrl, hrs⟩ := list_ofQ len hall
    subst hrl
    refine ⟨some a, rs, cap, rfl, ⟨fun hn => ?_, fun c hc => by
      obtain ⟨i, hi⟩ := List.getElem?_of_mem hc
      obtain ⟨⟨i1, l1⟩, i2, l2⟩ := (hrs i c hi).2
      exact ⟨⟨i1.1, l1⟩, i2.1, l2⟩⟩, by omega⟩
    have h0 := (hrs 0 _ (List.getElem?_eq_getElem hn)).1.1
    obtain ⟨g, off, spot⟩ := a
    have hspot : spot = none := by simpa [Addr.add] using World.cell?_spot h0
    subst hspot
    refine ⟨g, off, rfl, fun j x hx => ?_⟩
    obtain ⟨⟨c0, c1, c2, c3, c4⟩, _⟩ := hrs j x hx
    rw [add_atQ2, add_atQ2] at c0 c1 c2 c3 c4
    exact ⟨c0, c1, c2, c3, c4⟩
end
end Go.Proofs.YtaoooocalpkhjaaDoor
