/-
  NARROWER THAN 'FOR EVERY INPUT', by the rows' own cells (each row's printed sentence says how): DfaCompiles: laid · DfaGoes: laid · SegCuts: laid · SegTells: laid · SegRules: laid · SegBreaks: laid.
  DERIVED. THE GIVEN ROWS OF THIS SEAT. 6 by the template 'for every input the law returns true; each argument reads behind the call as it read before'; 0 by the template 'total and deterministic' (their statements: YtaoooocalpkhjaaGreatDoorTotals.lean).
  GIVEN WITH THE SEED: the statements are not yours to turn. If you find one false, say at which input.
  Laid BY PROGRAM, IN A SANDBOX (cutbox-rows.mjs): the forced cells as the released guide's own fill.sh prints them over the translation 5a916dc5045f8d0d… (all of the seat's roots in one cut). By AI agents, Wed Nov 11 2026. No macro, syntax, notation, axiom, sorry.
-/
import Derived.Test.YtaoooocalpkhjaaGreatDoorChecked
import GoSem.Claim
import GoSem.ClaimJoined
import GoSem.ClaimMapViews
import Derived.JoinedTies
import Derived.KernelRfl
namespace Go.Proofs.YtaoooocalpkhjaaGreatDoor
/- THE CELL 'sum', in the pinned program and in every row, IS THE sha256 OF THE DUMP (.gsa) THAT YtaoooocalpkhjaaGreatDoorProg.lean LOADS. Nothing in Lean hashes anything: it is a label: what it is worth is what the hold of that sum in a sandbox is worth. -/
noncomputable def Tryz.pinned : Pinned := { name := "ytaoooocalpkhjaagreatdoor", sum := "5a916dc5045f8d0d8c61cabb1282d496a1caf31804e003a834d2cce7799d3de6", checked := Tryz.checked }
namespace Rows
def none {H : Type} : Left H := { results := [], args := [] }

/- WHAT THE LISTED PACKAGE-LEVEL VARIABLES READ AS WHEN THE CALL BEGINS. Each datum BY PROGRAM (the guide's laid-datum.mjs) off the statement by which the dump's own 'gosem.cut.vars' lays the variable. In a bare row this is a premise. The card (YtaoooocalpkhjaaGreatDoorCards.lean) ties it to the program's text. -/
def laid_virama_nfa_errPattern {H : Type} : DataW H := .iface "*errors.errorString" (.ptr (.agg [.lit (.string [110, 102, 97, 58, 32, 97, 32, 112, 97, 116, 116, 101, 114, 110, 32, 116, 104, 97, 116, 32, 105, 115, 32, 110, 111, 116, 32, 114, 105, 103, 104, 116])]))
def laid_virama_nfa_errStates {H : Type} : DataW H := .iface "*errors.errorString" (.ptr (.agg [.lit (.string [110, 102, 97, 58, 32, 115, 116, 97, 116, 101, 115, 32, 116, 104, 97, 116, 32, 116, 104, 101, 32, 112, 97, 116, 116, 101, 114, 110, 32, 104, 97, 115, 32, 110, 111, 116])]))
def laid_virama_nfa_far {H : Type} : DataW H := .agg [.lit (.int .i64 2), .lit (.int .i64 0), .lit (.int .i64 1)]
def laid_virama_dfa_errRule {H : Type} : DataW H := .iface "*errors.errorString" (.ptr (.agg [.lit (.string [100, 102, 97, 58, 32, 114, 117, 108, 101, 115, 32, 116, 104, 97, 116, 32, 97, 114, 101, 32, 110, 111, 116, 32, 114, 105, 103, 104, 116])]))
def laid_virama_dfa_errMachine {H : Type} : DataW H := .iface "*errors.errorString" (.ptr (.agg [.lit (.string [100, 102, 97, 58, 32, 97, 32, 109, 97, 99, 104, 105, 110, 101, 32, 116, 104, 97, 116, 32, 105, 115, 32, 110, 111, 116, 32, 114, 105, 103, 104, 116, 44, 32, 111, 114, 32, 119, 111, 117, 108, 100, 32, 104, 97, 118, 101, 32, 116, 111, 111, 32, 109, 97, 110, 121, 32, 115, 116, 97, 116, 101, 115])]))
def laid_virama_seg_errMachine {H : Type} : DataW H := .iface "*errors.errorString" (.ptr (.agg [.lit (.string [115, 101, 103, 58, 32, 114, 117, 108, 101, 115, 44, 32, 111, 114, 32, 116, 104, 101, 105, 114, 32, 109, 97, 99, 104, 105, 110, 101, 44, 32, 116, 104, 97, 116, 32, 97, 114, 101, 32, 110, 111, 116, 32, 114, 105, 103, 104, 116])]))
def laid_virama_seg_errCuts {H : Type} : DataW H := .iface "*errors.errorString" (.ptr (.agg [.lit (.string [115, 101, 103, 58, 32, 99, 117, 116, 115, 32, 116, 104, 97, 116, 32, 97, 114, 101, 32, 110, 111, 116, 32, 114, 105, 103, 104, 116])]))
def laid_virama_seg_errPlace {H : Type} : DataW H := .iface "*errors.errorString" (.ptr (.agg [.lit (.string [115, 101, 103, 58, 32, 97, 32, 112, 108, 97, 99, 101, 32, 116, 104, 97, 116, 32, 108, 105, 101, 115, 32, 105, 110, 32, 110, 111, 32, 112, 97, 114, 116])]))
def laid_errors_errorType {H : Type} : DataW H := .iface "internal/reflectlite.rtype" (.agg [.ptr (.lit (.string [101, 114, 114, 111, 114]))])

/-- 'viramalaw12.DfaCompiles': WHATEVER THE INPUT: true; the input reads as it did. -/
def dfaCompilesSpec : ChangeSpec := { name := "dfaCompiles", fn := fun _ => fun
  | [d1, d2] => { results := [.lit (.bool true)], args := [d1, d2] }
  | _ => none }
def dfaCompilesRow : OpenClaim := { program := "ytaoooocalpkhjaagreatdoor", sum := "5a916dc5045f8d0d8c61cabb1282d496a1caf31804e003a834d2cce7799d3de6", func := "virama/viramalaw12.DfaCompiles", spec := "dfaCompiles", inPlace := ["internal/reflectlite.TypeOf"], unfollowed := true, recurses := true, named := ["virama/dfa.errRule", "virama/dfa.errMachine", "virama/nfa.errPattern", "virama/nfa.errStates", "virama/nfa.far"], plainKeys := false, apart := false, laid := [("virama/nfa.errPattern", laid_virama_nfa_errPattern), ("virama/nfa.errStates", laid_virama_nfa_errStates), ("virama/nfa.far", laid_virama_nfa_far), ("virama/dfa.errRule", laid_virama_dfa_errRule), ("virama/dfa.errMachine", laid_virama_dfa_errMachine)] }
def DfaCompilesSaid : Prop := dfaCompilesRow.holds Tryz.pinned (OpenSpec.ofChange dfaCompilesSpec)

/-- ITS FALSE NEIGHBOUR: 'it returns false'. Refute it at one input. -/
def dfaCompilesWrong : ChangeSpec := { name := "dfaCompiles", fn := fun _ => fun
  | [d1, d2] => { results := [.lit (.bool false)], args := [d1, d2] }
  | _ => none }
def DfaCompilesWrongFalsely : Prop := dfaCompilesRow.holds Tryz.pinned (OpenSpec.ofChange dfaCompilesWrong)

/-- 'viramalaw12.DfaGoes': WHATEVER THE INPUT: true; the input reads as it did. -/
def dfaGoesSpec : ChangeSpec := { name := "dfaGoes", fn := fun _ => fun
  | [d1, d2, d3, d4] => { results := [.lit (.bool true)], args := [d1, d2, d3, d4] }
  | _ => none }
def dfaGoesRow : OpenClaim := { program := "ytaoooocalpkhjaagreatdoor", sum := "5a916dc5045f8d0d8c61cabb1282d496a1caf31804e003a834d2cce7799d3de6", func := "virama/viramalaw12.DfaGoes", spec := "dfaGoes", inPlace := ["internal/reflectlite.TypeOf"], unfollowed := true, recurses := true, named := ["virama/dfa.errRule", "virama/dfa.errMachine", "virama/nfa.errPattern", "virama/nfa.errStates", "virama/nfa.far"], plainKeys := false, apart := false, laid := [("virama/nfa.errPattern", laid_virama_nfa_errPattern), ("virama/nfa.errStates", laid_virama_nfa_errStates), ("virama/nfa.far", laid_virama_nfa_far), ("virama/dfa.errRule", laid_virama_dfa_errRule), ("virama/dfa.errMachine", laid_virama_dfa_errMachine)] }
def DfaGoesSaid : Prop := dfaGoesRow.holds Tryz.pinned (OpenSpec.ofChange dfaGoesSpec)

/-- ITS FALSE NEIGHBOUR: 'it returns false'. Refute it at one input. -/
def dfaGoesWrong : ChangeSpec := { name := "dfaGoes", fn := fun _ => fun
  | [d1, d2, d3, d4] => { results := [.lit (.bool false)], args := [d1, d2, d3, d4] }
  | _ => none }
def DfaGoesWrongFalsely : Prop := dfaGoesRow.holds Tryz.pinned (OpenSpec.ofChange dfaGoesWrong)

/-- 'viramalaw13.SegCuts': WHATEVER THE INPUT: true; the input reads as it did. -/
def segCutsSpec : ChangeSpec := { name := "segCuts", fn := fun _ => fun
  | [d1, d2, d3, d4] => { results := [.lit (.bool true)], args := [d1, d2, d3, d4] }
  | _ => none }
def segCutsRow : OpenClaim := { program := "ytaoooocalpkhjaagreatdoor", sum := "5a916dc5045f8d0d8c61cabb1282d496a1caf31804e003a834d2cce7799d3de6", func := "virama/viramalaw13.SegCuts", spec := "segCuts", inPlace := ["internal/reflectlite.TypeOf"], unfollowed := true, recurses := true, named := ["virama/seg.errMachine", "virama/dfa.errMachine", "virama/dfa.errRule", "virama/seg.errCuts", "virama/seg.errPlace"], plainKeys := false, apart := false, laid := [("virama/dfa.errRule", laid_virama_dfa_errRule), ("virama/dfa.errMachine", laid_virama_dfa_errMachine), ("virama/seg.errMachine", laid_virama_seg_errMachine), ("virama/seg.errCuts", laid_virama_seg_errCuts), ("virama/seg.errPlace", laid_virama_seg_errPlace)] }
def SegCutsSaid : Prop := segCutsRow.holds Tryz.pinned (OpenSpec.ofChange segCutsSpec)

/-- ITS FALSE NEIGHBOUR: 'it returns false'. Refute it at one input. -/
def segCutsWrong : ChangeSpec := { name := "segCuts", fn := fun _ => fun
  | [d1, d2, d3, d4] => { results := [.lit (.bool false)], args := [d1, d2, d3, d4] }
  | _ => none }
def SegCutsWrongFalsely : Prop := segCutsRow.holds Tryz.pinned (OpenSpec.ofChange segCutsWrong)

/-- 'viramalaw13.SegTells': WHATEVER THE INPUT: true; the input reads as it did. -/
def segTellsSpec : ChangeSpec := { name := "segTells", fn := fun _ => fun
  | [d1, d2, d3] => { results := [.lit (.bool true)], args := [d1, d2, d3] }
  | _ => none }
def segTellsRow : OpenClaim := { program := "ytaoooocalpkhjaagreatdoor", sum := "5a916dc5045f8d0d8c61cabb1282d496a1caf31804e003a834d2cce7799d3de6", func := "virama/viramalaw13.SegTells", spec := "segTells", inPlace := ["internal/reflectlite.TypeOf"], unfollowed := true, recurses := true, named := ["virama/seg.errMachine", "virama/dfa.errMachine", "virama/dfa.errRule", "virama/seg.errCuts", "virama/seg.errPlace"], plainKeys := false, apart := false, laid := [("virama/dfa.errRule", laid_virama_dfa_errRule), ("virama/dfa.errMachine", laid_virama_dfa_errMachine), ("virama/seg.errMachine", laid_virama_seg_errMachine), ("virama/seg.errCuts", laid_virama_seg_errCuts), ("virama/seg.errPlace", laid_virama_seg_errPlace)] }
def SegTellsSaid : Prop := segTellsRow.holds Tryz.pinned (OpenSpec.ofChange segTellsSpec)

/-- ITS FALSE NEIGHBOUR: 'it returns false'. Refute it at one input. -/
def segTellsWrong : ChangeSpec := { name := "segTells", fn := fun _ => fun
  | [d1, d2, d3] => { results := [.lit (.bool false)], args := [d1, d2, d3] }
  | _ => none }
def SegTellsWrongFalsely : Prop := segTellsRow.holds Tryz.pinned (OpenSpec.ofChange segTellsWrong)

/-- 'viramalaw13.SegRules': WHATEVER THE INPUT: true; the input reads as it did. -/
def segRulesSpec : ChangeSpec := { name := "segRules", fn := fun _ => fun
  | [d1, d2, d3] => { results := [.lit (.bool true)], args := [d1, d2, d3] }
  | _ => none }
def segRulesRow : OpenClaim := { program := "ytaoooocalpkhjaagreatdoor", sum := "5a916dc5045f8d0d8c61cabb1282d496a1caf31804e003a834d2cce7799d3de6", func := "virama/viramalaw13.SegRules", spec := "segRules", inPlace := ["internal/reflectlite.TypeOf", "internal/reflectlite.ValueOf", "(internal/reflectlite.Value).Type", "(internal/reflectlite.Value).IsNil", "(internal/reflectlite.Value).Elem", "(internal/reflectlite.Value).Set"], unfollowed := true, recurses := true, named := ["virama/seg.errMachine", "virama/dfa.errMachine", "virama/dfa.errRule", "virama/seg.errCuts", "virama/seg.errPlace", "virama/nfa.errPattern", "virama/nfa.errStates", "virama/nfa.far", "errors.errorType"], plainKeys := false, apart := false, laid := [("errors.errorType", laid_errors_errorType), ("virama/nfa.errPattern", laid_virama_nfa_errPattern), ("virama/nfa.errStates", laid_virama_nfa_errStates), ("virama/nfa.far", laid_virama_nfa_far), ("virama/dfa.errRule", laid_virama_dfa_errRule), ("virama/dfa.errMachine", laid_virama_dfa_errMachine), ("virama/seg.errMachine", laid_virama_seg_errMachine), ("virama/seg.errCuts", laid_virama_seg_errCuts), ("virama/seg.errPlace", laid_virama_seg_errPlace)] }
def SegRulesSaid : Prop := segRulesRow.holds Tryz.pinned (OpenSpec.ofChange segRulesSpec)

/-- ITS FALSE NEIGHBOUR: 'it returns false'. Refute it at one input. -/
def segRulesWrong : ChangeSpec := { name := "segRules", fn := fun _ => fun
  | [d1, d2, d3] => { results := [.lit (.bool false)], args := [d1, d2, d3] }
  | _ => none }
def SegRulesWrongFalsely : Prop := segRulesRow.holds Tryz.pinned (OpenSpec.ofChange segRulesWrong)

/-- 'viramalaw13.SegBreaks': WHATEVER THE INPUT: true; the input reads as it did. -/
def segBreaksSpec : ChangeSpec := { name := "segBreaks", fn := fun _ => fun
  | [d1, d2, d3, d4] => { results := [.lit (.bool true)], args := [d1, d2, d3, d4] }
  | _ => none }
def segBreaksRow : OpenClaim := { program := "ytaoooocalpkhjaagreatdoor", sum := "5a916dc5045f8d0d8c61cabb1282d496a1caf31804e003a834d2cce7799d3de6", func := "virama/viramalaw13.SegBreaks", spec := "segBreaks", inPlace := ["internal/reflectlite.TypeOf"], unfollowed := true, recurses := true, named := ["virama/seg.errMachine", "virama/dfa.errMachine", "virama/dfa.errRule", "virama/seg.errCuts", "virama/seg.errPlace"], plainKeys := false, apart := false, laid := [("virama/dfa.errRule", laid_virama_dfa_errRule), ("virama/dfa.errMachine", laid_virama_dfa_errMachine), ("virama/seg.errMachine", laid_virama_seg_errMachine), ("virama/seg.errCuts", laid_virama_seg_errCuts), ("virama/seg.errPlace", laid_virama_seg_errPlace)] }
def SegBreaksSaid : Prop := segBreaksRow.holds Tryz.pinned (OpenSpec.ofChange segBreaksSpec)

/-- ITS FALSE NEIGHBOUR: 'it returns false'. Refute it at one input. -/
def segBreaksWrong : ChangeSpec := { name := "segBreaks", fn := fun _ => fun
  | [d1, d2, d3, d4] => { results := [.lit (.bool false)], args := [d1, d2, d3, d4] }
  | _ => none }
def SegBreaksWrongFalsely : Prop := segBreaksRow.holds Tryz.pinned (OpenSpec.ofChange segBreaksWrong)

/- THE SECOND FORM. 'bulk': how many values and letters a reading holds, each counted each time it is reached (what is shared counts as often as it is met; a slice's spare places count too). A statement '..UptoSaid' is the law's where the arguments, and the package variables that the reading takes, are together of bulk at most 1048576: NARROWER than '..Said'. Prove '..Said' where nothing that the law and all that it calls make is longer than what came in: it says more and counts as full. Else prove '..UptoSaid'. A law counts once. -/
mutual
def uptoBulk {H : Type} : DataW H → Nat
  | .lit (.string bytes) => bytes.length + 1
  | .lit _ => 1
  | .nil => 1
  | .ptr d => uptoBulk d + 1
  | .slice elems spare => uptoBulkAll elems + uptoBulkAll spare + 1
  | .agg parts => uptoBulkAll parts + 1
  | .iface _ d => uptoBulk d + 1
  | .map entries => uptoBulkEntries entries + 1
  | .held _ => 1
def uptoBulkAll {H : Type} : List (DataW H) → Nat
  | [] => 0
  | d :: r => uptoBulk d + uptoBulkAll r
def uptoBulkEntries {H : Type} : List (Lit × DataW H) → Nat
  | [] => 0
  | x :: r => uptoBulkEntry x + uptoBulkEntries r
def uptoBulkEntry {H : Type} : Lit × DataW H → Nat
  | (.string bytes, d) => bytes.length + uptoBulk d + 1
  | (_, d) => uptoBulk d + 1
 end
def uptoSmall : (H : Type) → List (DataW H) → Bool := fun _ ds => decide (uptoBulkAll ds ≤ 1048576)
def OpenSpec.upto (s : _root_.Go.ChangeSpec) : _root_.Go.OpenSpec := { _root_.Go.OpenSpec.ofChange s with cond := some uptoSmall }

/-- 'viramalaw12.DfaCompiles', WHERE WHAT IT READS IS OF BULK AT MOST 1048576: true; the input reads as it did. -/
def dfaCompilesUptoRow : OpenClaim := { program := "ytaoooocalpkhjaagreatdoor", sum := "5a916dc5045f8d0d8c61cabb1282d496a1caf31804e003a834d2cce7799d3de6", func := "virama/viramalaw12.DfaCompiles", spec := "dfaCompiles", inPlace := ["internal/reflectlite.TypeOf"], unfollowed := true, recurses := true, named := ["virama/dfa.errRule", "virama/dfa.errMachine", "virama/nfa.errPattern", "virama/nfa.errStates", "virama/nfa.far"], plainKeys := false, apart := false, laid := [("virama/nfa.errPattern", laid_virama_nfa_errPattern), ("virama/nfa.errStates", laid_virama_nfa_errStates), ("virama/nfa.far", laid_virama_nfa_far), ("virama/dfa.errRule", laid_virama_dfa_errRule), ("virama/dfa.errMachine", laid_virama_dfa_errMachine)], narrowed := true }
def DfaCompilesUptoSaid : Prop := dfaCompilesUptoRow.holds Tryz.pinned (OpenSpec.upto dfaCompilesSpec)

/-- 'viramalaw12.DfaGoes', WHERE WHAT IT READS IS OF BULK AT MOST 1048576: true; the input reads as it did. -/
def dfaGoesUptoRow : OpenClaim := { program := "ytaoooocalpkhjaagreatdoor", sum := "5a916dc5045f8d0d8c61cabb1282d496a1caf31804e003a834d2cce7799d3de6", func := "virama/viramalaw12.DfaGoes", spec := "dfaGoes", inPlace := ["internal/reflectlite.TypeOf"], unfollowed := true, recurses := true, named := ["virama/dfa.errRule", "virama/dfa.errMachine", "virama/nfa.errPattern", "virama/nfa.errStates", "virama/nfa.far"], plainKeys := false, apart := false, laid := [("virama/nfa.errPattern", laid_virama_nfa_errPattern), ("virama/nfa.errStates", laid_virama_nfa_errStates), ("virama/nfa.far", laid_virama_nfa_far), ("virama/dfa.errRule", laid_virama_dfa_errRule), ("virama/dfa.errMachine", laid_virama_dfa_errMachine)], narrowed := true }
def DfaGoesUptoSaid : Prop := dfaGoesUptoRow.holds Tryz.pinned (OpenSpec.upto dfaGoesSpec)

/-- 'viramalaw13.SegCuts', WHERE WHAT IT READS IS OF BULK AT MOST 1048576: true; the input reads as it did. -/
def segCutsUptoRow : OpenClaim := { program := "ytaoooocalpkhjaagreatdoor", sum := "5a916dc5045f8d0d8c61cabb1282d496a1caf31804e003a834d2cce7799d3de6", func := "virama/viramalaw13.SegCuts", spec := "segCuts", inPlace := ["internal/reflectlite.TypeOf"], unfollowed := true, recurses := true, named := ["virama/seg.errMachine", "virama/dfa.errMachine", "virama/dfa.errRule", "virama/seg.errCuts", "virama/seg.errPlace"], plainKeys := false, apart := false, laid := [("virama/dfa.errRule", laid_virama_dfa_errRule), ("virama/dfa.errMachine", laid_virama_dfa_errMachine), ("virama/seg.errMachine", laid_virama_seg_errMachine), ("virama/seg.errCuts", laid_virama_seg_errCuts), ("virama/seg.errPlace", laid_virama_seg_errPlace)], narrowed := true }
def SegCutsUptoSaid : Prop := segCutsUptoRow.holds Tryz.pinned (OpenSpec.upto segCutsSpec)

/-- 'viramalaw13.SegTells', WHERE WHAT IT READS IS OF BULK AT MOST 1048576: true; the input reads as it did. -/
def segTellsUptoRow : OpenClaim := { program := "ytaoooocalpkhjaagreatdoor", sum := "5a916dc5045f8d0d8c61cabb1282d496a1caf31804e003a834d2cce7799d3de6", func := "virama/viramalaw13.SegTells", spec := "segTells", inPlace := ["internal/reflectlite.TypeOf"], unfollowed := true, recurses := true, named := ["virama/seg.errMachine", "virama/dfa.errMachine", "virama/dfa.errRule", "virama/seg.errCuts", "virama/seg.errPlace"], plainKeys := false, apart := false, laid := [("virama/dfa.errRule", laid_virama_dfa_errRule), ("virama/dfa.errMachine", laid_virama_dfa_errMachine), ("virama/seg.errMachine", laid_virama_seg_errMachine), ("virama/seg.errCuts", laid_virama_seg_errCuts), ("virama/seg.errPlace", laid_virama_seg_errPlace)], narrowed := true }
def SegTellsUptoSaid : Prop := segTellsUptoRow.holds Tryz.pinned (OpenSpec.upto segTellsSpec)

/-- 'viramalaw13.SegRules', WHERE WHAT IT READS IS OF BULK AT MOST 1048576: true; the input reads as it did. -/
def segRulesUptoRow : OpenClaim := { program := "ytaoooocalpkhjaagreatdoor", sum := "5a916dc5045f8d0d8c61cabb1282d496a1caf31804e003a834d2cce7799d3de6", func := "virama/viramalaw13.SegRules", spec := "segRules", inPlace := ["internal/reflectlite.TypeOf", "internal/reflectlite.ValueOf", "(internal/reflectlite.Value).Type", "(internal/reflectlite.Value).IsNil", "(internal/reflectlite.Value).Elem", "(internal/reflectlite.Value).Set"], unfollowed := true, recurses := true, named := ["virama/seg.errMachine", "virama/dfa.errMachine", "virama/dfa.errRule", "virama/seg.errCuts", "virama/seg.errPlace", "virama/nfa.errPattern", "virama/nfa.errStates", "virama/nfa.far", "errors.errorType"], plainKeys := false, apart := false, laid := [("errors.errorType", laid_errors_errorType), ("virama/nfa.errPattern", laid_virama_nfa_errPattern), ("virama/nfa.errStates", laid_virama_nfa_errStates), ("virama/nfa.far", laid_virama_nfa_far), ("virama/dfa.errRule", laid_virama_dfa_errRule), ("virama/dfa.errMachine", laid_virama_dfa_errMachine), ("virama/seg.errMachine", laid_virama_seg_errMachine), ("virama/seg.errCuts", laid_virama_seg_errCuts), ("virama/seg.errPlace", laid_virama_seg_errPlace)], narrowed := true }
def SegRulesUptoSaid : Prop := segRulesUptoRow.holds Tryz.pinned (OpenSpec.upto segRulesSpec)

/-- 'viramalaw13.SegBreaks', WHERE WHAT IT READS IS OF BULK AT MOST 1048576: true; the input reads as it did. -/
def segBreaksUptoRow : OpenClaim := { program := "ytaoooocalpkhjaagreatdoor", sum := "5a916dc5045f8d0d8c61cabb1282d496a1caf31804e003a834d2cce7799d3de6", func := "virama/viramalaw13.SegBreaks", spec := "segBreaks", inPlace := ["internal/reflectlite.TypeOf"], unfollowed := true, recurses := true, named := ["virama/seg.errMachine", "virama/dfa.errMachine", "virama/dfa.errRule", "virama/seg.errCuts", "virama/seg.errPlace"], plainKeys := false, apart := false, laid := [("virama/dfa.errRule", laid_virama_dfa_errRule), ("virama/dfa.errMachine", laid_virama_dfa_errMachine), ("virama/seg.errMachine", laid_virama_seg_errMachine), ("virama/seg.errCuts", laid_virama_seg_errCuts), ("virama/seg.errPlace", laid_virama_seg_errPlace)], narrowed := true }
def SegBreaksUptoSaid : Prop := segBreaksUptoRow.holds Tryz.pinned (OpenSpec.upto segBreaksSpec)

end Rows
end Go.Proofs.YtaoooocalpkhjaaGreatDoor
