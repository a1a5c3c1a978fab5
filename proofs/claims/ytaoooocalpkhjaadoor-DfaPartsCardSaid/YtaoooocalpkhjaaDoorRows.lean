/-
  NARROWER THAN 'FOR EVERY INPUT', by the rows' own cells (each row's printed sentence says how): DfaParts: laid · DfaLefts: laid · DfaTwice: laid · SegSteps: laid · SegAll: laid · SegShifts: laid.
  DERIVED. THE GIVEN ROWS OF THIS SEAT. 6 by the template 'for every input the law returns true; each argument reads behind the call as it read before'; 0 by the template 'total and deterministic' (their statements: YtaoooocalpkhjaaDoorTotals.lean).
  GIVEN WITH THE SEED: the statements are not yours to turn. If you find one false, say at which input.
  Laid BY PROGRAM, IN A SANDBOX (cutbox-rows.mjs): the forced cells as the released guide's own fill.sh prints them over the translation 488ca50c05ead0ee… (all of the seat's roots in one cut). By AI agents, Wed Nov 11 2026. No macro, syntax, notation, axiom, sorry.
-/
import Derived.Test.YtaoooocalpkhjaaDoorChecked
import GoSem.Claim
import GoSem.ClaimJoined
import GoSem.ClaimMapViews
import Derived.JoinedTies
import Derived.KernelRfl
namespace Go.Proofs.YtaoooocalpkhjaaDoor
/- THE CELL 'sum', in the pinned program and in every row, IS THE sha256 OF THE DUMP (.gsa) THAT YtaoooocalpkhjaaDoorProg.lean LOADS. Nothing in Lean hashes anything: it is a label: what it is worth is what the hold of that sum in a sandbox is worth. -/
noncomputable def Tryd.pinned : Pinned := { name := "ytaoooocalpkhjaadoor", sum := "488ca50c05ead0ee336a4edf397acdc4ecdf3e788977ecefc5b0e142415c2042", checked := Tryd.checked }
namespace Rows
def none {H : Type} : Left H := { results := [], args := [] }

/- WHAT THE LISTED PACKAGE-LEVEL VARIABLES READ AS WHEN THE CALL BEGINS. Each datum BY PROGRAM (the guide's laid-datum.mjs) off the statement by which the dump's own 'gosem.cut.vars' lays the variable. In a bare row this is a premise. The card (YtaoooocalpkhjaaDoorCards.lean) ties it to the program's text. -/
def laid_virama_nfa_errPattern {H : Type} : DataW H := .iface "*errors.errorString" (.ptr (.agg [.lit (.string [110, 102, 97, 58, 32, 97, 32, 112, 97, 116, 116, 101, 114, 110, 32, 116, 104, 97, 116, 32, 105, 115, 32, 110, 111, 116, 32, 114, 105, 103, 104, 116])]))
def laid_virama_nfa_errStates {H : Type} : DataW H := .iface "*errors.errorString" (.ptr (.agg [.lit (.string [110, 102, 97, 58, 32, 115, 116, 97, 116, 101, 115, 32, 116, 104, 97, 116, 32, 116, 104, 101, 32, 112, 97, 116, 116, 101, 114, 110, 32, 104, 97, 115, 32, 110, 111, 116])]))
def laid_virama_nfa_far {H : Type} : DataW H := .agg [.lit (.int .i64 2), .lit (.int .i64 0), .lit (.int .i64 1)]
def laid_virama_dfa_errRule {H : Type} : DataW H := .iface "*errors.errorString" (.ptr (.agg [.lit (.string [100, 102, 97, 58, 32, 114, 117, 108, 101, 115, 32, 116, 104, 97, 116, 32, 97, 114, 101, 32, 110, 111, 116, 32, 114, 105, 103, 104, 116])]))
def laid_virama_dfa_errMachine {H : Type} : DataW H := .iface "*errors.errorString" (.ptr (.agg [.lit (.string [100, 102, 97, 58, 32, 97, 32, 109, 97, 99, 104, 105, 110, 101, 32, 116, 104, 97, 116, 32, 105, 115, 32, 110, 111, 116, 32, 114, 105, 103, 104, 116, 44, 32, 111, 114, 32, 119, 111, 117, 108, 100, 32, 104, 97, 118, 101, 32, 116, 111, 111, 32, 109, 97, 110, 121, 32, 115, 116, 97, 116, 101, 115])]))
def laid_virama_seg_errMachine {H : Type} : DataW H := .iface "*errors.errorString" (.ptr (.agg [.lit (.string [115, 101, 103, 58, 32, 114, 117, 108, 101, 115, 44, 32, 111, 114, 32, 116, 104, 101, 105, 114, 32, 109, 97, 99, 104, 105, 110, 101, 44, 32, 116, 104, 97, 116, 32, 97, 114, 101, 32, 110, 111, 116, 32, 114, 105, 103, 104, 116])]))
def laid_virama_seg_errCuts {H : Type} : DataW H := .iface "*errors.errorString" (.ptr (.agg [.lit (.string [115, 101, 103, 58, 32, 99, 117, 116, 115, 32, 116, 104, 97, 116, 32, 97, 114, 101, 32, 110, 111, 116, 32, 114, 105, 103, 104, 116])]))
def laid_virama_seg_errPlace {H : Type} : DataW H := .iface "*errors.errorString" (.ptr (.agg [.lit (.string [115, 101, 103, 58, 32, 97, 32, 112, 108, 97, 99, 101, 32, 116, 104, 97, 116, 32, 108, 105, 101, 115, 32, 105, 110, 32, 110, 111, 32, 112, 97, 114, 116])]))

/-- 'viramalaw12.DfaParts': WHATEVER THE INPUT: true; the input reads as it did. -/
def dfaPartsSpec : ChangeSpec := { name := "dfaParts", fn := fun _ => fun
  | [d1, d2, d3, d4] => { results := [.lit (.bool true)], args := [d1, d2, d3, d4] }
  | _ => none }
def dfaPartsRow : OpenClaim := { program := "ytaoooocalpkhjaadoor", sum := "488ca50c05ead0ee336a4edf397acdc4ecdf3e788977ecefc5b0e142415c2042", func := "virama/viramalaw12.DfaParts", spec := "dfaParts", inPlace := ["internal/reflectlite.TypeOf"], unfollowed := true, recurses := true, named := ["virama/dfa.errRule", "virama/dfa.errMachine", "virama/nfa.errPattern", "virama/nfa.errStates", "virama/nfa.far"], plainKeys := false, apart := false, laid := [("virama/nfa.errPattern", laid_virama_nfa_errPattern), ("virama/nfa.errStates", laid_virama_nfa_errStates), ("virama/nfa.far", laid_virama_nfa_far), ("virama/dfa.errRule", laid_virama_dfa_errRule), ("virama/dfa.errMachine", laid_virama_dfa_errMachine)] }
def DfaPartsSaid : Prop := dfaPartsRow.holds Tryd.pinned (OpenSpec.ofChange dfaPartsSpec)

/-- ITS FALSE NEIGHBOUR: 'it returns false'. Refute it at one input. -/
def dfaPartsWrong : ChangeSpec := { name := "dfaParts", fn := fun _ => fun
  | [d1, d2, d3, d4] => { results := [.lit (.bool false)], args := [d1, d2, d3, d4] }
  | _ => none }
def DfaPartsWrongFalsely : Prop := dfaPartsRow.holds Tryd.pinned (OpenSpec.ofChange dfaPartsWrong)

/-- 'viramalaw12.DfaLefts': WHATEVER THE INPUT: true; the input reads as it did. -/
def dfaLeftsSpec : ChangeSpec := { name := "dfaLefts", fn := fun _ => fun
  | [d1, d2] => { results := [.lit (.bool true)], args := [d1, d2] }
  | _ => none }
def dfaLeftsRow : OpenClaim := { program := "ytaoooocalpkhjaadoor", sum := "488ca50c05ead0ee336a4edf397acdc4ecdf3e788977ecefc5b0e142415c2042", func := "virama/viramalaw12.DfaLefts", spec := "dfaLefts", inPlace := ["internal/reflectlite.TypeOf"], unfollowed := true, recurses := true, named := ["virama/dfa.errRule", "virama/dfa.errMachine", "virama/nfa.errPattern", "virama/nfa.errStates", "virama/nfa.far"], plainKeys := false, apart := false, laid := [("virama/nfa.errPattern", laid_virama_nfa_errPattern), ("virama/nfa.errStates", laid_virama_nfa_errStates), ("virama/nfa.far", laid_virama_nfa_far), ("virama/dfa.errRule", laid_virama_dfa_errRule), ("virama/dfa.errMachine", laid_virama_dfa_errMachine)] }
def DfaLeftsSaid : Prop := dfaLeftsRow.holds Tryd.pinned (OpenSpec.ofChange dfaLeftsSpec)

/-- ITS FALSE NEIGHBOUR: 'it returns false'. Refute it at one input. -/
def dfaLeftsWrong : ChangeSpec := { name := "dfaLefts", fn := fun _ => fun
  | [d1, d2] => { results := [.lit (.bool false)], args := [d1, d2] }
  | _ => none }
def DfaLeftsWrongFalsely : Prop := dfaLeftsRow.holds Tryd.pinned (OpenSpec.ofChange dfaLeftsWrong)

/-- 'viramalaw12.DfaTwice': WHATEVER THE INPUT: true; the input reads as it did. -/
def dfaTwiceSpec : ChangeSpec := { name := "dfaTwice", fn := fun _ => fun
  | [d1, d2] => { results := [.lit (.bool true)], args := [d1, d2] }
  | _ => none }
def dfaTwiceRow : OpenClaim := { program := "ytaoooocalpkhjaadoor", sum := "488ca50c05ead0ee336a4edf397acdc4ecdf3e788977ecefc5b0e142415c2042", func := "virama/viramalaw12.DfaTwice", spec := "dfaTwice", inPlace := ["internal/reflectlite.TypeOf"], unfollowed := true, recurses := true, named := ["virama/dfa.errRule", "virama/dfa.errMachine", "virama/nfa.errPattern", "virama/nfa.errStates", "virama/nfa.far"], plainKeys := false, apart := false, laid := [("virama/nfa.errPattern", laid_virama_nfa_errPattern), ("virama/nfa.errStates", laid_virama_nfa_errStates), ("virama/nfa.far", laid_virama_nfa_far), ("virama/dfa.errRule", laid_virama_dfa_errRule), ("virama/dfa.errMachine", laid_virama_dfa_errMachine)] }
def DfaTwiceSaid : Prop := dfaTwiceRow.holds Tryd.pinned (OpenSpec.ofChange dfaTwiceSpec)

/-- ITS FALSE NEIGHBOUR: 'it returns false'. Refute it at one input. -/
def dfaTwiceWrong : ChangeSpec := { name := "dfaTwice", fn := fun _ => fun
  | [d1, d2] => { results := [.lit (.bool false)], args := [d1, d2] }
  | _ => none }
def DfaTwiceWrongFalsely : Prop := dfaTwiceRow.holds Tryd.pinned (OpenSpec.ofChange dfaTwiceWrong)

/-- 'viramalaw13.SegSteps': WHATEVER THE INPUT: true; the input reads as it did. -/
def segStepsSpec : ChangeSpec := { name := "segSteps", fn := fun _ => fun
  | [d1, d2] => { results := [.lit (.bool true)], args := [d1, d2] }
  | _ => none }
def segStepsRow : OpenClaim := { program := "ytaoooocalpkhjaadoor", sum := "488ca50c05ead0ee336a4edf397acdc4ecdf3e788977ecefc5b0e142415c2042", func := "virama/viramalaw13.SegSteps", spec := "segSteps", inPlace := ["internal/reflectlite.TypeOf"], unfollowed := true, recurses := true, named := ["virama/seg.errMachine", "virama/dfa.errMachine", "virama/dfa.errRule", "virama/seg.errCuts", "virama/seg.errPlace"], plainKeys := false, apart := false, laid := [("virama/dfa.errRule", laid_virama_dfa_errRule), ("virama/dfa.errMachine", laid_virama_dfa_errMachine), ("virama/seg.errMachine", laid_virama_seg_errMachine), ("virama/seg.errCuts", laid_virama_seg_errCuts), ("virama/seg.errPlace", laid_virama_seg_errPlace)] }
def SegStepsSaid : Prop := segStepsRow.holds Tryd.pinned (OpenSpec.ofChange segStepsSpec)

/-- ITS FALSE NEIGHBOUR: 'it returns false'. Refute it at one input. -/
def segStepsWrong : ChangeSpec := { name := "segSteps", fn := fun _ => fun
  | [d1, d2] => { results := [.lit (.bool false)], args := [d1, d2] }
  | _ => none }
def SegStepsWrongFalsely : Prop := segStepsRow.holds Tryd.pinned (OpenSpec.ofChange segStepsWrong)

/-- 'viramalaw13.SegAll': WHATEVER THE INPUT: true; the input reads as it did. -/
def segAllSpec : ChangeSpec := { name := "segAll", fn := fun _ => fun
  | [d1, d2] => { results := [.lit (.bool true)], args := [d1, d2] }
  | _ => none }
def segAllRow : OpenClaim := { program := "ytaoooocalpkhjaadoor", sum := "488ca50c05ead0ee336a4edf397acdc4ecdf3e788977ecefc5b0e142415c2042", func := "virama/viramalaw13.SegAll", spec := "segAll", inPlace := ["internal/reflectlite.TypeOf"], unfollowed := true, recurses := true, named := ["virama/seg.errMachine", "virama/dfa.errMachine", "virama/dfa.errRule", "virama/seg.errCuts", "virama/seg.errPlace"], plainKeys := false, apart := false, laid := [("virama/dfa.errRule", laid_virama_dfa_errRule), ("virama/dfa.errMachine", laid_virama_dfa_errMachine), ("virama/seg.errMachine", laid_virama_seg_errMachine), ("virama/seg.errCuts", laid_virama_seg_errCuts), ("virama/seg.errPlace", laid_virama_seg_errPlace)] }
def SegAllSaid : Prop := segAllRow.holds Tryd.pinned (OpenSpec.ofChange segAllSpec)

/-- ITS FALSE NEIGHBOUR: 'it returns false'. Refute it at one input. -/
def segAllWrong : ChangeSpec := { name := "segAll", fn := fun _ => fun
  | [d1, d2] => { results := [.lit (.bool false)], args := [d1, d2] }
  | _ => none }
def SegAllWrongFalsely : Prop := segAllRow.holds Tryd.pinned (OpenSpec.ofChange segAllWrong)

/-- 'viramalaw13.SegShifts': WHATEVER THE INPUT: true; the input reads as it did. -/
def segShiftsSpec : ChangeSpec := { name := "segShifts", fn := fun _ => fun
  | [d1, d2, d3] => { results := [.lit (.bool true)], args := [d1, d2, d3] }
  | _ => none }
def segShiftsRow : OpenClaim := { program := "ytaoooocalpkhjaadoor", sum := "488ca50c05ead0ee336a4edf397acdc4ecdf3e788977ecefc5b0e142415c2042", func := "virama/viramalaw13.SegShifts", spec := "segShifts", inPlace := ["internal/reflectlite.TypeOf"], unfollowed := true, recurses := true, named := ["virama/seg.errMachine", "virama/dfa.errMachine", "virama/dfa.errRule", "virama/seg.errCuts", "virama/seg.errPlace"], plainKeys := false, apart := false, laid := [("virama/dfa.errRule", laid_virama_dfa_errRule), ("virama/dfa.errMachine", laid_virama_dfa_errMachine), ("virama/seg.errMachine", laid_virama_seg_errMachine), ("virama/seg.errCuts", laid_virama_seg_errCuts), ("virama/seg.errPlace", laid_virama_seg_errPlace)] }
def SegShiftsSaid : Prop := segShiftsRow.holds Tryd.pinned (OpenSpec.ofChange segShiftsSpec)

/-- ITS FALSE NEIGHBOUR: 'it returns false'. Refute it at one input. -/
def segShiftsWrong : ChangeSpec := { name := "segShifts", fn := fun _ => fun
  | [d1, d2, d3] => { results := [.lit (.bool false)], args := [d1, d2, d3] }
  | _ => none }
def SegShiftsWrongFalsely : Prop := segShiftsRow.holds Tryd.pinned (OpenSpec.ofChange segShiftsWrong)

/- THE SECOND FORM. 'bulk': how many values and letters a reading holds, each counted each time it is reached (what is shared counts as often as it is met; a slice's spare places count too). A statement '..UptoSaid' is the law's where the arguments, and the package variables that the reading takes, are together of bulk at most 1048576: NARROWER than '..Said'. Prove '..Said' where nothing that the law and all that it calls make is longer than what came in: it says more and counts as full. Else prove '..UptoSaid'. A law counts once. -/
mutual
def uptoBulk {H : Type} : DataW H → Nat
  | .lit (.string bytes) => bytes.length + 1
  | .lit _ => 1
  | .nil => 1
  | .ptr d => uptoBulk d + 1
  | .slice elems spare => uptoBulkAll elems + uptoBulkAll spare + 1
  | .agg parts => uptoBulkAll parts + 1
  | .iface _ d => uptoBulk d + 1
  | .map entries => uptoBulkEntries entries + 1
  | .held _ => 1
def uptoBulkAll {H : Type} : List (DataW H) → Nat
  | [] => 0
  | d :: r => uptoBulk d + uptoBulkAll r
def uptoBulkEntries {H : Type} : List (Lit × DataW H) → Nat
  | [] => 0
  | x :: r => uptoBulkEntry x + uptoBulkEntries r
def uptoBulkEntry {H : Type} : Lit × DataW H → Nat
  | (.string bytes, d) => bytes.length + uptoBulk d + 1
  | (_, d) => uptoBulk d + 1
 end
def uptoSmall : (H : Type) → List (DataW H) → Bool := fun _ ds => decide (uptoBulkAll ds ≤ 1048576)
def OpenSpec.upto (s : _root_.Go.ChangeSpec) : _root_.Go.OpenSpec := { _root_.Go.OpenSpec.ofChange s with cond := some uptoSmall }

/-- 'viramalaw12.DfaParts', WHERE WHAT IT READS IS OF BULK AT MOST 1048576: true; the input reads as it did. -/
def dfaPartsUptoRow : OpenClaim := { program := "ytaoooocalpkhjaadoor", sum := "488ca50c05ead0ee336a4edf397acdc4ecdf3e788977ecefc5b0e142415c2042", func := "virama/viramalaw12.DfaParts", spec := "dfaParts", inPlace := ["internal/reflectlite.TypeOf"], unfollowed := true, recurses := true, named := ["virama/dfa.errRule", "virama/dfa.errMachine", "virama/nfa.errPattern", "virama/nfa.errStates", "virama/nfa.far"], plainKeys := false, apart := false, laid := [("virama/nfa.errPattern", laid_virama_nfa_errPattern), ("virama/nfa.errStates", laid_virama_nfa_errStates), ("virama/nfa.far", laid_virama_nfa_far), ("virama/dfa.errRule", laid_virama_dfa_errRule), ("virama/dfa.errMachine", laid_virama_dfa_errMachine)], narrowed := true }
def DfaPartsUptoSaid : Prop := dfaPartsUptoRow.holds Tryd.pinned (OpenSpec.upto dfaPartsSpec)

/-- 'viramalaw12.DfaLefts', WHERE WHAT IT READS IS OF BULK AT MOST 1048576: true; the input reads as it did. -/
def dfaLeftsUptoRow : OpenClaim := { program := "ytaoooocalpkhjaadoor", sum := "488ca50c05ead0ee336a4edf397acdc4ecdf3e788977ecefc5b0e142415c2042", func := "virama/viramalaw12.DfaLefts", spec := "dfaLefts", inPlace := ["internal/reflectlite.TypeOf"], unfollowed := true, recurses := true, named := ["virama/dfa.errRule", "virama/dfa.errMachine", "virama/nfa.errPattern", "virama/nfa.errStates", "virama/nfa.far"], plainKeys := false, apart := false, laid := [("virama/nfa.errPattern", laid_virama_nfa_errPattern), ("virama/nfa.errStates", laid_virama_nfa_errStates), ("virama/nfa.far", laid_virama_nfa_far), ("virama/dfa.errRule", laid_virama_dfa_errRule), ("virama/dfa.errMachine", laid_virama_dfa_errMachine)], narrowed := true }
def DfaLeftsUptoSaid : Prop := dfaLeftsUptoRow.holds Tryd.pinned (OpenSpec.upto dfaLeftsSpec)

/-- 'viramalaw12.DfaTwice', WHERE WHAT IT READS IS OF BULK AT MOST 1048576: true; the input reads as it did. -/
def dfaTwiceUptoRow : OpenClaim := { program := "ytaoooocalpkhjaadoor", sum := "488ca50c05ead0ee336a4edf397acdc4ecdf3e788977ecefc5b0e142415c2042", func := "virama/viramalaw12.DfaTwice", spec := "dfaTwice", inPlace := ["internal/reflectlite.TypeOf"], unfollowed := true, recurses := true, named := ["virama/dfa.errRule", "virama/dfa.errMachine", "virama/nfa.errPattern", "virama/nfa.errStates", "virama/nfa.far"], plainKeys := false, apart := false, laid := [("virama/nfa.errPattern", laid_virama_nfa_errPattern), ("virama/nfa.errStates", laid_virama_nfa_errStates), ("virama/nfa.far", laid_virama_nfa_far), ("virama/dfa.errRule", laid_virama_dfa_errRule), ("virama/dfa.errMachine", laid_virama_dfa_errMachine)], narrowed := true }
def DfaTwiceUptoSaid : Prop := dfaTwiceUptoRow.holds Tryd.pinned (OpenSpec.upto dfaTwiceSpec)

/-- 'viramalaw13.SegSteps', WHERE WHAT IT READS IS OF BULK AT MOST 1048576: true; the input reads as it did. -/
def segStepsUptoRow : OpenClaim := { program := "ytaoooocalpkhjaadoor", sum := "488ca50c05ead0ee336a4edf397acdc4ecdf3e788977ecefc5b0e142415c2042", func := "virama/viramalaw13.SegSteps", spec := "segSteps", inPlace := ["internal/reflectlite.TypeOf"], unfollowed := true, recurses := true, named := ["virama/seg.errMachine", "virama/dfa.errMachine", "virama/dfa.errRule", "virama/seg.errCuts", "virama/seg.errPlace"], plainKeys := false, apart := false, laid := [("virama/dfa.errRule", laid_virama_dfa_errRule), ("virama/dfa.errMachine", laid_virama_dfa_errMachine), ("virama/seg.errMachine", laid_virama_seg_errMachine), ("virama/seg.errCuts", laid_virama_seg_errCuts), ("virama/seg.errPlace", laid_virama_seg_errPlace)], narrowed := true }
def SegStepsUptoSaid : Prop := segStepsUptoRow.holds Tryd.pinned (OpenSpec.upto segStepsSpec)

/-- 'viramalaw13.SegAll', WHERE WHAT IT READS IS OF BULK AT MOST 1048576: true; the input reads as it did. -/
def segAllUptoRow : OpenClaim := { program := "ytaoooocalpkhjaadoor", sum := "488ca50c05ead0ee336a4edf397acdc4ecdf3e788977ecefc5b0e142415c2042", func := "virama/viramalaw13.SegAll", spec := "segAll", inPlace := ["internal/reflectlite.TypeOf"], unfollowed := true, recurses := true, named := ["virama/seg.errMachine", "virama/dfa.errMachine", "virama/dfa.errRule", "virama/seg.errCuts", "virama/seg.errPlace"], plainKeys := false, apart := false, laid := [("virama/dfa.errRule", laid_virama_dfa_errRule), ("virama/dfa.errMachine", laid_virama_dfa_errMachine), ("virama/seg.errMachine", laid_virama_seg_errMachine), ("virama/seg.errCuts", laid_virama_seg_errCuts), ("virama/seg.errPlace", laid_virama_seg_errPlace)], narrowed := true }
def SegAllUptoSaid : Prop := segAllUptoRow.holds Tryd.pinned (OpenSpec.upto segAllSpec)

/-- 'viramalaw13.SegShifts', WHERE WHAT IT READS IS OF BULK AT MOST 1048576: true; the input reads as it did. -/
def segShiftsUptoRow : OpenClaim := { program := "ytaoooocalpkhjaadoor", sum := "488ca50c05ead0ee336a4edf397acdc4ecdf3e788977ecefc5b0e142415c2042", func := "virama/viramalaw13.SegShifts", spec := "segShifts", inPlace := ["internal/reflectlite.TypeOf"], unfollowed := true, recurses := true, named := ["virama/seg.errMachine", "virama/dfa.errMachine", "virama/dfa.errRule", "virama/seg.errCuts", "virama/seg.errPlace"], plainKeys := false, apart := false, laid := [("virama/dfa.errRule", laid_virama_dfa_errRule), ("virama/dfa.errMachine", laid_virama_dfa_errMachine), ("virama/seg.errMachine", laid_virama_seg_errMachine), ("virama/seg.errCuts", laid_virama_seg_errCuts), ("virama/seg.errPlace", laid_virama_seg_errPlace)], narrowed := true }
def SegShiftsUptoSaid : Prop := segShiftsUptoRow.holds Tryd.pinned (OpenSpec.upto segShiftsSpec)

end Rows
end Go.Proofs.YtaoooocalpkhjaaDoor
