/-
  NARROWER THAN 'FOR EVERY INPUT', by the rows' own cells (each row's printed sentence says how): ScalarTexts: laid · MendMakes: laid · MendRights: laid · MendSteps: laid · MendParts: laid · MendCounts: laid · MendJoins: laid · MendWalks: laid.
  DERIVED. THE GIVEN ROWS OF THIS SEAT. 8 by the template 'for every input the law returns true; each argument reads behind the call as it read before'; 0 by the template 'total and deterministic' (their statements: YtcdgmamlmapbcaaDoorTotals.lean).
  GIVEN WITH THE SEED: the statements are not yours to turn. If you find one false, say at which input.
  Laid BY PROGRAM, IN A SANDBOX (cutbox-rows.mjs): the forced cells as the released guide's own fill.sh prints them over the translation 1d6e387e1b1204ba… (all of the seat's roots in one cut). By AI agents, Wed Nov 11 2026. No macro, syntax, notation, axiom, sorry.
-/
import Derived.Test.YtcdgmamlmapbcaaDoorChecked
import GoSem.Claim
import GoSem.ClaimJoined
import GoSem.ClaimMapViews
import Derived.JoinedTies
import Derived.KernelRfl
namespace Go.Proofs.YtcdgmamlmapbcaaDoor
/- THE CELL 'sum', in the pinned program and in every row, IS THE sha256 OF THE DUMP (.gsa) THAT YtcdgmamlmapbcaaDoorProg.lean LOADS. Nothing in Lean hashes anything: it is a label: what it is worth is what the hold of that sum in a sandbox is worth. -/
noncomputable def Tryd.pinned : Pinned := { name := "ytcdgmamlmapbcaadoor", sum := "1d6e387e1b1204ba6707e69e1537837de6fce7fb8aaee1c194f4afb1eff63f45", checked := Tryd.checked }
namespace Rows
def none {H : Type} : Left H := { results := [], args := [] }

/- WHAT THE LISTED PACKAGE-LEVEL VARIABLES READ AS WHEN THE CALL BEGINS. Each datum BY PROGRAM (the guide's laid-datum.mjs) off the statement by which the dump's own 'gosem.cut.vars' lays the variable. In a bare row this is a premise. The card (YtcdgmamlmapbcaaDoorCards.lean) ties it to the program's text. -/
def laid_virama_scalar_errScalar {H : Type} : DataW H := .iface "*errors.errorString" (.ptr (.agg [.lit (.string [115, 99, 97, 108, 97, 114, 58, 32, 97, 32, 110, 117, 109, 98, 101, 114, 32, 116, 104, 97, 116, 32, 105, 115, 32, 110, 111, 32, 115, 99, 97, 108, 97, 114])]))
def laid_virama_scalar_errUtf {H : Type} : DataW H := .iface "*errors.errorString" (.ptr (.agg [.lit (.string [115, 99, 97, 108, 97, 114, 58, 32, 98, 121, 116, 101, 115, 32, 116, 104, 97, 116, 32, 97, 114, 101, 32, 110, 111, 32, 115, 99, 97, 108, 97, 114, 39, 115])]))
def laid_virama_mend_errPlace {H : Type} : DataW H := .iface "*errors.errorString" (.ptr (.agg [.lit (.string [109, 101, 110, 100, 58, 32, 97, 32, 112, 108, 97, 99, 101, 32, 119, 104, 101, 114, 101, 32, 110, 111, 32, 117, 110, 105, 116, 32, 98, 101, 103, 105, 110, 115, 44, 32, 111, 114, 32, 101, 110, 100, 115])]))

/-- 'viramalaw01.ScalarTexts': WHATEVER THE INPUT: true; the input reads as it did. -/
def scalarTextsSpec : ChangeSpec := { name := "scalarTexts", fn := fun _ => fun
  | [d1, d2] => { results := [.lit (.bool true)], args := [d1, d2] }
  | _ => none }
def scalarTextsRow : OpenClaim := { program := "ytcdgmamlmapbcaadoor", sum := "1d6e387e1b1204ba6707e69e1537837de6fce7fb8aaee1c194f4afb1eff63f45", func := "virama/viramalaw01.ScalarTexts", spec := "scalarTexts", inPlace := ["internal/reflectlite.TypeOf"], unfollowed := true, recurses := true, named := ["virama/scalar.errScalar", "virama/scalar.errUtf"], apart := false, laid := [("virama/scalar.errScalar", laid_virama_scalar_errScalar), ("virama/scalar.errUtf", laid_virama_scalar_errUtf)] }
def ScalarTextsSaid : Prop := scalarTextsRow.holds Tryd.pinned (OpenSpec.ofChange scalarTextsSpec)

/-- ITS FALSE NEIGHBOUR: 'it returns false'. Refute it at one input. -/
def scalarTextsWrong : ChangeSpec := { name := "scalarTexts", fn := fun _ => fun
  | [d1, d2] => { results := [.lit (.bool false)], args := [d1, d2] }
  | _ => none }
def ScalarTextsWrongFalsely : Prop := scalarTextsRow.holds Tryd.pinned (OpenSpec.ofChange scalarTextsWrong)

/-- 'viramalaw02.MendMakes': WHATEVER THE INPUT: true; the input reads as it did. -/
def mendMakesSpec : ChangeSpec := { name := "mendMakes", fn := fun _ => fun
  | [d1, d2] => { results := [.lit (.bool true)], args := [d1, d2] }
  | _ => none }
def mendMakesRow : OpenClaim := { program := "ytcdgmamlmapbcaadoor", sum := "1d6e387e1b1204ba6707e69e1537837de6fce7fb8aaee1c194f4afb1eff63f45", func := "virama/viramalaw02.MendMakes", spec := "mendMakes", inPlace := ["internal/reflectlite.TypeOf"], unfollowed := true, recurses := true, named := ["virama/scalar.errUtf", "virama/mend.errPlace", "virama/scalar.errScalar"], apart := false, laid := [("virama/scalar.errScalar", laid_virama_scalar_errScalar), ("virama/scalar.errUtf", laid_virama_scalar_errUtf), ("virama/mend.errPlace", laid_virama_mend_errPlace)] }
def MendMakesSaid : Prop := mendMakesRow.holds Tryd.pinned (OpenSpec.ofChange mendMakesSpec)

/-- ITS FALSE NEIGHBOUR: 'it returns false'. Refute it at one input. -/
def mendMakesWrong : ChangeSpec := { name := "mendMakes", fn := fun _ => fun
  | [d1, d2] => { results := [.lit (.bool false)], args := [d1, d2] }
  | _ => none }
def MendMakesWrongFalsely : Prop := mendMakesRow.holds Tryd.pinned (OpenSpec.ofChange mendMakesWrong)

/-- 'viramalaw02.MendRights': WHATEVER THE INPUT: true; the input reads as it did. -/
def mendRightsSpec : ChangeSpec := { name := "mendRights", fn := fun _ => fun
  | [d] => { results := [.lit (.bool true)], args := [d] }
  | _ => none }
def mendRightsRow : OpenClaim := { program := "ytcdgmamlmapbcaadoor", sum := "1d6e387e1b1204ba6707e69e1537837de6fce7fb8aaee1c194f4afb1eff63f45", func := "virama/viramalaw02.MendRights", spec := "mendRights", inPlace := ["internal/reflectlite.TypeOf"], unfollowed := true, recurses := true, named := ["virama/scalar.errUtf", "virama/mend.errPlace", "virama/scalar.errScalar"], apart := false, laid := [("virama/scalar.errScalar", laid_virama_scalar_errScalar), ("virama/scalar.errUtf", laid_virama_scalar_errUtf), ("virama/mend.errPlace", laid_virama_mend_errPlace)] }
def MendRightsSaid : Prop := mendRightsRow.holds Tryd.pinned (OpenSpec.ofChange mendRightsSpec)

/-- ITS FALSE NEIGHBOUR: 'it returns false'. Refute it at one input. -/
def mendRightsWrong : ChangeSpec := { name := "mendRights", fn := fun _ => fun
  | [d] => { results := [.lit (.bool false)], args := [d] }
  | _ => none }
def MendRightsWrongFalsely : Prop := mendRightsRow.holds Tryd.pinned (OpenSpec.ofChange mendRightsWrong)

/-- 'viramalaw02.MendSteps': WHATEVER THE INPUT: true; the input reads as it did. -/
def mendStepsSpec : ChangeSpec := { name := "mendSteps", fn := fun _ => fun
  | [d1, d2] => { results := [.lit (.bool true)], args := [d1, d2] }
  | _ => none }
def mendStepsRow : OpenClaim := { program := "ytcdgmamlmapbcaadoor", sum := "1d6e387e1b1204ba6707e69e1537837de6fce7fb8aaee1c194f4afb1eff63f45", func := "virama/viramalaw02.MendSteps", spec := "mendSteps", inPlace := ["internal/reflectlite.TypeOf"], unfollowed := true, recurses := true, named := ["virama/scalar.errUtf", "virama/mend.errPlace", "virama/scalar.errScalar"], apart := false, laid := [("virama/scalar.errScalar", laid_virama_scalar_errScalar), ("virama/scalar.errUtf", laid_virama_scalar_errUtf), ("virama/mend.errPlace", laid_virama_mend_errPlace)] }
def MendStepsSaid : Prop := mendStepsRow.holds Tryd.pinned (OpenSpec.ofChange mendStepsSpec)

/-- ITS FALSE NEIGHBOUR: 'it returns false'. Refute it at one input. -/
def mendStepsWrong : ChangeSpec := { name := "mendSteps", fn := fun _ => fun
  | [d1, d2] => { results := [.lit (.bool false)], args := [d1, d2] }
  | _ => none }
def MendStepsWrongFalsely : Prop := mendStepsRow.holds Tryd.pinned (OpenSpec.ofChange mendStepsWrong)

/-- 'viramalaw02.MendParts': WHATEVER THE INPUT: true; the input reads as it did. -/
def mendPartsSpec : ChangeSpec := { name := "mendParts", fn := fun _ => fun
  | [d1, d2] => { results := [.lit (.bool true)], args := [d1, d2] }
  | _ => none }
def mendPartsRow : OpenClaim := { program := "ytcdgmamlmapbcaadoor", sum := "1d6e387e1b1204ba6707e69e1537837de6fce7fb8aaee1c194f4afb1eff63f45", func := "virama/viramalaw02.MendParts", spec := "mendParts", inPlace := ["internal/reflectlite.TypeOf"], unfollowed := true, recurses := true, named := ["virama/scalar.errUtf", "virama/mend.errPlace", "virama/scalar.errScalar"], apart := false, laid := [("virama/scalar.errScalar", laid_virama_scalar_errScalar), ("virama/scalar.errUtf", laid_virama_scalar_errUtf), ("virama/mend.errPlace", laid_virama_mend_errPlace)] }
def MendPartsSaid : Prop := mendPartsRow.holds Tryd.pinned (OpenSpec.ofChange mendPartsSpec)

/-- ITS FALSE NEIGHBOUR: 'it returns false'. Refute it at one input. -/
def mendPartsWrong : ChangeSpec := { name := "mendParts", fn := fun _ => fun
  | [d1, d2] => { results := [.lit (.bool false)], args := [d1, d2] }
  | _ => none }
def MendPartsWrongFalsely : Prop := mendPartsRow.holds Tryd.pinned (OpenSpec.ofChange mendPartsWrong)

/-- 'viramalaw02.MendCounts': WHATEVER THE INPUT: true; the input reads as it did. -/
def mendCountsSpec : ChangeSpec := { name := "mendCounts", fn := fun _ => fun
  | [d] => { results := [.lit (.bool true)], args := [d] }
  | _ => none }
def mendCountsRow : OpenClaim := { program := "ytcdgmamlmapbcaadoor", sum := "1d6e387e1b1204ba6707e69e1537837de6fce7fb8aaee1c194f4afb1eff63f45", func := "virama/viramalaw02.MendCounts", spec := "mendCounts", inPlace := ["internal/reflectlite.TypeOf"], unfollowed := true, recurses := true, named := ["virama/scalar.errUtf", "virama/mend.errPlace", "virama/scalar.errScalar"], apart := false, laid := [("virama/scalar.errScalar", laid_virama_scalar_errScalar), ("virama/scalar.errUtf", laid_virama_scalar_errUtf), ("virama/mend.errPlace", laid_virama_mend_errPlace)] }
def MendCountsSaid : Prop := mendCountsRow.holds Tryd.pinned (OpenSpec.ofChange mendCountsSpec)

/-- ITS FALSE NEIGHBOUR: 'it returns false'. Refute it at one input. -/
def mendCountsWrong : ChangeSpec := { name := "mendCounts", fn := fun _ => fun
  | [d] => { results := [.lit (.bool false)], args := [d] }
  | _ => none }
def MendCountsWrongFalsely : Prop := mendCountsRow.holds Tryd.pinned (OpenSpec.ofChange mendCountsWrong)

/-- 'viramalaw02.MendJoins': WHATEVER THE INPUT: true; the input reads as it did. -/
def mendJoinsSpec : ChangeSpec := { name := "mendJoins", fn := fun _ => fun
  | [d1, d2] => { results := [.lit (.bool true)], args := [d1, d2] }
  | _ => none }
def mendJoinsRow : OpenClaim := { program := "ytcdgmamlmapbcaadoor", sum := "1d6e387e1b1204ba6707e69e1537837de6fce7fb8aaee1c194f4afb1eff63f45", func := "virama/viramalaw02.MendJoins", spec := "mendJoins", inPlace := ["internal/reflectlite.TypeOf"], unfollowed := true, recurses := true, named := ["virama/scalar.errUtf", "virama/mend.errPlace", "virama/scalar.errScalar"], apart := false, laid := [("virama/scalar.errScalar", laid_virama_scalar_errScalar), ("virama/scalar.errUtf", laid_virama_scalar_errUtf), ("virama/mend.errPlace", laid_virama_mend_errPlace)] }
def MendJoinsSaid : Prop := mendJoinsRow.holds Tryd.pinned (OpenSpec.ofChange mendJoinsSpec)

/-- ITS FALSE NEIGHBOUR: 'it returns false'. Refute it at one input. -/
def mendJoinsWrong : ChangeSpec := { name := "mendJoins", fn := fun _ => fun
  | [d1, d2] => { results := [.lit (.bool false)], args := [d1, d2] }
  | _ => none }
def MendJoinsWrongFalsely : Prop := mendJoinsRow.holds Tryd.pinned (OpenSpec.ofChange mendJoinsWrong)

/-- 'viramalaw02.MendWalks': WHATEVER THE INPUT: true; the input reads as it did. -/
def mendWalksSpec : ChangeSpec := { name := "mendWalks", fn := fun _ => fun
  | [d] => { results := [.lit (.bool true)], args := [d] }
  | _ => none }
def mendWalksRow : OpenClaim := { program := "ytcdgmamlmapbcaadoor", sum := "1d6e387e1b1204ba6707e69e1537837de6fce7fb8aaee1c194f4afb1eff63f45", func := "virama/viramalaw02.MendWalks", spec := "mendWalks", inPlace := ["internal/reflectlite.TypeOf"], unfollowed := true, recurses := true, named := ["virama/scalar.errUtf", "virama/mend.errPlace", "virama/scalar.errScalar"], apart := false, laid := [("virama/scalar.errScalar", laid_virama_scalar_errScalar), ("virama/scalar.errUtf", laid_virama_scalar_errUtf), ("virama/mend.errPlace", laid_virama_mend_errPlace)] }
def MendWalksSaid : Prop := mendWalksRow.holds Tryd.pinned (OpenSpec.ofChange mendWalksSpec)

/-- ITS FALSE NEIGHBOUR: 'it returns false'. Refute it at one input. -/
def mendWalksWrong : ChangeSpec := { name := "mendWalks", fn := fun _ => fun
  | [d] => { results := [.lit (.bool false)], args := [d] }
  | _ => none }
def MendWalksWrongFalsely : Prop := mendWalksRow.holds Tryd.pinned (OpenSpec.ofChange mendWalksWrong)

/- THE SECOND FORM. 'bulk': how many values and letters a reading holds, each counted each time it is reached (what is shared counts as often as it is met; a slice's spare places count too). A statement '..UptoSaid' is the law's where the arguments, and the package variables that the reading takes, are together of bulk at most 1048576: NARROWER than '..Said'. Prove '..Said' where nothing that the law and all that it calls make is longer than what came in: it says more and counts as full. Else prove '..UptoSaid'. A law counts once. -/
mutual
def uptoBulk {H : Type} : DataW H → Nat
  | .lit (.string bytes) => bytes.length + 1
  | .lit _ => 1
  | .nil => 1
  | .ptr d => uptoBulk d + 1
  | .slice elems spare => uptoBulkAll elems + uptoBulkAll spare + 1
  | .agg parts => uptoBulkAll parts + 1
  | .iface _ d => uptoBulk d + 1
  | .map entries => uptoBulkEntries entries + 1
  | .held _ => 1
def uptoBulkAll {H : Type} : List (DataW H) → Nat
  | [] => 0
  | d :: r => uptoBulk d + uptoBulkAll r
def uptoBulkEntries {H : Type} : List (Lit × DataW H) → Nat
  | [] => 0
  | x :: r => uptoBulkEntry x + uptoBulkEntries r
def uptoBulkEntry {H : Type} : Lit × DataW H → Nat
  | (.string bytes, d) => bytes.length + uptoBulk d + 1
  | (_, d) => uptoBulk d + 1
 end
def uptoSmall : (H : Type) → List (DataW H) → Bool := fun _ ds => decide (uptoBulkAll ds ≤ 1048576)
def OpenSpec.upto (s : _root_.Go.ChangeSpec) : _root_.Go.OpenSpec := { _root_.Go.OpenSpec.ofChange s with cond := some uptoSmall }

/-- 'viramalaw01.ScalarTexts', WHERE WHAT IT READS IS OF BULK AT MOST 1048576: true; the input reads as it did. -/
def scalarTextsUptoRow : OpenClaim := { program := "ytcdgmamlmapbcaadoor", sum := "1d6e387e1b1204ba6707e69e1537837de6fce7fb8aaee1c194f4afb1eff63f45", func := "virama/viramalaw01.ScalarTexts", spec := "scalarTexts", inPlace := ["internal/reflectlite.TypeOf"], unfollowed := true, recurses := true, named := ["virama/scalar.errScalar", "virama/scalar.errUtf"], apart := false, laid := [("virama/scalar.errScalar", laid_virama_scalar_errScalar), ("virama/scalar.errUtf", laid_virama_scalar_errUtf)], narrowed := true }
def ScalarTextsUptoSaid : Prop := scalarTextsUptoRow.holds Tryd.pinned (OpenSpec.upto scalarTextsSpec)

/-- 'viramalaw02.MendMakes', WHERE WHAT IT READS IS OF BULK AT MOST 1048576: true; the input reads as it did. -/
def mendMakesUptoRow : OpenClaim := { program := "ytcdgmamlmapbcaadoor", sum := "1d6e387e1b1204ba6707e69e1537837de6fce7fb8aaee1c194f4afb1eff63f45", func := "virama/viramalaw02.MendMakes", spec := "mendMakes", inPlace := ["internal/reflectlite.TypeOf"], unfollowed := true, recurses := true, named := ["virama/scalar.errUtf", "virama/mend.errPlace", "virama/scalar.errScalar"], apart := false, laid := [("virama/scalar.errScalar", laid_virama_scalar_errScalar), ("virama/scalar.errUtf", laid_virama_scalar_errUtf), ("virama/mend.errPlace", laid_virama_mend_errPlace)], narrowed := true }
def MendMakesUptoSaid : Prop := mendMakesUptoRow.holds Tryd.pinned (OpenSpec.upto mendMakesSpec)

/-- 'viramalaw02.MendRights', WHERE WHAT IT READS IS OF BULK AT MOST 1048576: true; the input reads as it did. -/
def mendRightsUptoRow : OpenClaim := { program := "ytcdgmamlmapbcaadoor", sum := "1d6e387e1b1204ba6707e69e1537837de6fce7fb8aaee1c194f4afb1eff63f45", func := "virama/viramalaw02.MendRights", spec := "mendRights", inPlace := ["internal/reflectlite.TypeOf"], unfollowed := true, recurses := true, named := ["virama/scalar.errUtf", "virama/mend.errPlace", "virama/scalar.errScalar"], apart := false, laid := [("virama/scalar.errScalar", laid_virama_scalar_errScalar), ("virama/scalar.errUtf", laid_virama_scalar_errUtf), ("virama/mend.errPlace", laid_virama_mend_errPlace)], narrowed := true }
def MendRightsUptoSaid : Prop := mendRightsUptoRow.holds Tryd.pinned (OpenSpec.upto mendRightsSpec)

/-- 'viramalaw02.MendSteps', WHERE WHAT IT READS IS OF BULK AT MOST 1048576: true; the input reads as it did. -/
def mendStepsUptoRow : OpenClaim := { program := "ytcdgmamlmapbcaadoor", sum := "1d6e387e1b1204ba6707e69e1537837de6fce7fb8aaee1c194f4afb1eff63f45", func := "virama/viramalaw02.MendSteps", spec := "mendSteps", inPlace := ["internal/reflectlite.TypeOf"], unfollowed := true, recurses := true, named := ["virama/scalar.errUtf", "virama/mend.errPlace", "virama/scalar.errScalar"], apart := false, laid := [("virama/scalar.errScalar", laid_virama_scalar_errScalar), ("virama/scalar.errUtf", laid_virama_scalar_errUtf), ("virama/mend.errPlace", laid_virama_mend_errPlace)], narrowed := true }
def MendStepsUptoSaid : Prop := mendStepsUptoRow.holds Tryd.pinned (OpenSpec.upto mendStepsSpec)

/-- 'viramalaw02.MendParts', WHERE WHAT IT READS IS OF BULK AT MOST 1048576: true; the input reads as it did. -/
def mendPartsUptoRow : OpenClaim := { program := "ytcdgmamlmapbcaadoor", sum := "1d6e387e1b1204ba6707e69e1537837de6fce7fb8aaee1c194f4afb1eff63f45", func := "virama/viramalaw02.MendParts", spec := "mendParts", inPlace := ["internal/reflectlite.TypeOf"], unfollowed := true, recurses := true, named := ["virama/scalar.errUtf", "virama/mend.errPlace", "virama/scalar.errScalar"], apart := false, laid := [("virama/scalar.errScalar", laid_virama_scalar_errScalar), ("virama/scalar.errUtf", laid_virama_scalar_errUtf), ("virama/mend.errPlace", laid_virama_mend_errPlace)], narrowed := true }
def MendPartsUptoSaid : Prop := mendPartsUptoRow.holds Tryd.pinned (OpenSpec.upto mendPartsSpec)

/-- 'viramalaw02.MendCounts', WHERE WHAT IT READS IS OF BULK AT MOST 1048576: true; the input reads as it did. -/
def mendCountsUptoRow : OpenClaim := { program := "ytcdgmamlmapbcaadoor", sum := "1d6e387e1b1204ba6707e69e1537837de6fce7fb8aaee1c194f4afb1eff63f45", func := "virama/viramalaw02.MendCounts", spec := "mendCounts", inPlace := ["internal/reflectlite.TypeOf"], unfollowed := true, recurses := true, named := ["virama/scalar.errUtf", "virama/mend.errPlace", "virama/scalar.errScalar"], apart := false, laid := [("virama/scalar.errScalar", laid_virama_scalar_errScalar), ("virama/scalar.errUtf", laid_virama_scalar_errUtf), ("virama/mend.errPlace", laid_virama_mend_errPlace)], narrowed := true }
def MendCountsUptoSaid : Prop := mendCountsUptoRow.holds Tryd.pinned (OpenSpec.upto mendCountsSpec)

/-- 'viramalaw02.MendJoins', WHERE WHAT IT READS IS OF BULK AT MOST 1048576: true; the input reads as it did. -/
def mendJoinsUptoRow : OpenClaim := { program := "ytcdgmamlmapbcaadoor", sum := "1d6e387e1b1204ba6707e69e1537837de6fce7fb8aaee1c194f4afb1eff63f45", func := "virama/viramalaw02.MendJoins", spec := "mendJoins", inPlace := ["internal/reflectlite.TypeOf"], unfollowed := true, recurses := true, named := ["virama/scalar.errUtf", "virama/mend.errPlace", "virama/scalar.errScalar"], apart := false, laid := [("virama/scalar.errScalar", laid_virama_scalar_errScalar), ("virama/scalar.errUtf", laid_virama_scalar_errUtf), ("virama/mend.errPlace", laid_virama_mend_errPlace)], narrowed := true }
def MendJoinsUptoSaid : Prop := mendJoinsUptoRow.holds Tryd.pinned (OpenSpec.upto mendJoinsSpec)

/-- 'viramalaw02.MendWalks', WHERE WHAT IT READS IS OF BULK AT MOST 1048576: true; the input reads as it did. -/
def mendWalksUptoRow : OpenClaim := { program := "ytcdgmamlmapbcaadoor", sum := "1d6e387e1b1204ba6707e69e1537837de6fce7fb8aaee1c194f4afb1eff63f45", func := "virama/viramalaw02.MendWalks", spec := "mendWalks", inPlace := ["internal/reflectlite.TypeOf"], unfollowed := true, recurses := true, named := ["virama/scalar.errUtf", "virama/mend.errPlace", "virama/scalar.errScalar"], apart := false, laid := [("virama/scalar.errScalar", laid_virama_scalar_errScalar), ("virama/scalar.errUtf", laid_virama_scalar_errUtf), ("virama/mend.errPlace", laid_virama_mend_errPlace)], narrowed := true }
def MendWalksUptoSaid : Prop := mendWalksUptoRow.holds Tryd.pinned (OpenSpec.upto mendWalksSpec)

end Rows
end Go.Proofs.YtcdgmamlmapbcaaDoor
