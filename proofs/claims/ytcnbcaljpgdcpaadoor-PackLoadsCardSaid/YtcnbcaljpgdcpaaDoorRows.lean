/-
  NARROWER THAN 'FOR EVERY INPUT', by the rows' own cells (each row's printed sentence says how): PackMakes: laid · PackLoads: laid · PackBack: laid · PackWhole: laid · PackRuns: laid · PackByte: laid · PackSums: laid.
  DERIVED. THE GIVEN ROWS OF THIS SEAT. 7 by the template 'for every input the law returns true; each argument reads behind the call as it read before'; 0 by the template 'total and deterministic' (their statements: YtcnbcaljpgdcpaaDoorTotals.lean).
  GIVEN WITH THE SEED: the statements are not yours to turn. If you find one false, say at which input.
  Laid BY PROGRAM, IN A SANDBOX (cutbox-rows.mjs): the forced cells as the released guide's own fill.sh prints them over the translation a84dd8338a5b1230… (all of the seat's roots in one cut). By AI agents, Wed Nov 11 2026. No macro, syntax, notation, axiom, sorry.
-/
import Derived.Test.YtcnbcaljpgdcpaaDoorChecked
import GoSem.Claim
import GoSem.ClaimJoined
import GoSem.ClaimMapViews
import Derived.JoinedTies
import Derived.KernelRfl
namespace Go.Proofs.YtcnbcaljpgdcpaaDoor
/- THE CELL 'sum', in the pinned program and in every row, IS THE sha256 OF THE DUMP (.gsa) THAT YtcnbcaljpgdcpaaDoorProg.lean LOADS. Nothing in Lean hashes anything: it is a label: what it is worth is what the hold of that sum in a sandbox is worth. -/
noncomputable def Tryd.pinned : Pinned := { name := "ytcnbcaljpgdcpaadoor", sum := "a84dd8338a5b12305e2d3733fc860aac7f9e6ffa4ebcc529e8a98c40f8911e89", checked := Tryd.checked }
namespace Rows
def none {H : Type} : Left H := { results := [], args := [] }

/- WHAT THE LISTED PACKAGE-LEVEL VARIABLES READ AS WHEN THE CALL BEGINS. Each datum BY PROGRAM (the guide's laid-datum.mjs) off the statement by which the dump's own 'gosem.cut.vars' lays the variable. In a bare row this is a premise. The card (YtcnbcaljpgdcpaaDoorCards.lean) ties it to the program's text. -/
def laid_errors_errorType {H : Type} : DataW H := .iface "internal/reflectlite.rtype" (.agg [.ptr (.lit (.string [101, 114, 114, 111, 114]))])
def laid_virama_trie_errRange {H : Type} : DataW H := .iface "*errors.errorString" (.ptr (.agg [.lit (.string [116, 114, 105, 101, 58, 32, 114, 97, 110, 103, 101, 115, 32, 116, 104, 97, 116, 32, 97, 114, 101, 32, 110, 111, 32, 109, 97, 112, 44, 32, 111, 114, 32, 116, 111, 111, 32, 109, 97, 110, 121, 32, 102, 111, 114, 32, 111, 110, 101])]))
def laid_virama_trie_errTrie {H : Type} : DataW H := .iface "*errors.errorString" (.ptr (.agg [.lit (.string [116, 114, 105, 101, 58, 32, 97, 32, 116, 114, 105, 101, 32, 116, 104, 97, 116, 32, 105, 115, 32, 110, 111, 116, 32, 114, 105, 103, 104, 116])]))

/-- 'viramalaw07.PackMakes': WHATEVER THE INPUT: true; the input reads as it did. -/
def packMakesSpec : ChangeSpec := { name := "packMakes", fn := fun _ => fun
  | [d1, d2, d3] => { results := [.lit (.bool true)], args := [d1, d2, d3] }
  | _ => none }
def packMakesRow : OpenClaim := { program := "ytcnbcaljpgdcpaadoor", sum := "a84dd8338a5b12305e2d3733fc860aac7f9e6ffa4ebcc529e8a98c40f8911e89", func := "virama/viramalaw07.PackMakes", spec := "packMakes", inPlace := ["internal/reflectlite.ValueOf", "(internal/reflectlite.Value).Type", "(internal/reflectlite.Value).IsNil", "internal/reflectlite.TypeOf", "(internal/reflectlite.Value).Elem", "(internal/reflectlite.Value).Set"], unfollowed := true, recurses := true, named := ["errors.errorType"], plainKeys := false, apart := false, laid := [("errors.errorType", laid_errors_errorType)] }
def PackMakesSaid : Prop := packMakesRow.holds Tryd.pinned (OpenSpec.ofChange packMakesSpec)

/-- ITS FALSE NEIGHBOUR: 'it returns false'. Refute it at one input. -/
def packMakesWrong : ChangeSpec := { name := "packMakes", fn := fun _ => fun
  | [d1, d2, d3] => { results := [.lit (.bool false)], args := [d1, d2, d3] }
  | _ => none }
def PackMakesWrongFalsely : Prop := packMakesRow.holds Tryd.pinned (OpenSpec.ofChange packMakesWrong)

/-- 'viramalaw07.PackLoads': WHATEVER THE INPUT: true; the input reads as it did. -/
def packLoadsSpec : ChangeSpec := { name := "packLoads", fn := fun _ => fun
  | [d] => { results := [.lit (.bool true)], args := [d] }
  | _ => none }
def packLoadsRow : OpenClaim := { program := "ytcnbcaljpgdcpaadoor", sum := "a84dd8338a5b12305e2d3733fc860aac7f9e6ffa4ebcc529e8a98c40f8911e89", func := "virama/viramalaw07.PackLoads", spec := "packLoads", inPlace := ["internal/reflectlite.ValueOf", "(internal/reflectlite.Value).Type", "(internal/reflectlite.Value).IsNil", "internal/reflectlite.TypeOf", "(internal/reflectlite.Value).Elem", "(internal/reflectlite.Value).Set"], unfollowed := true, recurses := true, named := ["errors.errorType"], plainKeys := false, apart := false, laid := [("errors.errorType", laid_errors_errorType)] }
def PackLoadsSaid : Prop := packLoadsRow.holds Tryd.pinned (OpenSpec.ofChange packLoadsSpec)

/-- ITS FALSE NEIGHBOUR: 'it returns false'. Refute it at one input. -/
def packLoadsWrong : ChangeSpec := { name := "packLoads", fn := fun _ => fun
  | [d] => { results := [.lit (.bool false)], args := [d] }
  | _ => none }
def PackLoadsWrongFalsely : Prop := packLoadsRow.holds Tryd.pinned (OpenSpec.ofChange packLoadsWrong)

/-- 'viramalaw07.PackBack': WHATEVER THE INPUT: true; the input reads as it did. -/
def packBackSpec : ChangeSpec := { name := "packBack", fn := fun _ => fun
  | [d1, d2] => { results := [.lit (.bool true)], args := [d1, d2] }
  | _ => none }
def packBackRow : OpenClaim := { program := "ytcnbcaljpgdcpaadoor", sum := "a84dd8338a5b12305e2d3733fc860aac7f9e6ffa4ebcc529e8a98c40f8911e89", func := "virama/viramalaw07.PackBack", spec := "packBack", inPlace := ["internal/reflectlite.ValueOf", "(internal/reflectlite.Value).Type", "(internal/reflectlite.Value).IsNil", "internal/reflectlite.TypeOf", "(internal/reflectlite.Value).Elem", "(internal/reflectlite.Value).Set"], unfollowed := true, recurses := true, named := ["errors.errorType", "virama/trie.errRange", "virama/trie.errTrie"], plainKeys := false, apart := false, laid := [("errors.errorType", laid_errors_errorType), ("virama/trie.errRange", laid_virama_trie_errRange), ("virama/trie.errTrie", laid_virama_trie_errTrie)] }
def PackBackSaid : Prop := packBackRow.holds Tryd.pinned (OpenSpec.ofChange packBackSpec)

/-- ITS FALSE NEIGHBOUR: 'it returns false'. Refute it at one input. -/
def packBackWrong : ChangeSpec := { name := "packBack", fn := fun _ => fun
  | [d1, d2] => { results := [.lit (.bool false)], args := [d1, d2] }
  | _ => none }
def PackBackWrongFalsely : Prop := packBackRow.holds Tryd.pinned (OpenSpec.ofChange packBackWrong)

/-- 'viramalaw07.PackWhole': WHATEVER THE INPUT: true; the input reads as it did. -/
def packWholeSpec : ChangeSpec := { name := "packWhole", fn := fun _ => fun
  | [d] => { results := [.lit (.bool true)], args := [d] }
  | _ => none }
def packWholeRow : OpenClaim := { program := "ytcnbcaljpgdcpaadoor", sum := "a84dd8338a5b12305e2d3733fc860aac7f9e6ffa4ebcc529e8a98c40f8911e89", func := "virama/viramalaw07.PackWhole", spec := "packWhole", inPlace := ["internal/reflectlite.ValueOf", "(internal/reflectlite.Value).Type", "(internal/reflectlite.Value).IsNil", "internal/reflectlite.TypeOf", "(internal/reflectlite.Value).Elem", "(internal/reflectlite.Value).Set"], unfollowed := true, recurses := true, named := ["errors.errorType"], plainKeys := false, apart := false, laid := [("errors.errorType", laid_errors_errorType)] }
def PackWholeSaid : Prop := packWholeRow.holds Tryd.pinned (OpenSpec.ofChange packWholeSpec)

/-- ITS FALSE NEIGHBOUR: 'it returns false'. Refute it at one input. -/
def packWholeWrong : ChangeSpec := { name := "packWhole", fn := fun _ => fun
  | [d] => { results := [.lit (.bool false)], args := [d] }
  | _ => none }
def PackWholeWrongFalsely : Prop := packWholeRow.holds Tryd.pinned (OpenSpec.ofChange packWholeWrong)

/-- 'viramalaw07.PackRuns': WHATEVER THE INPUT: true; the input reads as it did. -/
def packRunsSpec : ChangeSpec := { name := "packRuns", fn := fun _ => fun
  | [d] => { results := [.lit (.bool true)], args := [d] }
  | _ => none }
def packRunsRow : OpenClaim := { program := "ytcnbcaljpgdcpaadoor", sum := "a84dd8338a5b12305e2d3733fc860aac7f9e6ffa4ebcc529e8a98c40f8911e89", func := "virama/viramalaw07.PackRuns", spec := "packRuns", inPlace := ["internal/reflectlite.ValueOf", "(internal/reflectlite.Value).Type", "(internal/reflectlite.Value).IsNil", "internal/reflectlite.TypeOf", "(internal/reflectlite.Value).Elem", "(internal/reflectlite.Value).Set"], unfollowed := true, recurses := true, named := ["errors.errorType"], plainKeys := false, apart := false, laid := [("errors.errorType", laid_errors_errorType)] }
def PackRunsSaid : Prop := packRunsRow.holds Tryd.pinned (OpenSpec.ofChange packRunsSpec)

/-- ITS FALSE NEIGHBOUR: 'it returns false'. Refute it at one input. -/
def packRunsWrong : ChangeSpec := { name := "packRuns", fn := fun _ => fun
  | [d] => { results := [.lit (.bool false)], args := [d] }
  | _ => none }
def PackRunsWrongFalsely : Prop := packRunsRow.holds Tryd.pinned (OpenSpec.ofChange packRunsWrong)

/-- 'viramalaw07.PackByte': WHATEVER THE INPUT: true; the input reads as it did. -/
def packByteSpec : ChangeSpec := { name := "packByte", fn := fun _ => fun
  | [d1, d2, d3] => { results := [.lit (.bool true)], args := [d1, d2, d3] }
  | _ => none }
def packByteRow : OpenClaim := { program := "ytcnbcaljpgdcpaadoor", sum := "a84dd8338a5b12305e2d3733fc860aac7f9e6ffa4ebcc529e8a98c40f8911e89", func := "virama/viramalaw07.PackByte", spec := "packByte", inPlace := ["internal/reflectlite.ValueOf", "(internal/reflectlite.Value).Type", "(internal/reflectlite.Value).IsNil", "internal/reflectlite.TypeOf", "(internal/reflectlite.Value).Elem", "(internal/reflectlite.Value).Set"], unfollowed := true, recurses := true, named := ["errors.errorType", "virama/trie.errRange", "virama/trie.errTrie"], plainKeys := false, apart := false, laid := [("errors.errorType", laid_errors_errorType), ("virama/trie.errRange", laid_virama_trie_errRange), ("virama/trie.errTrie", laid_virama_trie_errTrie)] }
def PackByteSaid : Prop := packByteRow.holds Tryd.pinned (OpenSpec.ofChange packByteSpec)

/-- ITS FALSE NEIGHBOUR: 'it returns false'. Refute it at one input. -/
def packByteWrong : ChangeSpec := { name := "packByte", fn := fun _ => fun
  | [d1, d2, d3] => { results := [.lit (.bool false)], args := [d1, d2, d3] }
  | _ => none }
def PackByteWrongFalsely : Prop := packByteRow.holds Tryd.pinned (OpenSpec.ofChange packByteWrong)

/-- 'viramalaw07.PackSums': WHATEVER THE INPUT: true; the input reads as it did. -/
def packSumsSpec : ChangeSpec := { name := "packSums", fn := fun _ => fun
  | [d1, d2] => { results := [.lit (.bool true)], args := [d1, d2] }
  | _ => none }
def packSumsRow : OpenClaim := { program := "ytcnbcaljpgdcpaadoor", sum := "a84dd8338a5b12305e2d3733fc860aac7f9e6ffa4ebcc529e8a98c40f8911e89", func := "virama/viramalaw07.PackSums", spec := "packSums", inPlace := ["internal/reflectlite.ValueOf", "(internal/reflectlite.Value).Type", "(internal/reflectlite.Value).IsNil", "internal/reflectlite.TypeOf", "(internal/reflectlite.Value).Elem", "(internal/reflectlite.Value).Set"], unfollowed := true, recurses := true, named := ["errors.errorType"], plainKeys := false, apart := false, laid := [("errors.errorType", laid_errors_errorType)] }
def PackSumsSaid : Prop := packSumsRow.holds Tryd.pinned (OpenSpec.ofChange packSumsSpec)

/-- ITS FALSE NEIGHBOUR: 'it returns false'. Refute it at one input. -/
def packSumsWrong : ChangeSpec := { name := "packSums", fn := fun _ => fun
  | [d1, d2] => { results := [.lit (.bool false)], args := [d1, d2] }
  | _ => none }
def PackSumsWrongFalsely : Prop := packSumsRow.holds Tryd.pinned (OpenSpec.ofChange packSumsWrong)

/- THE SECOND FORM. 'bulk': how many values and letters a reading holds, each counted each time it is reached (what is shared counts as often as it is met; a slice's spare places count too). A statement '..UptoSaid' is the law's where the arguments, and the package variables that the reading takes, are together of bulk at most 1048576: NARROWER than '..Said'. Prove '..Said' where nothing that the law and all that it calls make is longer than what came in: it says more and counts as full. Else prove '..UptoSaid'. A law counts once. -/
mutual
def uptoBulk {H : Type} : DataW H → Nat
  | .lit (.string bytes) => bytes.length + 1
  | .lit _ => 1
  | .nil => 1
  | .ptr d => uptoBulk d + 1
  | .slice elems spare => uptoBulkAll elems + uptoBulkAll spare + 1
  | .agg parts => uptoBulkAll parts + 1
  | .iface _ d => uptoBulk d + 1
  | .map entries => uptoBulkEntries entries + 1
  | .held _ => 1
def uptoBulkAll {H : Type} : List (DataW H) → Nat
  | [] => 0
  | d :: r => uptoBulk d + uptoBulkAll r
def uptoBulkEntries {H : Type} : List (Lit × DataW H) → Nat
  | [] => 0
  | x :: r => uptoBulkEntry x + uptoBulkEntries r
def uptoBulkEntry {H : Type} : Lit × DataW H → Nat
  | (.string bytes, d) => bytes.length + uptoBulk d + 1
  | (_, d) => uptoBulk d + 1
 end
def uptoSmall : (H : Type) → List (DataW H) → Bool := fun _ ds => decide (uptoBulkAll ds ≤ 1048576)
def OpenSpec.upto (s : _root_.Go.ChangeSpec) : _root_.Go.OpenSpec := { _root_.Go.OpenSpec.ofChange s with cond := some uptoSmall }

/-- 'viramalaw07.PackMakes', WHERE WHAT IT READS IS OF BULK AT MOST 1048576: true; the input reads as it did. -/
def packMakesUptoRow : OpenClaim := { program := "ytcnbcaljpgdcpaadoor", sum := "a84dd8338a5b12305e2d3733fc860aac7f9e6ffa4ebcc529e8a98c40f8911e89", func := "virama/viramalaw07.PackMakes", spec := "packMakes", inPlace := ["internal/reflectlite.ValueOf", "(internal/reflectlite.Value).Type", "(internal/reflectlite.Value).IsNil", "internal/reflectlite.TypeOf", "(internal/reflectlite.Value).Elem", "(internal/reflectlite.Value).Set"], unfollowed := true, recurses := true, named := ["errors.errorType"], plainKeys := false, apart := false, laid := [("errors.errorType", laid_errors_errorType)], narrowed := true }
def PackMakesUptoSaid : Prop := packMakesUptoRow.holds Tryd.pinned (OpenSpec.upto packMakesSpec)

/-- 'viramalaw07.PackLoads', WHERE WHAT IT READS IS OF BULK AT MOST 1048576: true; the input reads as it did. -/
def packLoadsUptoRow : OpenClaim := { program := "ytcnbcaljpgdcpaadoor", sum := "a84dd8338a5b12305e2d3733fc860aac7f9e6ffa4ebcc529e8a98c40f8911e89", func := "virama/viramalaw07.PackLoads", spec := "packLoads", inPlace := ["internal/reflectlite.ValueOf", "(internal/reflectlite.Value).Type", "(internal/reflectlite.Value).IsNil", "internal/reflectlite.TypeOf", "(internal/reflectlite.Value).Elem", "(internal/reflectlite.Value).Set"], unfollowed := true, recurses := true, named := ["errors.errorType"], plainKeys := false, apart := false, laid := [("errors.errorType", laid_errors_errorType)], narrowed := true }
def PackLoadsUptoSaid : Prop := packLoadsUptoRow.holds Tryd.pinned (OpenSpec.upto packLoadsSpec)

/-- 'viramalaw07.PackBack', WHERE WHAT IT READS IS OF BULK AT MOST 1048576: true; the input reads as it did. -/
def packBackUptoRow : OpenClaim := { program := "ytcnbcaljpgdcpaadoor", sum := "a84dd8338a5b12305e2d3733fc860aac7f9e6ffa4ebcc529e8a98c40f8911e89", func := "virama/viramalaw07.PackBack", spec := "packBack", inPlace := ["internal/reflectlite.ValueOf", "(internal/reflectlite.Value).Type", "(internal/reflectlite.Value).IsNil", "internal/reflectlite.TypeOf", "(internal/reflectlite.Value).Elem", "(internal/reflectlite.Value).Set"], unfollowed := true, recurses := true, named := ["errors.errorType", "virama/trie.errRange", "virama/trie.errTrie"], plainKeys := false, apart := false, laid := [("errors.errorType", laid_errors_errorType), ("virama/trie.errRange", laid_virama_trie_errRange), ("virama/trie.errTrie", laid_virama_trie_errTrie)], narrowed := true }
def PackBackUptoSaid : Prop := packBackUptoRow.holds Tryd.pinned (OpenSpec.upto packBackSpec)

/-- 'viramalaw07.PackWhole', WHERE WHAT IT READS IS OF BULK AT MOST 1048576: true; the input reads as it did. -/
def packWholeUptoRow : OpenClaim := { program := "ytcnbcaljpgdcpaadoor", sum := "a84dd8338a5b12305e2d3733fc860aac7f9e6ffa4ebcc529e8a98c40f8911e89", func := "virama/viramalaw07.PackWhole", spec := "packWhole", inPlace := ["internal/reflectlite.ValueOf", "(internal/reflectlite.Value).Type", "(internal/reflectlite.Value).IsNil", "internal/reflectlite.TypeOf", "(internal/reflectlite.Value).Elem", "(internal/reflectlite.Value).Set"], unfollowed := true, recurses := true, named := ["errors.errorType"], plainKeys := false, apart := false, laid := [("errors.errorType", laid_errors_errorType)], narrowed := true }
def PackWholeUptoSaid : Prop := packWholeUptoRow.holds Tryd.pinned (OpenSpec.upto packWholeSpec)

/-- 'viramalaw07.PackRuns', WHERE WHAT IT READS IS OF BULK AT MOST 1048576: true; the input reads as it did. -/
def packRunsUptoRow : OpenClaim := { program := "ytcnbcaljpgdcpaadoor", sum := "a84dd8338a5b12305e2d3733fc860aac7f9e6ffa4ebcc529e8a98c40f8911e89", func := "virama/viramalaw07.PackRuns", spec := "packRuns", inPlace := ["internal/reflectlite.ValueOf", "(internal/reflectlite.Value).Type", "(internal/reflectlite.Value).IsNil", "internal/reflectlite.TypeOf", "(internal/reflectlite.Value).Elem", "(internal/reflectlite.Value).Set"], unfollowed := true, recurses := true, named := ["errors.errorType"], plainKeys := false, apart := false, laid := [("errors.errorType", laid_errors_errorType)], narrowed := true }
def PackRunsUptoSaid : Prop := packRunsUptoRow.holds Tryd.pinned (OpenSpec.upto packRunsSpec)

/-- 'viramalaw07.PackByte', WHERE WHAT IT READS IS OF BULK AT MOST 1048576: true; the input reads as it did. -/
def packByteUptoRow : OpenClaim := { program := "ytcnbcaljpgdcpaadoor", sum := "a84dd8338a5b12305e2d3733fc860aac7f9e6ffa4ebcc529e8a98c40f8911e89", func := "virama/viramalaw07.PackByte", spec := "packByte", inPlace := ["internal/reflectlite.ValueOf", "(internal/reflectlite.Value).Type", "(internal/reflectlite.Value).IsNil", "internal/reflectlite.TypeOf", "(internal/reflectlite.Value).Elem", "(internal/reflectlite.Value).Set"], unfollowed := true, recurses := true, named := ["errors.errorType", "virama/trie.errRange", "virama/trie.errTrie"], plainKeys := false, apart := false, laid := [("errors.errorType", laid_errors_errorType), ("virama/trie.errRange", laid_virama_trie_errRange), ("virama/trie.errTrie", laid_virama_trie_errTrie)], narrowed := true }
def PackByteUptoSaid : Prop := packByteUptoRow.holds Tryd.pinned (OpenSpec.upto packByteSpec)

/-- 'viramalaw07.PackSums', WHERE WHAT IT READS IS OF BULK AT MOST 1048576: true; the input reads as it did. -/
def packSumsUptoRow : OpenClaim := { program := "ytcnbcaljpgdcpaadoor", sum := "a84dd8338a5b12305e2d3733fc860aac7f9e6ffa4ebcc529e8a98c40f8911e89", func := "virama/viramalaw07.PackSums", spec := "packSums", inPlace := ["internal/reflectlite.ValueOf", "(internal/reflectlite.Value).Type", "(internal/reflectlite.Value).IsNil", "internal/reflectlite.TypeOf", "(internal/reflectlite.Value).Elem", "(internal/reflectlite.Value).Set"], unfollowed := true, recurses := true, named := ["errors.errorType"], plainKeys := false, apart := false, laid := [("errors.errorType", laid_errors_errorType)], narrowed := true }
def PackSumsUptoSaid : Prop := packSumsUptoRow.holds Tryd.pinned (OpenSpec.upto packSumsSpec)

end Rows
end Go.Proofs.YtcnbcaljpgdcpaaDoor
