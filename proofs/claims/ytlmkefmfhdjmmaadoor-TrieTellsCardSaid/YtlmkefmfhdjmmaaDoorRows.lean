/-
  NARROWER THAN 'FOR EVERY INPUT', by the rows' own cells (each row's printed sentence says how): TrieBuilds: laid · TrieTells: laid · TrieLeast: laid · TrieRows: laid · TrieOver: laid · TrieTwo: laid.
  DERIVED. THE GIVEN ROWS OF THIS SEAT. 6 by the template 'for every input the law returns true; each argument reads behind the call as it read before'; 0 by the template 'total and deterministic' (their statements: YtlmkefmfhdjmmaaDoorTotals.lean).
  GIVEN WITH THE SEED: the statements are not yours to turn. If you find one false, say at which input.
  Laid BY PROGRAM, IN A SANDBOX (cutbox-rows.mjs): the forced cells as the released guide's own fill.sh prints them over the translation 1210b9e0953f0e52… (all of the seat's roots in one cut). By AI agents, Wed Nov 11 2026. No macro, syntax, notation, axiom, sorry.
-/
import Derived.Test.YtlmkefmfhdjmmaaDoorChecked
import GoSem.Claim
import GoSem.ClaimJoined
import GoSem.ClaimMapViews
import Derived.JoinedTies
import Derived.KernelRfl
namespace Go.Proofs.YtlmkefmfhdjmmaaDoor
/- THE CELL 'sum', in the pinned program and in every row, IS THE sha256 OF THE DUMP (.gsa) THAT YtlmkefmfhdjmmaaDoorProg.lean LOADS. Nothing in Lean hashes anything: it is a label: what it is worth is what the hold of that sum in a sandbox is worth. -/
noncomputable def Tryd.pinned : Pinned := { name := "ytlmkefmfhdjmmaadoor", sum := "1210b9e0953f0e52538b973f5ef58c0966009798f741f0322e216b90d473e6eb", checked := Tryd.checked }
namespace Rows
def none {H : Type} : Left H := { results := [], args := [] }

/- WHAT THE LISTED PACKAGE-LEVEL VARIABLES READ AS WHEN THE CALL BEGINS. Each datum BY PROGRAM (the guide's laid-datum.mjs) off the statement by which the dump's own 'gosem.cut.vars' lays the variable. In a bare row this is a premise. The card (YtlmkefmfhdjmmaaDoorCards.lean) ties it to the program's text. -/
def laid_virama_trie_errRange {H : Type} : DataW H := .iface "*errors.errorString" (.ptr (.agg [.lit (.string [116, 114, 105, 101, 58, 32, 114, 97, 110, 103, 101, 115, 32, 116, 104, 97, 116, 32, 97, 114, 101, 32, 110, 111, 32, 109, 97, 112, 44, 32, 111, 114, 32, 116, 111, 111, 32, 109, 97, 110, 121, 32, 102, 111, 114, 32, 111, 110, 101])]))
def laid_virama_trie_errTrie {H : Type} : DataW H := .iface "*errors.errorString" (.ptr (.agg [.lit (.string [116, 114, 105, 101, 58, 32, 97, 32, 116, 114, 105, 101, 32, 116, 104, 97, 116, 32, 105, 115, 32, 110, 111, 116, 32, 114, 105, 103, 104, 116])]))
def laid_errors_errorType {H : Type} : DataW H := .iface "internal/reflectlite.rtype" (.agg [.ptr (.lit (.string [101, 114, 114, 111, 114]))])

/-- 'viramalaw06.TrieBuilds': WHATEVER THE INPUT: true; the input reads as it did. -/
def trieBuildsSpec : ChangeSpec := { name := "trieBuilds", fn := fun _ => fun
  | [d1, d2] => { results := [.lit (.bool true)], args := [d1, d2] }
  | _ => none }
def trieBuildsRow : OpenClaim := { program := "ytlmkefmfhdjmmaadoor", sum := "1210b9e0953f0e52538b973f5ef58c0966009798f741f0322e216b90d473e6eb", func := "virama/viramalaw06.TrieBuilds", spec := "trieBuilds", inPlace := ["internal/reflectlite.TypeOf"], unfollowed := true, recurses := true, named := ["virama/trie.errRange", "virama/trie.errTrie"], plainKeys := false, apart := false, laid := [("virama/trie.errRange", laid_virama_trie_errRange), ("virama/trie.errTrie", laid_virama_trie_errTrie)] }
def TrieBuildsSaid : Prop := trieBuildsRow.holds Tryd.pinned (OpenSpec.ofChange trieBuildsSpec)

/-- ITS FALSE NEIGHBOUR: 'it returns false'. Refute it at one input. -/
def trieBuildsWrong : ChangeSpec := { name := "trieBuilds", fn := fun _ => fun
  | [d1, d2] => { results := [.lit (.bool false)], args := [d1, d2] }
  | _ => none }
def TrieBuildsWrongFalsely : Prop := trieBuildsRow.holds Tryd.pinned (OpenSpec.ofChange trieBuildsWrong)

/-- 'viramalaw06.TrieTells': WHATEVER THE INPUT: true; the input reads as it did. -/
def trieTellsSpec : ChangeSpec := { name := "trieTells", fn := fun _ => fun
  | [d1, d2] => { results := [.lit (.bool true)], args := [d1, d2] }
  | _ => none }
def trieTellsRow : OpenClaim := { program := "ytlmkefmfhdjmmaadoor", sum := "1210b9e0953f0e52538b973f5ef58c0966009798f741f0322e216b90d473e6eb", func := "virama/viramalaw06.TrieTells", spec := "trieTells", inPlace := ["internal/reflectlite.TypeOf"], unfollowed := true, recurses := true, named := ["virama/trie.errRange", "virama/trie.errTrie"], plainKeys := false, apart := false, laid := [("virama/trie.errRange", laid_virama_trie_errRange), ("virama/trie.errTrie", laid_virama_trie_errTrie)] }
def TrieTellsSaid : Prop := trieTellsRow.holds Tryd.pinned (OpenSpec.ofChange trieTellsSpec)

/-- ITS FALSE NEIGHBOUR: 'it returns false'. Refute it at one input. -/
def trieTellsWrong : ChangeSpec := { name := "trieTells", fn := fun _ => fun
  | [d1, d2] => { results := [.lit (.bool false)], args := [d1, d2] }
  | _ => none }
def TrieTellsWrongFalsely : Prop := trieTellsRow.holds Tryd.pinned (OpenSpec.ofChange trieTellsWrong)

/-- 'viramalaw06.TrieLeast': WHATEVER THE INPUT: true; the input reads as it did. -/
def trieLeastSpec : ChangeSpec := { name := "trieLeast", fn := fun _ => fun
  | [d] => { results := [.lit (.bool true)], args := [d] }
  | _ => none }
def trieLeastRow : OpenClaim := { program := "ytlmkefmfhdjmmaadoor", sum := "1210b9e0953f0e52538b973f5ef58c0966009798f741f0322e216b90d473e6eb", func := "virama/viramalaw06.TrieLeast", spec := "trieLeast", inPlace := ["internal/reflectlite.TypeOf"], unfollowed := true, recurses := true, named := ["virama/trie.errRange", "virama/trie.errTrie"], plainKeys := false, apart := false, laid := [("virama/trie.errRange", laid_virama_trie_errRange), ("virama/trie.errTrie", laid_virama_trie_errTrie)] }
def TrieLeastSaid : Prop := trieLeastRow.holds Tryd.pinned (OpenSpec.ofChange trieLeastSpec)

/-- ITS FALSE NEIGHBOUR: 'it returns false'. Refute it at one input. -/
def trieLeastWrong : ChangeSpec := { name := "trieLeast", fn := fun _ => fun
  | [d] => { results := [.lit (.bool false)], args := [d] }
  | _ => none }
def TrieLeastWrongFalsely : Prop := trieLeastRow.holds Tryd.pinned (OpenSpec.ofChange trieLeastWrong)

/-- 'viramalaw06.TrieRows': WHATEVER THE INPUT: true; the input reads as it did. -/
def trieRowsSpec : ChangeSpec := { name := "trieRows", fn := fun _ => fun
  | [d1, d2, d3, d4] => { results := [.lit (.bool true)], args := [d1, d2, d3, d4] }
  | _ => none }
def trieRowsRow : OpenClaim := { program := "ytlmkefmfhdjmmaadoor", sum := "1210b9e0953f0e52538b973f5ef58c0966009798f741f0322e216b90d473e6eb", func := "virama/viramalaw06.TrieRows", spec := "trieRows", inPlace := ["internal/reflectlite.TypeOf"], unfollowed := true, recurses := true, named := ["virama/trie.errRange", "virama/trie.errTrie"], plainKeys := false, apart := false, laid := [("virama/trie.errRange", laid_virama_trie_errRange), ("virama/trie.errTrie", laid_virama_trie_errTrie)] }
def TrieRowsSaid : Prop := trieRowsRow.holds Tryd.pinned (OpenSpec.ofChange trieRowsSpec)

/-- ITS FALSE NEIGHBOUR: 'it returns false'. Refute it at one input. -/
def trieRowsWrong : ChangeSpec := { name := "trieRows", fn := fun _ => fun
  | [d1, d2, d3, d4] => { results := [.lit (.bool false)], args := [d1, d2, d3, d4] }
  | _ => none }
def TrieRowsWrongFalsely : Prop := trieRowsRow.holds Tryd.pinned (OpenSpec.ofChange trieRowsWrong)

/-- 'viramalaw06.TrieOver': WHATEVER THE INPUT: true; the input reads as it did. -/
def trieOverSpec : ChangeSpec := { name := "trieOver", fn := fun _ => fun
  | [d1, d2, d3] => { results := [.lit (.bool true)], args := [d1, d2, d3] }
  | _ => none }
def trieOverRow : OpenClaim := { program := "ytlmkefmfhdjmmaadoor", sum := "1210b9e0953f0e52538b973f5ef58c0966009798f741f0322e216b90d473e6eb", func := "virama/viramalaw06.TrieOver", spec := "trieOver", inPlace := ["internal/reflectlite.TypeOf", "internal/reflectlite.ValueOf", "(internal/reflectlite.Value).Type", "(internal/reflectlite.Value).IsNil", "(internal/reflectlite.Value).Elem", "(internal/reflectlite.Value).Set"], unfollowed := true, recurses := true, named := ["virama/trie.errRange", "virama/trie.errTrie", "errors.errorType"], plainKeys := false, apart := false, laid := [("errors.errorType", laid_errors_errorType), ("virama/trie.errRange", laid_virama_trie_errRange), ("virama/trie.errTrie", laid_virama_trie_errTrie)] }
def TrieOverSaid : Prop := trieOverRow.holds Tryd.pinned (OpenSpec.ofChange trieOverSpec)

/-- ITS FALSE NEIGHBOUR: 'it returns false'. Refute it at one input. -/
def trieOverWrong : ChangeSpec := { name := "trieOver", fn := fun _ => fun
  | [d1, d2, d3] => { results := [.lit (.bool false)], args := [d1, d2, d3] }
  | _ => none }
def TrieOverWrongFalsely : Prop := trieOverRow.holds Tryd.pinned (OpenSpec.ofChange trieOverWrong)

/-- 'viramalaw06.TrieTwo': WHATEVER THE INPUT: true; the input reads as it did. -/
def trieTwoSpec : ChangeSpec := { name := "trieTwo", fn := fun _ => fun
  | [d1, d2] => { results := [.lit (.bool true)], args := [d1, d2] }
  | _ => none }
def trieTwoRow : OpenClaim := { program := "ytlmkefmfhdjmmaadoor", sum := "1210b9e0953f0e52538b973f5ef58c0966009798f741f0322e216b90d473e6eb", func := "virama/viramalaw06.TrieTwo", spec := "trieTwo", inPlace := ["internal/reflectlite.TypeOf"], unfollowed := true, recurses := true, named := ["virama/trie.errRange", "virama/trie.errTrie"], plainKeys := false, apart := false, laid := [("virama/trie.errRange", laid_virama_trie_errRange), ("virama/trie.errTrie", laid_virama_trie_errTrie)] }
def TrieTwoSaid : Prop := trieTwoRow.holds Tryd.pinned (OpenSpec.ofChange trieTwoSpec)

/-- ITS FALSE NEIGHBOUR: 'it returns false'. Refute it at one input. -/
def trieTwoWrong : ChangeSpec := { name := "trieTwo", fn := fun _ => fun
  | [d1, d2] => { results := [.lit (.bool false)], args := [d1, d2] }
  | _ => none }
def TrieTwoWrongFalsely : Prop := trieTwoRow.holds Tryd.pinned (OpenSpec.ofChange trieTwoWrong)

/- THE SECOND FORM. 'bulk': how many values and letters a reading holds, each counted each time it is reached (what is shared counts as often as it is met; a slice's spare places count too). A statement '..UptoSaid' is the law's where the arguments, and the package variables that the reading takes, are together of bulk at most 1048576: NARROWER than '..Said'. Prove '..Said' where nothing that the law and all that it calls make is longer than what came in: it says more and counts as full. Else prove '..UptoSaid'. A law counts once. -/
mutual
def uptoBulk {H : Type} : DataW H → Nat
  | .lit (.string bytes) => bytes.length + 1
  | .lit _ => 1
  | .nil => 1
  | .ptr d => uptoBulk d + 1
  | .slice elems spare => uptoBulkAll elems + uptoBulkAll spare + 1
  | .agg parts => uptoBulkAll parts + 1
  | .iface _ d => uptoBulk d + 1
  | .map entries => uptoBulkEntries entries + 1
  | .held _ => 1
def uptoBulkAll {H : Type} : List (DataW H) → Nat
  | [] => 0
  | d :: r => uptoBulk d + uptoBulkAll r
def uptoBulkEntries {H : Type} : List (Lit × DataW H) → Nat
  | [] => 0
  | x :: r => uptoBulkEntry x + uptoBulkEntries r
def uptoBulkEntry {H : Type} : Lit × DataW H → Nat
  | (.string bytes, d) => bytes.length + uptoBulk d + 1
  | (_, d) => uptoBulk d + 1
 end
def uptoSmall : (H : Type) → List (DataW H) → Bool := fun _ ds => decide (uptoBulkAll ds ≤ 1048576)
def OpenSpec.upto (s : _root_.Go.ChangeSpec) : _root_.Go.OpenSpec := { _root_.Go.OpenSpec.ofChange s with cond := some uptoSmall }

/-- 'viramalaw06.TrieBuilds', WHERE WHAT IT READS IS OF BULK AT MOST 1048576: true; the input reads as it did. -/
def trieBuildsUptoRow : OpenClaim := { program := "ytlmkefmfhdjmmaadoor", sum := "1210b9e0953f0e52538b973f5ef58c0966009798f741f0322e216b90d473e6eb", func := "virama/viramalaw06.TrieBuilds", spec := "trieBuilds", inPlace := ["internal/reflectlite.TypeOf"], unfollowed := true, recurses := true, named := ["virama/trie.errRange", "virama/trie.errTrie"], plainKeys := false, apart := false, laid := [("virama/trie.errRange", laid_virama_trie_errRange), ("virama/trie.errTrie", laid_virama_trie_errTrie)], narrowed := true }
def TrieBuildsUptoSaid : Prop := trieBuildsUptoRow.holds Tryd.pinned (OpenSpec.upto trieBuildsSpec)

/-- 'viramalaw06.TrieTells', WHERE WHAT IT READS IS OF BULK AT MOST 1048576: true; the input reads as it did. -/
def trieTellsUptoRow : OpenClaim := { program := "ytlmkefmfhdjmmaadoor", sum := "1210b9e0953f0e52538b973f5ef58c0966009798f741f0322e216b90d473e6eb", func := "virama/viramalaw06.TrieTells", spec := "trieTells", inPlace := ["internal/reflectlite.TypeOf"], unfollowed := true, recurses := true, named := ["virama/trie.errRange", "virama/trie.errTrie"], plainKeys := false, apart := false, laid := [("virama/trie.errRange", laid_virama_trie_errRange), ("virama/trie.errTrie", laid_virama_trie_errTrie)], narrowed := true }
def TrieTellsUptoSaid : Prop := trieTellsUptoRow.holds Tryd.pinned (OpenSpec.upto trieTellsSpec)

/-- 'viramalaw06.TrieLeast', WHERE WHAT IT READS IS OF BULK AT MOST 1048576: true; the input reads as it did. -/
def trieLeastUptoRow : OpenClaim := { program := "ytlmkefmfhdjmmaadoor", sum := "1210b9e0953f0e52538b973f5ef58c0966009798f741f0322e216b90d473e6eb", func := "virama/viramalaw06.TrieLeast", spec := "trieLeast", inPlace := ["internal/reflectlite.TypeOf"], unfollowed := true, recurses := true, named := ["virama/trie.errRange", "virama/trie.errTrie"], plainKeys := false, apart := false, laid := [("virama/trie.errRange", laid_virama_trie_errRange), ("virama/trie.errTrie", laid_virama_trie_errTrie)], narrowed := true }
def TrieLeastUptoSaid : Prop := trieLeastUptoRow.holds Tryd.pinned (OpenSpec.upto trieLeastSpec)

/-- 'viramalaw06.TrieRows', WHERE WHAT IT READS IS OF BULK AT MOST 1048576: true; the input reads as it did. -/
def trieRowsUptoRow : OpenClaim := { program := "ytlmkefmfhdjmmaadoor", sum := "1210b9e0953f0e52538b973f5ef58c0966009798f741f0322e216b90d473e6eb", func := "virama/viramalaw06.TrieRows", spec := "trieRows", inPlace := ["internal/reflectlite.TypeOf"], unfollowed := true, recurses := true, named := ["virama/trie.errRange", "virama/trie.errTrie"], plainKeys := false, apart := false, laid := [("virama/trie.errRange", laid_virama_trie_errRange), ("virama/trie.errTrie", laid_virama_trie_errTrie)], narrowed := true }
def TrieRowsUptoSaid : Prop := trieRowsUptoRow.holds Tryd.pinned (OpenSpec.upto trieRowsSpec)

/-- 'viramalaw06.TrieOver', WHERE WHAT IT READS IS OF BULK AT MOST 1048576: true; the input reads as it did. -/
def trieOverUptoRow : OpenClaim := { program := "ytlmkefmfhdjmmaadoor", sum := "1210b9e0953f0e52538b973f5ef58c0966009798f741f0322e216b90d473e6eb", func := "virama/viramalaw06.TrieOver", spec := "trieOver", inPlace := ["internal/reflectlite.TypeOf", "internal/reflectlite.ValueOf", "(internal/reflectlite.Value).Type", "(internal/reflectlite.Value).IsNil", "(internal/reflectlite.Value).Elem", "(internal/reflectlite.Value).Set"], unfollowed := true, recurses := true, named := ["virama/trie.errRange", "virama/trie.errTrie", "errors.errorType"], plainKeys := false, apart := false, laid := [("errors.errorType", laid_errors_errorType), ("virama/trie.errRange", laid_virama_trie_errRange), ("virama/trie.errTrie", laid_virama_trie_errTrie)], narrowed := true }
def TrieOverUptoSaid : Prop := trieOverUptoRow.holds Tryd.pinned (OpenSpec.upto trieOverSpec)

/-- 'viramalaw06.TrieTwo', WHERE WHAT IT READS IS OF BULK AT MOST 1048576: true; the input reads as it did. -/
def trieTwoUptoRow : OpenClaim := { program := "ytlmkefmfhdjmmaadoor", sum := "1210b9e0953f0e52538b973f5ef58c0966009798f741f0322e216b90d473e6eb", func := "virama/viramalaw06.TrieTwo", spec := "trieTwo", inPlace := ["internal/reflectlite.TypeOf"], unfollowed := true, recurses := true, named := ["virama/trie.errRange", "virama/trie.errTrie"], plainKeys := false, apart := false, laid := [("virama/trie.errRange", laid_virama_trie_errRange), ("virama/trie.errTrie", laid_virama_trie_errTrie)], narrowed := true }
def TrieTwoUptoSaid : Prop := trieTwoUptoRow.holds Tryd.pinned (OpenSpec.upto trieTwoSpec)

end Rows
end Go.Proofs.YtlmkefmfhdjmmaaDoor
