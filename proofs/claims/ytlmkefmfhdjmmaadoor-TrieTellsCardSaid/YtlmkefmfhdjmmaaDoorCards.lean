/-
  DERIVED. GIVEN WITH THE SEED: THE CARDS: each row of YtlmkefmfhdjmmaaDoorRows.lean that lists a variable, with what it lists TIED to the program's text (the seventh form; the later family's looks); each row that meets fmt, with fmt's text TOLD by the authors' own Lean function (tested against real Go, not proved from fmt's source: count such statements apart). THE CARD IS WHAT COUNTS. Prove the row's statement (the work); the ties are given (YtlmkefmfhdjmmaaDoorTie.lean); close each card by the builder's one call (the guide's Derived/Test/ToyasCard.lean, 'card_holds'). Laid BY PROGRAM, IN A SANDBOX (cutbox-door.mjs). By AI agents, Wed Nov 11 2026. No macro, syntax, notation, axiom, sorry.
-/
import Derived.Test.YtlmkefmfhdjmmaaDoorRows
import GoSem.ClaimSeven
namespace Go.Proofs.YtlmkefmfhdjmmaaDoor
namespace Rows

/-- THE TIED CARD OF 'viramalaw06.TrieBuilds'. -/
def trieBuildsCard : Claim7 := { stood := { row := trieBuildsRow, standIns := [], harness := (true, "b315a592d421a92f763cb91faa805bfa233246ec777fd7d1762490fc92015b09"), looks := true }, kinds := [], alts := [], laidByText := true, laidKinds := [.sentinel, .sentinel], laidTests := true, laidLooks := .later }
def TrieBuildsCardSaid : Prop := Claim7.holds Tryd.pinned (.plain (OpenSpec.ofChange trieBuildsSpec)) trieBuildsCard

/-- THE TIED CARD OF 'viramalaw06.TrieTells'. -/
def trieTellsCard : Claim7 := { stood := { row := trieTellsRow, standIns := [], harness := (true, "b315a592d421a92f763cb91faa805bfa233246ec777fd7d1762490fc92015b09"), looks := true }, kinds := [], alts := [], laidByText := true, laidKinds := [.sentinel, .sentinel], laidTests := true, laidLooks := .later }
def TrieTellsCardSaid : Prop := Claim7.holds Tryd.pinned (.plain (OpenSpec.ofChange trieTellsSpec)) trieTellsCard

/-- THE TIED CARD OF 'viramalaw06.TrieLeast'. -/
def trieLeastCard : Claim7 := { stood := { row := trieLeastRow, standIns := [], harness := (true, "b315a592d421a92f763cb91faa805bfa233246ec777fd7d1762490fc92015b09"), looks := true }, kinds := [], alts := [], laidByText := true, laidKinds := [.sentinel, .sentinel], laidTests := true, laidLooks := .later }
def TrieLeastCardSaid : Prop := Claim7.holds Tryd.pinned (.plain (OpenSpec.ofChange trieLeastSpec)) trieLeastCard

/-- THE TIED CARD OF 'viramalaw06.TrieRows'. -/
def trieRowsCard : Claim7 := { stood := { row := trieRowsRow, standIns := [], harness := (true, "b315a592d421a92f763cb91faa805bfa233246ec777fd7d1762490fc92015b09"), looks := true }, kinds := [], alts := [], laidByText := true, laidKinds := [.sentinel, .sentinel], laidTests := true, laidLooks := .later }
def TrieRowsCardSaid : Prop := Claim7.holds Tryd.pinned (.plain (OpenSpec.ofChange trieRowsSpec)) trieRowsCard

/-- THE TIED CARD OF 'viramalaw06.TrieOver'. -/
def trieOverCard : Claim7 := { stood := { row := trieOverRow, standIns := [], harness := (true, "b315a592d421a92f763cb91faa805bfa233246ec777fd7d1762490fc92015b09"), looks := true }, kinds := [], alts := [], laidByText := true, laidKinds := [.handle, .sentinel, .sentinel], laidTests := true, laidLooks := .later }
def TrieOverCardSaid : Prop := Claim7.holds Tryd.pinned (.plain (OpenSpec.ofChange trieOverSpec)) trieOverCard

/-- THE TIED CARD OF 'viramalaw06.TrieTwo'. -/
def trieTwoCard : Claim7 := { stood := { row := trieTwoRow, standIns := [], harness := (true, "b315a592d421a92f763cb91faa805bfa233246ec777fd7d1762490fc92015b09"), looks := true }, kinds := [], alts := [], laidByText := true, laidKinds := [.sentinel, .sentinel], laidTests := true, laidLooks := .later }
def TrieTwoCardSaid : Prop := Claim7.holds Tryd.pinned (.plain (OpenSpec.ofChange trieTwoSpec)) trieTwoCard

/-- THE SECOND FORM's CARD OF 'viramalaw06.TrieBuilds'. -/
def trieBuildsUptoCard : Claim7 := { stood := { row := trieBuildsUptoRow, standIns := [], harness := (true, "b315a592d421a92f763cb91faa805bfa233246ec777fd7d1762490fc92015b09"), looks := true }, kinds := [], alts := [], laidByText := true, laidKinds := [.sentinel, .sentinel], laidTests := true, laidLooks := .later }
def TrieBuildsUptoCardSaid : Prop := Claim7.holds Tryd.pinned (.plain (OpenSpec.upto trieBuildsSpec)) trieBuildsUptoCard

/-- THE SECOND FORM's CARD OF 'viramalaw06.TrieTells'. -/
def trieTellsUptoCard : Claim7 := { stood := { row := trieTellsUptoRow, standIns := [], harness := (true, "b315a592d421a92f763cb91faa805bfa233246ec777fd7d1762490fc92015b09"), looks := true }, kinds := [], alts := [], laidByText := true, laidKinds := [.sentinel, .sentinel], laidTests := true, laidLooks := .later }
def TrieTellsUptoCardSaid : Prop := Claim7.holds Tryd.pinned (.plain (OpenSpec.upto trieTellsSpec)) trieTellsUptoCard

/-- THE SECOND FORM's CARD OF 'viramalaw06.TrieLeast'. -/
def trieLeastUptoCard : Claim7 := { stood := { row := trieLeastUptoRow, standIns := [], harness := (true, "b315a592d421a92f763cb91faa805bfa233246ec777fd7d1762490fc92015b09"), looks := true }, kinds := [], alts := [], laidByText := true, laidKinds := [.sentinel, .sentinel], laidTests := true, laidLooks := .later }
def TrieLeastUptoCardSaid : Prop := Claim7.holds Tryd.pinned (.plain (OpenSpec.upto trieLeastSpec)) trieLeastUptoCard

/-- THE SECOND FORM's CARD OF 'viramalaw06.TrieRows'. -/
def trieRowsUptoCard : Claim7 := { stood := { row := trieRowsUptoRow, standIns := [], harness := (true, "b315a592d421a92f763cb91faa805bfa233246ec777fd7d1762490fc92015b09"), looks := true }, kinds := [], alts := [], laidByText := true, laidKinds := [.sentinel, .sentinel], laidTests := true, laidLooks := .later }
def TrieRowsUptoCardSaid : Prop := Claim7.holds Tryd.pinned (.plain (OpenSpec.upto trieRowsSpec)) trieRowsUptoCard

/-- THE SECOND FORM's CARD OF 'viramalaw06.TrieOver'. -/
def trieOverUptoCard : Claim7 := { stood := { row := trieOverUptoRow, standIns := [], harness := (true, "b315a592d421a92f763cb91faa805bfa233246ec777fd7d1762490fc92015b09"), looks := true }, kinds := [], alts := [], laidByText := true, laidKinds := [.handle, .sentinel, .sentinel], laidTests := true, laidLooks := .later }
def TrieOverUptoCardSaid : Prop := Claim7.holds Tryd.pinned (.plain (OpenSpec.upto trieOverSpec)) trieOverUptoCard

/-- THE SECOND FORM's CARD OF 'viramalaw06.TrieTwo'. -/
def trieTwoUptoCard : Claim7 := { stood := { row := trieTwoUptoRow, standIns := [], harness := (true, "b315a592d421a92f763cb91faa805bfa233246ec777fd7d1762490fc92015b09"), looks := true }, kinds := [], alts := [], laidByText := true, laidKinds := [.sentinel, .sentinel], laidTests := true, laidLooks := .later }
def TrieTwoUptoCardSaid : Prop := Claim7.holds Tryd.pinned (.plain (OpenSpec.upto trieTwoSpec)) trieTwoUptoCard
end Rows
end Go.Proofs.YtlmkefmfhdjmmaaDoor
