/-
  DERIVED. GIVEN WITH THE SEED: THE CARDS: each row of YtlmkefmfhdjmmaaGreatDoorRows.lean that lists a variable, with what it lists TIED to the program's text (the seventh form; the later family's looks); each row that meets fmt, with fmt's text TOLD by the authors' own Lean function (tested against real Go, not proved from fmt's source: count such statements apart). THE CARD IS WHAT COUNTS. Prove the row's statement (the work); the ties are given (YtlmkefmfhdjmmaaGreatDoorTie.lean); close each card by the builder's one call (the guide's Derived/Test/ToyasCard.lean, 'card_holds'). Laid BY PROGRAM, IN A SANDBOX (cutbox-door.mjs). By AI agents, Wed Nov 11 2026. No macro, syntax, notation, axiom, sorry.
-/
import Derived.Test.YtlmkefmfhdjmmaaGreatDoorRows
import GoSem.ClaimSeven
namespace Go.Proofs.YtlmkefmfhdjmmaaGreatDoor
namespace Rows

/-- THE TIED CARD OF 'viramalaw06.TrieSays'. -/
def trieSaysCard : Claim7 := { stood := { row := trieSaysRow, standIns := [], harness := (true, "f724398ecc03ba5a0d42815a27e54e3df81b220bf7429af731f432016e474a62"), looks := true }, kinds := [], alts := [], laidByText := true, laidKinds := [.handle, .sentinel, .sentinel], laidTests := true, laidLooks := .later }
def TrieSaysCardSaid : Prop := Claim7.holds Tryz.pinned (.plain (OpenSpec.ofChange trieSaysSpec)) trieSaysCard

/-- THE SECOND FORM's CARD OF 'viramalaw06.TrieSays'. -/
def trieSaysUptoCard : Claim7 := { stood := { row := trieSaysUptoRow, standIns := [], harness := (true, "f724398ecc03ba5a0d42815a27e54e3df81b220bf7429af731f432016e474a62"), looks := true }, kinds := [], alts := [], laidByText := true, laidKinds := [.handle, .sentinel, .sentinel], laidTests := true, laidLooks := .later }
def TrieSaysUptoCardSaid : Prop := Claim7.holds Tryz.pinned (.plain (OpenSpec.upto trieSaysSpec)) trieSaysUptoCard
end Rows
end Go.Proofs.YtlmkefmfhdjmmaaGreatDoor
