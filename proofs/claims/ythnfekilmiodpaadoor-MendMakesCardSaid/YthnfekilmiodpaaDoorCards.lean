/-
  DERIVED. GIVEN WITH THE SEED: THE CARDS: each row of YthnfekilmiodpaaDoorRows.lean that lists a variable, with what it lists TIED to the program's text (the seventh form; the later family's looks); each row that meets fmt, with fmt's text TOLD by the authors' own Lean function (tested against real Go, not proved from fmt's source: count such statements apart). THE CARD IS WHAT COUNTS. Prove the row's statement (the work); the ties are given (YthnfekilmiodpaaDoorTie.lean); close each card by the builder's one call (the guide's Derived/Test/ToyasCard.lean, 'card_holds'). Laid BY PROGRAM, IN A SANDBOX (cutbox-door.mjs). By AI agents, Wed Nov 11 2026. No macro, syntax, notation, axiom, sorry.
-/
import Derived.Test.YthnfekilmiodpaaDoorRows
import GoSem.ClaimSeven
namespace Go.Proofs.YthnfekilmiodpaaDoor
namespace Rows

/-- THE TIED CARD OF 'viramalaw02.MendMakes'. -/
def mendMakesCard : Claim7 := { stood := { row := mendMakesRow, standIns := [], harness := (true, "d77c2c8fab7a679b3728978bd54d1245433bd0464da657cafc680cb468ec810e"), looks := true }, kinds := [], alts := [], laidByText := true, laidKinds := [.sentinel, .sentinel, .sentinel], laidTests := true, laidLooks := .later }
def MendMakesCardSaid : Prop := Claim7.holds Tryd.pinned (.plain (OpenSpec.ofChange mendMakesSpec)) mendMakesCard

/-- THE SECOND FORM's CARD OF 'viramalaw02.MendMakes'. -/
def mendMakesUptoCard : Claim7 := { stood := { row := mendMakesUptoRow, standIns := [], harness := (true, "d77c2c8fab7a679b3728978bd54d1245433bd0464da657cafc680cb468ec810e"), looks := true }, kinds := [], alts := [], laidByText := true, laidKinds := [.sentinel, .sentinel, .sentinel], laidTests := true, laidLooks := .later }
def MendMakesUptoCardSaid : Prop := Claim7.holds Tryd.pinned (.plain (OpenSpec.upto mendMakesSpec)) mendMakesUptoCard
end Rows
end Go.Proofs.YthnfekilmiodpaaDoor
