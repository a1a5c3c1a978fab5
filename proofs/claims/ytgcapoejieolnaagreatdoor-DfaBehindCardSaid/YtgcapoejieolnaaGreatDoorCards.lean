/-
  DERIVED. GIVEN WITH THE SEED: THE CARDS: each row of YtgcapoejieolnaaGreatDoorRows.lean that lists a variable, with what it lists TIED to the program's text (the seventh form; the later family's looks); each row that meets fmt, with fmt's text TOLD by the authors' own Lean function (tested against real Go, not proved from fmt's source: count such statements apart). THE CARD IS WHAT COUNTS. Prove the row's statement (the work); the ties are given (YtgcapoejieolnaaGreatDoorTie.lean); close each card by the builder's one call (the guide's Derived/Test/ToyasCard.lean, 'card_holds'). Laid BY PROGRAM, IN A SANDBOX (cutbox-door.mjs). By AI agents, Wed Nov 11 2026. No macro, syntax, notation, axiom, sorry.
-/
import Derived.Test.YtgcapoejieolnaaGreatDoorRows
import GoSem.ClaimSeven
namespace Go.Proofs.YtgcapoejieolnaaGreatDoor
namespace Rows

/-- THE TIED CARD OF 'viramalaw12.DfaCompiles'. -/
def dfaCompilesCard : Claim7 := { stood := { row := dfaCompilesRow, standIns := [], harness := (true, "cfe7dbfe74b74f423a55fdcc6d176dc186990a0f036efc200534521fb123468f"), looks := true }, kinds := [], alts := [], laidByText := true, laidKinds := [.sentinel, .sentinel, .data, .sentinel, .sentinel], laidTests := true, laidLooks := .later }
def DfaCompilesCardSaid : Prop := Claim7.holds Tryz.pinned (.plain (OpenSpec.ofChange dfaCompilesSpec)) dfaCompilesCard

/-- THE TIED CARD OF 'viramalaw12.DfaGoes'. -/
def dfaGoesCard : Claim7 := { stood := { row := dfaGoesRow, standIns := [], harness := (true, "cfe7dbfe74b74f423a55fdcc6d176dc186990a0f036efc200534521fb123468f"), looks := true }, kinds := [], alts := [], laidByText := true, laidKinds := [.sentinel, .sentinel, .data, .sentinel, .sentinel], laidTests := true, laidLooks := .later }
def DfaGoesCardSaid : Prop := Claim7.holds Tryz.pinned (.plain (OpenSpec.ofChange dfaGoesSpec)) dfaGoesCard

/-- THE TIED CARD OF 'viramalaw12.DfaBehind'. -/
def dfaBehindCard : Claim7 := { stood := { row := dfaBehindRow, standIns := [], harness := (true, "cfe7dbfe74b74f423a55fdcc6d176dc186990a0f036efc200534521fb123468f"), looks := true }, kinds := [], alts := [], laidByText := true, laidKinds := [.sentinel, .sentinel, .data, .sentinel, .sentinel], laidTests := true, laidLooks := .later }
def DfaBehindCardSaid : Prop := Claim7.holds Tryz.pinned (.plain (OpenSpec.ofChange dfaBehindSpec)) dfaBehindCard

/-- THE TIED CARD OF 'viramalaw12.DfaReached'. -/
def dfaReachedCard : Claim7 := { stood := { row := dfaReachedRow, standIns := [], harness := (true, "cfe7dbfe74b74f423a55fdcc6d176dc186990a0f036efc200534521fb123468f"), looks := true }, kinds := [], alts := [], laidByText := true, laidKinds := [.sentinel, .sentinel, .data, .sentinel, .sentinel], laidTests := true, laidLooks := .later }
def DfaReachedCardSaid : Prop := Claim7.holds Tryz.pinned (.plain (OpenSpec.ofChange dfaReachedSpec)) dfaReachedCard

/-- THE TIED CARD OF 'viramalaw13.SegCuts'. -/
def segCutsCard : Claim7 := { stood := { row := segCutsRow, standIns := [], harness := (true, "cfe7dbfe74b74f423a55fdcc6d176dc186990a0f036efc200534521fb123468f"), looks := true }, kinds := [], alts := [], laidByText := true, laidKinds := [.sentinel, .sentinel, .sentinel, .sentinel, .sentinel], laidTests := true, laidLooks := .later }
def SegCutsCardSaid : Prop := Claim7.holds Tryz.pinned (.plain (OpenSpec.ofChange segCutsSpec)) segCutsCard

/-- THE SECOND FORM's CARD OF 'viramalaw12.DfaCompiles'. -/
def dfaCompilesUptoCard : Claim7 := { stood := { row := dfaCompilesUptoRow, standIns := [], harness := (true, "cfe7dbfe74b74f423a55fdcc6d176dc186990a0f036efc200534521fb123468f"), looks := true }, kinds := [], alts := [], laidByText := true, laidKinds := [.sentinel, .sentinel, .data, .sentinel, .sentinel], laidTests := true, laidLooks := .later }
def DfaCompilesUptoCardSaid : Prop := Claim7.holds Tryz.pinned (.plain (OpenSpec.upto dfaCompilesSpec)) dfaCompilesUptoCard

/-- THE SECOND FORM's CARD OF 'viramalaw12.DfaGoes'. -/
def dfaGoesUptoCard : Claim7 := { stood := { row := dfaGoesUptoRow, standIns := [], harness := (true, "cfe7dbfe74b74f423a55fdcc6d176dc186990a0f036efc200534521fb123468f"), looks := true }, kinds := [], alts := [], laidByText := true, laidKinds := [.sentinel, .sentinel, .data, .sentinel, .sentinel], laidTests := true, laidLooks := .later }
def DfaGoesUptoCardSaid : Prop := Claim7.holds Tryz.pinned (.plain (OpenSpec.upto dfaGoesSpec)) dfaGoesUptoCard

/-- THE SECOND FORM's CARD OF 'viramalaw12.DfaBehind'. -/
def dfaBehindUptoCard : Claim7 := { stood := { row := dfaBehindUptoRow, standIns := [], harness := (true, "cfe7dbfe74b74f423a55fdcc6d176dc186990a0f036efc200534521fb123468f"), looks := true }, kinds := [], alts := [], laidByText := true, laidKinds := [.sentinel, .sentinel, .data, .sentinel, .sentinel], laidTests := true, laidLooks := .later }
def DfaBehindUptoCardSaid : Prop := Claim7.holds Tryz.pinned (.plain (OpenSpec.upto dfaBehindSpec)) dfaBehindUptoCard

/-- THE SECOND FORM's CARD OF 'viramalaw12.DfaReached'. -/
def dfaReachedUptoCard : Claim7 := { stood := { row := dfaReachedUptoRow, standIns := [], harness := (true, "cfe7dbfe74b74f423a55fdcc6d176dc186990a0f036efc200534521fb123468f"), looks := true }, kinds := [], alts := [], laidByText := true, laidKinds := [.sentinel, .sentinel, .data, .sentinel, .sentinel], laidTests := true, laidLooks := .later }
def DfaReachedUptoCardSaid : Prop := Claim7.holds Tryz.pinned (.plain (OpenSpec.upto dfaReachedSpec)) dfaReachedUptoCard

/-- THE SECOND FORM's CARD OF 'viramalaw13.SegCuts'. -/
def segCutsUptoCard : Claim7 := { stood := { row := segCutsUptoRow, standIns := [], harness := (true, "cfe7dbfe74b74f423a55fdcc6d176dc186990a0f036efc200534521fb123468f"), looks := true }, kinds := [], alts := [], laidByText := true, laidKinds := [.sentinel, .sentinel, .sentinel, .sentinel, .sentinel], laidTests := true, laidLooks := .later }
def SegCutsUptoCardSaid : Prop := Claim7.holds Tryz.pinned (.plain (OpenSpec.upto segCutsSpec)) segCutsUptoCard
end Rows
end Go.Proofs.YtgcapoejieolnaaGreatDoor
