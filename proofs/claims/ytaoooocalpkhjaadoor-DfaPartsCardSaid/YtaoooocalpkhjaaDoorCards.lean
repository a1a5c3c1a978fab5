/-
  DERIVED. GIVEN WITH THE SEED: THE CARDS: each row of YtaoooocalpkhjaaDoorRows.lean that lists a variable, with what it lists TIED to the program's text (the seventh form; the later family's looks); each row that meets fmt, with fmt's text TOLD by the authors' own Lean function (tested against real Go, not proved from fmt's source: count such statements apart). THE CARD IS WHAT COUNTS. Prove the row's statement (the work); the ties are given (YtaoooocalpkhjaaDoorTie.lean); close each card by the builder's one call (the guide's Derived/Test/ToyasCard.lean, 'card_holds'). Laid BY PROGRAM, IN A SANDBOX (cutbox-door.mjs). By AI agents, Wed Nov 11 2026. No macro, syntax, notation, axiom, sorry.
-/
import Derived.Test.YtaoooocalpkhjaaDoorRows
import GoSem.ClaimSeven
namespace Go.Proofs.YtaoooocalpkhjaaDoor
namespace Rows

/-- THE TIED CARD OF 'viramalaw12.DfaParts'. -/
def dfaPartsCard : Claim7 := { stood := { row := dfaPartsRow, standIns := [], harness := (true, "421e924375fec607a269b8f796f4eb8147753932a8669b033332d4869134a13a"), looks := true }, kinds := [], alts := [], laidByText := true, laidKinds := [.sentinel, .sentinel, .data, .sentinel, .sentinel], laidTests := true, laidLooks := .later }
def DfaPartsCardSaid : Prop := Claim7.holds Tryd.pinned (.plain (OpenSpec.ofChange dfaPartsSpec)) dfaPartsCard

/-- THE TIED CARD OF 'viramalaw12.DfaLefts'. -/
def dfaLeftsCard : Claim7 := { stood := { row := dfaLeftsRow, standIns := [], harness := (true, "421e924375fec607a269b8f796f4eb8147753932a8669b033332d4869134a13a"), looks := true }, kinds := [], alts := [], laidByText := true, laidKinds := [.sentinel, .sentinel, .data, .sentinel, .sentinel], laidTests := true, laidLooks := .later }
def DfaLeftsCardSaid : Prop := Claim7.holds Tryd.pinned (.plain (OpenSpec.ofChange dfaLeftsSpec)) dfaLeftsCard

/-- THE TIED CARD OF 'viramalaw12.DfaTwice'. -/
def dfaTwiceCard : Claim7 := { stood := { row := dfaTwiceRow, standIns := [], harness := (true, "421e924375fec607a269b8f796f4eb8147753932a8669b033332d4869134a13a"), looks := true }, kinds := [], alts := [], laidByText := true, laidKinds := [.sentinel, .sentinel, .data, .sentinel, .sentinel], laidTests := true, laidLooks := .later }
def DfaTwiceCardSaid : Prop := Claim7.holds Tryd.pinned (.plain (OpenSpec.ofChange dfaTwiceSpec)) dfaTwiceCard

/-- THE TIED CARD OF 'viramalaw13.SegSteps'. -/
def segStepsCard : Claim7 := { stood := { row := segStepsRow, standIns := [], harness := (true, "421e924375fec607a269b8f796f4eb8147753932a8669b033332d4869134a13a"), looks := true }, kinds := [], alts := [], laidByText := true, laidKinds := [.sentinel, .sentinel, .sentinel, .sentinel, .sentinel], laidTests := true, laidLooks := .later }
def SegStepsCardSaid : Prop := Claim7.holds Tryd.pinned (.plain (OpenSpec.ofChange segStepsSpec)) segStepsCard

/-- THE TIED CARD OF 'viramalaw13.SegAll'. -/
def segAllCard : Claim7 := { stood := { row := segAllRow, standIns := [], harness := (true, "421e924375fec607a269b8f796f4eb8147753932a8669b033332d4869134a13a"), looks := true }, kinds := [], alts := [], laidByText := true, laidKinds := [.sentinel, .sentinel, .sentinel, .sentinel, .sentinel], laidTests := true, laidLooks := .later }
def SegAllCardSaid : Prop := Claim7.holds Tryd.pinned (.plain (OpenSpec.ofChange segAllSpec)) segAllCard

/-- THE TIED CARD OF 'viramalaw13.SegShifts'. -/
def segShiftsCard : Claim7 := { stood := { row := segShiftsRow, standIns := [], harness := (true, "421e924375fec607a269b8f796f4eb8147753932a8669b033332d4869134a13a"), looks := true }, kinds := [], alts := [], laidByText := true, laidKinds := [.sentinel, .sentinel, .sentinel, .sentinel, .sentinel], laidTests := true, laidLooks := .later }
def SegShiftsCardSaid : Prop := Claim7.holds Tryd.pinned (.plain (OpenSpec.ofChange segShiftsSpec)) segShiftsCard

/-- THE SECOND FORM's CARD OF 'viramalaw12.DfaParts'. -/
def dfaPartsUptoCard : Claim7 := { stood := { row := dfaPartsUptoRow, standIns := [], harness := (true, "421e924375fec607a269b8f796f4eb8147753932a8669b033332d4869134a13a"), looks := true }, kinds := [], alts := [], laidByText := true, laidKinds := [.sentinel, .sentinel, .data, .sentinel, .sentinel], laidTests := true, laidLooks := .later }
def DfaPartsUptoCardSaid : Prop := Claim7.holds Tryd.pinned (.plain (OpenSpec.upto dfaPartsSpec)) dfaPartsUptoCard

/-- THE SECOND FORM's CARD OF 'viramalaw12.DfaLefts'. -/
def dfaLeftsUptoCard : Claim7 := { stood := { row := dfaLeftsUptoRow, standIns := [], harness := (true, "421e924375fec607a269b8f796f4eb8147753932a8669b033332d4869134a13a"), looks := true }, kinds := [], alts := [], laidByText := true, laidKinds := [.sentinel, .sentinel, .data, .sentinel, .sentinel], laidTests := true, laidLooks := .later }
def DfaLeftsUptoCardSaid : Prop := Claim7.holds Tryd.pinned (.plain (OpenSpec.upto dfaLeftsSpec)) dfaLeftsUptoCard

/-- THE SECOND FORM's CARD OF 'viramalaw12.DfaTwice'. -/
def dfaTwiceUptoCard : Claim7 := { stood := { row := dfaTwiceUptoRow, standIns := [], harness := (true, "421e924375fec607a269b8f796f4eb8147753932a8669b033332d4869134a13a"), looks := true }, kinds := [], alts := [], laidByText := true, laidKinds := [.sentinel, .sentinel, .data, .sentinel, .sentinel], laidTests := true, laidLooks := .later }
def DfaTwiceUptoCardSaid : Prop := Claim7.holds Tryd.pinned (.plain (OpenSpec.upto dfaTwiceSpec)) dfaTwiceUptoCard

/-- THE SECOND FORM's CARD OF 'viramalaw13.SegSteps'. -/
def segStepsUptoCard : Claim7 := { stood := { row := segStepsUptoRow, standIns := [], harness := (true, "421e924375fec607a269b8f796f4eb8147753932a8669b033332d4869134a13a"), looks := true }, kinds := [], alts := [], laidByText := true, laidKinds := [.sentinel, .sentinel, .sentinel, .sentinel, .sentinel], laidTests := true, laidLooks := .later }
def SegStepsUptoCardSaid : Prop := Claim7.holds Tryd.pinned (.plain (OpenSpec.upto segStepsSpec)) segStepsUptoCard

/-- THE SECOND FORM's CARD OF 'viramalaw13.SegAll'. -/
def segAllUptoCard : Claim7 := { stood := { row := segAllUptoRow, standIns := [], harness := (true, "421e924375fec607a269b8f796f4eb8147753932a8669b033332d4869134a13a"), looks := true }, kinds := [], alts := [], laidByText := true, laidKinds := [.sentinel, .sentinel, .sentinel, .sentinel, .sentinel], laidTests := true, laidLooks := .later }
def SegAllUptoCardSaid : Prop := Claim7.holds Tryd.pinned (.plain (OpenSpec.upto segAllSpec)) segAllUptoCard

/-- THE SECOND FORM's CARD OF 'viramalaw13.SegShifts'. -/
def segShiftsUptoCard : Claim7 := { stood := { row := segShiftsUptoRow, standIns := [], harness := (true, "421e924375fec607a269b8f796f4eb8147753932a8669b033332d4869134a13a"), looks := true }, kinds := [], alts := [], laidByText := true, laidKinds := [.sentinel, .sentinel, .sentinel, .sentinel, .sentinel], laidTests := true, laidLooks := .later }
def SegShiftsUptoCardSaid : Prop := Claim7.holds Tryd.pinned (.plain (OpenSpec.upto segShiftsSpec)) segShiftsUptoCard
end Rows
end Go.Proofs.YtaoooocalpkhjaaDoor
