/-
  DERIVED. GIVEN WITH THE SEED: THE CARDS: each row of YtjacebnlikhjnaaDoorRows.lean that lists a variable, with what it lists TIED to the program's text (the seventh form; the later family's looks); each row that meets fmt, with fmt's text TOLD by the authors' own Lean function (tested against real Go, not proved from fmt's source: count such statements apart). THE CARD IS WHAT COUNTS. Prove the row's statement (the work); the ties are given (YtjacebnlikhjnaaDoorTie.lean); close each card by the builder's one call (the guide's Derived/Test/ToyasCard.lean, 'card_holds'). Laid BY PROGRAM, IN A SANDBOX (cutbox-door.mjs). By AI agents, Wed Nov 11 2026. No macro, syntax, notation, axiom, sorry.
-/
import Derived.Test.YtjacebnlikhjnaaDoorRows
import GoSem.ClaimSeven
namespace Go.Proofs.YtjacebnlikhjnaaDoor
namespace Rows

/-- THE TIED CARD OF 'viramalaw10.NfaSteps'. -/
def nfaStepsCard : Claim7 := { stood := { row := nfaStepsRow, standIns := [], harness := (true, "e852baadf32c5aa4781772e2663232d1ceab50ba170258e5f48efdd50fcc70f5"), looks := true }, kinds := [], alts := [], laidByText := true, laidKinds := [.sentinel, .sentinel, .data], laidTests := true, laidLooks := .later }
def NfaStepsCardSaid : Prop := Claim7.holds Tryd.pinned (.plain (OpenSpec.ofChange nfaStepsSpec)) nfaStepsCard

/-- THE TIED CARD OF 'viramalaw10.NfaRuns'. -/
def nfaRunsCard : Claim7 := { stood := { row := nfaRunsRow, standIns := [], harness := (true, "e852baadf32c5aa4781772e2663232d1ceab50ba170258e5f48efdd50fcc70f5"), looks := true }, kinds := [], alts := [], laidByText := true, laidKinds := [.sentinel, .sentinel, .data], laidTests := true, laidLooks := .later }
def NfaRunsCardSaid : Prop := Claim7.holds Tryd.pinned (.plain (OpenSpec.ofChange nfaRunsSpec)) nfaRunsCard

/-- THE TIED CARD OF 'viramalaw10.NfaBehind'. -/
def nfaBehindCard : Claim7 := { stood := { row := nfaBehindRow, standIns := [], harness := (true, "e852baadf32c5aa4781772e2663232d1ceab50ba170258e5f48efdd50fcc70f5"), looks := true }, kinds := [], alts := [], laidByText := true, laidKinds := [.sentinel, .sentinel, .data], laidTests := true, laidLooks := .later }
def NfaBehindCardSaid : Prop := Claim7.holds Tryd.pinned (.plain (OpenSpec.ofChange nfaBehindSpec)) nfaBehindCard

/-- THE TIED CARD OF 'viramalaw10.NfaParts'. -/
def nfaPartsCard : Claim7 := { stood := { row := nfaPartsRow, standIns := [], harness := (true, "e852baadf32c5aa4781772e2663232d1ceab50ba170258e5f48efdd50fcc70f5"), looks := true }, kinds := [], alts := [], laidByText := true, laidKinds := [.sentinel, .sentinel, .data], laidTests := true, laidLooks := .later }
def NfaPartsCardSaid : Prop := Claim7.holds Tryd.pinned (.plain (OpenSpec.ofChange nfaPartsSpec)) nfaPartsCard

/-- THE TIED CARD OF 'viramalaw10.NfaWithin'. -/
def nfaWithinCard : Claim7 := { stood := { row := nfaWithinRow, standIns := [], harness := (true, "e852baadf32c5aa4781772e2663232d1ceab50ba170258e5f48efdd50fcc70f5"), looks := true }, kinds := [], alts := [], laidByText := true, laidKinds := [.sentinel, .sentinel, .data], laidTests := true, laidLooks := .later }
def NfaWithinCardSaid : Prop := Claim7.holds Tryd.pinned (.plain (OpenSpec.ofChange nfaWithinSpec)) nfaWithinCard

/-- THE SECOND FORM's CARD OF 'viramalaw10.NfaSteps'. -/
def nfaStepsUptoCard : Claim7 := { stood := { row := nfaStepsUptoRow, standIns := [], harness := (true, "e852baadf32c5aa4781772e2663232d1ceab50ba170258e5f48efdd50fcc70f5"), looks := true }, kinds := [], alts := [], laidByText := true, laidKinds := [.sentinel, .sentinel, .data], laidTests := true, laidLooks := .later }
def NfaStepsUptoCardSaid : Prop := Claim7.holds Tryd.pinned (.plain (OpenSpec.upto nfaStepsSpec)) nfaStepsUptoCard

/-- THE SECOND FORM's CARD OF 'viramalaw10.NfaRuns'. -/
def nfaRunsUptoCard : Claim7 := { stood := { row := nfaRunsUptoRow, standIns := [], harness := (true, "e852baadf32c5aa4781772e2663232d1ceab50ba170258e5f48efdd50fcc70f5"), looks := true }, kinds := [], alts := [], laidByText := true, laidKinds := [.sentinel, .sentinel, .data], laidTests := true, laidLooks := .later }
def NfaRunsUptoCardSaid : Prop := Claim7.holds Tryd.pinned (.plain (OpenSpec.upto nfaRunsSpec)) nfaRunsUptoCard

/-- THE SECOND FORM's CARD OF 'viramalaw10.NfaBehind'. -/
def nfaBehindUptoCard : Claim7 := { stood := { row := nfaBehindUptoRow, standIns := [], harness := (true, "e852baadf32c5aa4781772e2663232d1ceab50ba170258e5f48efdd50fcc70f5"), looks := true }, kinds := [], alts := [], laidByText := true, laidKinds := [.sentinel, .sentinel, .data], laidTests := true, laidLooks := .later }
def NfaBehindUptoCardSaid : Prop := Claim7.holds Tryd.pinned (.plain (OpenSpec.upto nfaBehindSpec)) nfaBehindUptoCard

/-- THE SECOND FORM's CARD OF 'viramalaw10.NfaParts'. -/
def nfaPartsUptoCard : Claim7 := { stood := { row := nfaPartsUptoRow, standIns := [], harness := (true, "e852baadf32c5aa4781772e2663232d1ceab50ba170258e5f48efdd50fcc70f5"), looks := true }, kinds := [], alts := [], laidByText := true, laidKinds := [.sentinel, .sentinel, .data], laidTests := true, laidLooks := .later }
def NfaPartsUptoCardSaid : Prop := Claim7.holds Tryd.pinned (.plain (OpenSpec.upto nfaPartsSpec)) nfaPartsUptoCard

/-- THE SECOND FORM's CARD OF 'viramalaw10.NfaWithin'. -/
def nfaWithinUptoCard : Claim7 := { stood := { row := nfaWithinUptoRow, standIns := [], harness := (true, "e852baadf32c5aa4781772e2663232d1ceab50ba170258e5f48efdd50fcc70f5"), looks := true }, kinds := [], alts := [], laidByText := true, laidKinds := [.sentinel, .sentinel, .data], laidTests := true, laidLooks := .later }
def NfaWithinUptoCardSaid : Prop := Claim7.holds Tryd.pinned (.plain (OpenSpec.upto nfaWithinSpec)) nfaWithinUptoCard
end Rows
end Go.Proofs.YtjacebnlikhjnaaDoor
