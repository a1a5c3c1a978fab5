/-
  DERIVED. GIVEN WITH THE SEED: THE CARDS: each row of YtaoooocalpkhjaaGreatDoorRows.lean that lists a variable, with what it lists TIED to the program's text (the seventh form; the later family's looks); each row that meets fmt, with fmt's text TOLD by the authors' own Lean function (tested against real Go, not proved from fmt's source: count such statements apart). THE CARD IS WHAT COUNTS. Prove the row's statement (the work); the ties are given (YtaoooocalpkhjaaGreatDoorTie.lean); close each card by the builder's one call (the guide's Derived/Test/ToyasCard.lean, 'card_holds'). Laid BY PROGRAM, IN A SANDBOX (cutbox-door.mjs). By AI agents, Wed Nov 11 2026. No macro, syntax, notation, axiom, sorry.
-/
import Derived.Test.YtaoooocalpkhjaaGreatDoorRows
import GoSem.ClaimSeven
namespace Go.Proofs.YtaoooocalpkhjaaGreatDoor
namespace Rows

/-- THE TIED CARD OF 'viramalaw12.DfaCompiles'. -/
def dfaCompilesCard : Claim7 := { stood := { row := dfaCompilesRow, standIns := [], harness := (true, "056325695ceefa65bcd612a9433516bfadf91dc89f02ed90aa96b00d3bae12ce"), looks := true }, kinds := [], alts := [], laidByText := true, laidKinds := [.sentinel, .sentinel, .data, .sentinel, .sentinel], laidTests := true, laidLooks := .later }
def DfaCompilesCardSaid : Prop := Claim7.holds Tryz.pinned (.plain (OpenSpec.ofChange dfaCompilesSpec)) dfaCompilesCard

/-- THE TIED CARD OF 'viramalaw12.DfaGoes'. -/
def dfaGoesCard : Claim7 := { stood := { row := dfaGoesRow, standIns := [], harness := (true, "056325695ceefa65bcd612a9433516bfadf91dc89f02ed90aa96b00d3bae12ce"), looks := true }, kinds := [], alts := [], laidByText := true, laidKinds := [.sentinel, .sentinel, .data, .sentinel, .sentinel], laidTests := true, laidLooks := .later }
def DfaGoesCardSaid : Prop := Claim7.holds Tryz.pinned (.plain (OpenSpec.ofChange dfaGoesSpec)) dfaGoesCard

/-- THE TIED CARD OF 'viramalaw13.SegCuts'. -/
def segCutsCard : Claim7 := { stood := { row := segCutsRow, standIns := [], harness := (true, "056325695ceefa65bcd612a9433516bfadf91dc89f02ed90aa96b00d3bae12ce"), looks := true }, kinds := [], alts := [], laidByText := true, laidKinds := [.sentinel, .sentinel, .sentinel, .sentinel, .sentinel], laidTests := true, laidLooks := .later }
def SegCutsCardSaid : Prop := Claim7.holds Tryz.pinned (.plain (OpenSpec.ofChange segCutsSpec)) segCutsCard

/-- THE TIED CARD OF 'viramalaw13.SegTells'. -/
def segTellsCard : Claim7 := { stood := { row := segTellsRow, standIns := [], harness := (true, "056325695ceefa65bcd612a9433516bfadf91dc89f02ed90aa96b00d3bae12ce"), looks := true }, kinds := [], alts := [], laidByText := true, laidKinds := [.sentinel, .sentinel, .sentinel, .sentinel, .sentinel], laidTests := true, laidLooks := .later }
def SegTellsCardSaid : Prop := Claim7.holds Tryz.pinned (.plain (OpenSpec.ofChange segTellsSpec)) segTellsCard

/-- THE TIED CARD OF 'viramalaw13.SegRules'. -/
def segRulesCard : Claim7 := { stood := { row := segRulesRow, standIns := [], harness := (true, "056325695ceefa65bcd612a9433516bfadf91dc89f02ed90aa96b00d3bae12ce"), looks := true }, kinds := [], alts := [], laidByText := true, laidKinds := [.handle, .sentinel, .sentinel, .data, .sentinel, .sentinel, .sentinel, .sentinel, .sentinel], laidTests := true, laidLooks := .later }
def SegRulesCardSaid : Prop := Claim7.holds Tryz.pinned (.plain (OpenSpec.ofChange segRulesSpec)) segRulesCard

/-- THE TIED CARD OF 'viramalaw13.SegBreaks'. -/
def segBreaksCard : Claim7 := { stood := { row := segBreaksRow, standIns := [], harness := (true, "056325695ceefa65bcd612a9433516bfadf91dc89f02ed90aa96b00d3bae12ce"), looks := true }, kinds := [], alts := [], laidByText := true, laidKinds := [.sentinel, .sentinel, .sentinel, .sentinel, .sentinel], laidTests := true, laidLooks := .later }
def SegBreaksCardSaid : Prop := Claim7.holds Tryz.pinned (.plain (OpenSpec.ofChange segBreaksSpec)) segBreaksCard

/-- THE SECOND FORM's CARD OF 'viramalaw12.DfaCompiles'. -/
def dfaCompilesUptoCard : Claim7 := { stood := { row := dfaCompilesUptoRow, standIns := [], harness := (true, "056325695ceefa65bcd612a9433516bfadf91dc89f02ed90aa96b00d3bae12ce"), looks := true }, kinds := [], alts := [], laidByText := true, laidKinds := [.sentinel, .sentinel, .data, .sentinel, .sentinel], laidTests := true, laidLooks := .later }
def DfaCompilesUptoCardSaid : Prop := Claim7.holds Tryz.pinned (.plain (OpenSpec.upto dfaCompilesSpec)) dfaCompilesUptoCard

/-- THE SECOND FORM's CARD OF 'viramalaw12.DfaGoes'. -/
def dfaGoesUptoCard : Claim7 := { stood := { row := dfaGoesUptoRow, standIns := [], harness := (true, "056325695ceefa65bcd612a9433516bfadf91dc89f02ed90aa96b00d3bae12ce"), looks := true }, kinds := [], alts := [], laidByText := true, laidKinds := [.sentinel, .sentinel, .data, .sentinel, .sentinel], laidTests := true, laidLooks := .later }
def DfaGoesUptoCardSaid : Prop := Claim7.holds Tryz.pinned (.plain (OpenSpec.upto dfaGoesSpec)) dfaGoesUptoCard

/-- THE SECOND FORM's CARD OF 'viramalaw13.SegCuts'. -/
def segCutsUptoCard : Claim7 := { stood := { row := segCutsUptoRow, standIns := [], harness := (true, "056325695ceefa65bcd612a9433516bfadf91dc89f02ed90aa96b00d3bae12ce"), looks := true }, kinds := [], alts := [], laidByText := true, laidKinds := [.sentinel, .sentinel, .sentinel, .sentinel, .sentinel], laidTests := true, laidLooks := .later }
def SegCutsUptoCardSaid : Prop := Claim7.holds Tryz.pinned (.plain (OpenSpec.upto segCutsSpec)) segCutsUptoCard

/-- THE SECOND FORM's CARD OF 'viramalaw13.SegTells'. -/
def segTellsUptoCard : Claim7 := { stood := { row := segTellsUptoRow, standIns := [], harness := (true, "056325695ceefa65bcd612a9433516bfadf91dc89f02ed90aa96b00d3bae12ce"), looks := true }, kinds := [], alts := [], laidByText := true, laidKinds := [.sentinel, .sentinel, .sentinel, .sentinel, .sentinel], laidTests := true, laidLooks := .later }
def SegTellsUptoCardSaid : Prop := Claim7.holds Tryz.pinned (.plain (OpenSpec.upto segTellsSpec)) segTellsUptoCard

/-- THE SECOND FORM's CARD OF 'viramalaw13.SegRules'. -/
def segRulesUptoCard : Claim7 := { stood := { row := segRulesUptoRow, standIns := [], harness := (true, "056325695ceefa65bcd612a9433516bfadf91dc89f02ed90aa96b00d3bae12ce"), looks := true }, kinds := [], alts := [], laidByText := true, laidKinds := [.handle, .sentinel, .sentinel, .data, .sentinel, .sentinel, .sentinel, .sentinel, .sentinel], laidTests := true, laidLooks := .later }
def SegRulesUptoCardSaid : Prop := Claim7.holds Tryz.pinned (.plain (OpenSpec.upto segRulesSpec)) segRulesUptoCard

/-- THE SECOND FORM's CARD OF 'viramalaw13.SegBreaks'. -/
def segBreaksUptoCard : Claim7 := { stood := { row := segBreaksUptoRow, standIns := [], harness := (true, "056325695ceefa65bcd612a9433516bfadf91dc89f02ed90aa96b00d3bae12ce"), looks := true }, kinds := [], alts := [], laidByText := true, laidKinds := [.sentinel, .sentinel, .sentinel, .sentinel, .sentinel], laidTests := true, laidLooks := .later }
def SegBreaksUptoCardSaid : Prop := Claim7.holds Tryz.pinned (.plain (OpenSpec.upto segBreaksSpec)) segBreaksUptoCard
end Rows
end Go.Proofs.YtaoooocalpkhjaaGreatDoor
