/-
  DERIVED. GIVEN WITH THE SEED: THE CARDS: each row of YtnmhdcbpbaanoaaGreatDoorRows.lean that lists a variable, with what it lists TIED to the program's text (the seventh form; the later family's looks); each row that meets fmt, with fmt's text TOLD by the authors' own Lean function (tested against real Go, not proved from fmt's source: count such statements apart). THE CARD IS WHAT COUNTS. Prove the row's statement (the work); the ties are given (YtnmhdcbpbaanoaaGreatDoorTie.lean); close each card by the builder's one call (the guide's Derived/Test/ToyasCard.lean, 'card_holds'). Laid BY PROGRAM, IN A SANDBOX (cutbox-door.mjs). By AI agents, Wed Nov 11 2026. No macro, syntax, notation, axiom, sorry.
-/
import Derived.Test.YtnmhdcbpbaanoaaGreatDoorRows
import GoSem.ClaimSeven
namespace Go.Proofs.YtnmhdcbpbaanoaaGreatDoor
namespace Rows

/-- THE TIED CARD OF 'viramalaw11.RuleCuts'. -/
def ruleCutsCard : Claim7 := { stood := { row := ruleCutsRow, standIns := [], harness := (true, "00409d07e8eba433e0269f2654560af744ca8adc5343224a3eb6bfee54dff3b4"), looks := true }, kinds := [], alts := [], laidByText := true, laidKinds := [.data, .handle, .sentinel, .sentinel, .pinned], laidTests := true, laidLooks := .later }
def RuleCutsCardSaid : Prop := Claim7.holds Tryz.pinned (.plain (OpenSpec.ofChange ruleCutsSpec)) ruleCutsCard

/-- THE TIED CARD OF 'viramalaw11.RuleTexts'. -/
def ruleTextsCard : Claim7 := { stood := { row := ruleTextsRow, standIns := [], harness := (true, "00409d07e8eba433e0269f2654560af744ca8adc5343224a3eb6bfee54dff3b4"), looks := true }, kinds := [], alts := [], laidByText := true, laidKinds := [.data, .handle, .sentinel, .sentinel, .pinned], laidTests := true, laidLooks := .later }
def RuleTextsCardSaid : Prop := Claim7.holds Tryz.pinned (.plain (OpenSpec.ofChange ruleTextsSpec)) ruleTextsCard

/-- THE TIED CARD OF 'viramalaw11.RuleBack'. -/
def ruleBackCard : Claim7 := { stood := { row := ruleBackRow, standIns := [], harness := (true, "00409d07e8eba433e0269f2654560af744ca8adc5343224a3eb6bfee54dff3b4"), looks := true }, kinds := [], alts := [], laidByText := true, laidKinds := [.data, .handle, .sentinel, .sentinel, .pinned], laidTests := true, laidLooks := .later }
def RuleBackCardSaid : Prop := Claim7.holds Tryz.pinned (.plain (OpenSpec.ofChange ruleBackSpec)) ruleBackCard

/-- THE TIED CARD OF 'viramalaw11.RuleFirst'. -/
def ruleFirstCard : Claim7 := { stood := { row := ruleFirstRow, standIns := [], harness := (true, "00409d07e8eba433e0269f2654560af744ca8adc5343224a3eb6bfee54dff3b4"), looks := true }, kinds := [], alts := [], laidByText := true, laidKinds := [.data, .handle, .sentinel, .sentinel, .pinned], laidTests := true, laidLooks := .later }
def RuleFirstCardSaid : Prop := Claim7.holds Tryz.pinned (.plain (OpenSpec.ofChange ruleFirstSpec)) ruleFirstCard

/-- THE TIED CARD OF 'viramalaw11.RuleSides'. -/
def ruleSidesCard : Claim7 := { stood := { row := ruleSidesRow, standIns := [], harness := (true, "00409d07e8eba433e0269f2654560af744ca8adc5343224a3eb6bfee54dff3b4"), looks := true }, kinds := [], alts := [], laidByText := true, laidKinds := [.data, .handle, .sentinel, .sentinel, .pinned], laidTests := true, laidLooks := .later }
def RuleSidesCardSaid : Prop := Claim7.holds Tryz.pinned (.plain (OpenSpec.ofChange ruleSidesSpec)) ruleSidesCard

/-- THE TIED CARD OF 'viramalaw11.RuleMore'. -/
def ruleMoreCard : Claim7 := { stood := { row := ruleMoreRow, standIns := [], harness := (true, "00409d07e8eba433e0269f2654560af744ca8adc5343224a3eb6bfee54dff3b4"), looks := true }, kinds := [], alts := [], laidByText := true, laidKinds := [.data, .handle, .sentinel, .sentinel, .pinned], laidTests := true, laidLooks := .later }
def RuleMoreCardSaid : Prop := Claim7.holds Tryz.pinned (.plain (OpenSpec.ofChange ruleMoreSpec)) ruleMoreCard

/-- THE TIED CARD OF 'viramalaw11.RuleTurned'. -/
def ruleTurnedCard : Claim7 := { stood := { row := ruleTurnedRow, standIns := [], harness := (true, "00409d07e8eba433e0269f2654560af744ca8adc5343224a3eb6bfee54dff3b4"), looks := true }, kinds := [], alts := [], laidByText := true, laidKinds := [.data, .handle, .sentinel, .sentinel, .pinned], laidTests := true, laidLooks := .later }
def RuleTurnedCardSaid : Prop := Claim7.holds Tryz.pinned (.plain (OpenSpec.ofChange ruleTurnedSpec)) ruleTurnedCard

/-- THE TIED CARD OF 'viramalaw11.RuleTwice'. -/
def ruleTwiceCard : Claim7 := { stood := { row := ruleTwiceRow, standIns := [], harness := (true, "00409d07e8eba433e0269f2654560af744ca8adc5343224a3eb6bfee54dff3b4"), looks := true }, kinds := [], alts := [], laidByText := true, laidKinds := [.data, .handle, .sentinel, .sentinel, .pinned], laidTests := true, laidLooks := .later }
def RuleTwiceCardSaid : Prop := Claim7.holds Tryz.pinned (.plain (OpenSpec.ofChange ruleTwiceSpec)) ruleTwiceCard

/-- THE SECOND FORM's CARD OF 'viramalaw11.RuleCuts'. -/
def ruleCutsUptoCard : Claim7 := { stood := { row := ruleCutsUptoRow, standIns := [], harness := (true, "00409d07e8eba433e0269f2654560af744ca8adc5343224a3eb6bfee54dff3b4"), looks := true }, kinds := [], alts := [], laidByText := true, laidKinds := [.data, .handle, .sentinel, .sentinel, .pinned], laidTests := true, laidLooks := .later }
def RuleCutsUptoCardSaid : Prop := Claim7.holds Tryz.pinned (.plain (OpenSpec.upto ruleCutsSpec)) ruleCutsUptoCard

/-- THE SECOND FORM's CARD OF 'viramalaw11.RuleTexts'. -/
def ruleTextsUptoCard : Claim7 := { stood := { row := ruleTextsUptoRow, standIns := [], harness := (true, "00409d07e8eba433e0269f2654560af744ca8adc5343224a3eb6bfee54dff3b4"), looks := true }, kinds := [], alts := [], laidByText := true, laidKinds := [.data, .handle, .sentinel, .sentinel, .pinned], laidTests := true, laidLooks := .later }
def RuleTextsUptoCardSaid : Prop := Claim7.holds Tryz.pinned (.plain (OpenSpec.upto ruleTextsSpec)) ruleTextsUptoCard

/-- THE SECOND FORM's CARD OF 'viramalaw11.RuleBack'. -/
def ruleBackUptoCard : Claim7 := { stood := { row := ruleBackUptoRow, standIns := [], harness := (true, "00409d07e8eba433e0269f2654560af744ca8adc5343224a3eb6bfee54dff3b4"), looks := true }, kinds := [], alts := [], laidByText := true, laidKinds := [.data, .handle, .sentinel, .sentinel, .pinned], laidTests := true, laidLooks := .later }
def RuleBackUptoCardSaid : Prop := Claim7.holds Tryz.pinned (.plain (OpenSpec.upto ruleBackSpec)) ruleBackUptoCard

/-- THE SECOND FORM's CARD OF 'viramalaw11.RuleFirst'. -/
def ruleFirstUptoCard : Claim7 := { stood := { row := ruleFirstUptoRow, standIns := [], harness := (true, "00409d07e8eba433e0269f2654560af744ca8adc5343224a3eb6bfee54dff3b4"), looks := true }, kinds := [], alts := [], laidByText := true, laidKinds := [.data, .handle, .sentinel, .sentinel, .pinned], laidTests := true, laidLooks := .later }
def RuleFirstUptoCardSaid : Prop := Claim7.holds Tryz.pinned (.plain (OpenSpec.upto ruleFirstSpec)) ruleFirstUptoCard

/-- THE SECOND FORM's CARD OF 'viramalaw11.RuleSides'. -/
def ruleSidesUptoCard : Claim7 := { stood := { row := ruleSidesUptoRow, standIns := [], harness := (true, "00409d07e8eba433e0269f2654560af744ca8adc5343224a3eb6bfee54dff3b4"), looks := true }, kinds := [], alts := [], laidByText := true, laidKinds := [.data, .handle, .sentinel, .sentinel, .pinned], laidTests := true, laidLooks := .later }
def RuleSidesUptoCardSaid : Prop := Claim7.holds Tryz.pinned (.plain (OpenSpec.upto ruleSidesSpec)) ruleSidesUptoCard

/-- THE SECOND FORM's CARD OF 'viramalaw11.RuleMore'. -/
def ruleMoreUptoCard : Claim7 := { stood := { row := ruleMoreUptoRow, standIns := [], harness := (true, "00409d07e8eba433e0269f2654560af744ca8adc5343224a3eb6bfee54dff3b4"), looks := true }, kinds := [], alts := [], laidByText := true, laidKinds := [.data, .handle, .sentinel, .sentinel, .pinned], laidTests := true, laidLooks := .later }
def RuleMoreUptoCardSaid : Prop := Claim7.holds Tryz.pinned (.plain (OpenSpec.upto ruleMoreSpec)) ruleMoreUptoCard

/-- THE SECOND FORM's CARD OF 'viramalaw11.RuleTurned'. -/
def ruleTurnedUptoCard : Claim7 := { stood := { row := ruleTurnedUptoRow, standIns := [], harness := (true, "00409d07e8eba433e0269f2654560af744ca8adc5343224a3eb6bfee54dff3b4"), looks := true }, kinds := [], alts := [], laidByText := true, laidKinds := [.data, .handle, .sentinel, .sentinel, .pinned], laidTests := true, laidLooks := .later }
def RuleTurnedUptoCardSaid : Prop := Claim7.holds Tryz.pinned (.plain (OpenSpec.upto ruleTurnedSpec)) ruleTurnedUptoCard

/-- THE SECOND FORM's CARD OF 'viramalaw11.RuleTwice'. -/
def ruleTwiceUptoCard : Claim7 := { stood := { row := ruleTwiceUptoRow, standIns := [], harness := (true, "00409d07e8eba433e0269f2654560af744ca8adc5343224a3eb6bfee54dff3b4"), looks := true }, kinds := [], alts := [], laidByText := true, laidKinds := [.data, .handle, .sentinel, .sentinel, .pinned], laidTests := true, laidLooks := .later }
def RuleTwiceUptoCardSaid : Prop := Claim7.holds Tryz.pinned (.plain (OpenSpec.upto ruleTwiceSpec)) ruleTwiceUptoCard
end Rows
end Go.Proofs.YtnmhdcbpbaanoaaGreatDoor
