/-
  DERIVED. GIVEN WITH THE SEED: THE CARDS: each row of YtnpbbmoknlbfaaaGreatDoorRows.lean that lists a variable, with what it lists TIED to the program's text (the seventh form; the later family's looks); each row that meets fmt, with fmt's text TOLD by the authors' own Lean function (tested against real Go, not proved from fmt's source: count such statements apart). THE CARD IS WHAT COUNTS. Prove the row's statement (the work); the ties are given (YtnpbbmoknlbfaaaGreatDoorTie.lean); close each card by the builder's one call (the guide's Derived/Test/ToyasCard.lean, 'card_holds'). Laid BY PROGRAM, IN A SANDBOX (cutbox-door.mjs). By AI agents, Wed Nov 11 2026. No macro, syntax, notation, axiom, sorry.
-/
import Derived.Test.YtnpbbmoknlbfaaaGreatDoorRows
import GoSem.ClaimSeven
namespace Go.Proofs.YtnpbbmoknlbfaaaGreatDoor
namespace Rows

/-- THE TIED CARD OF 'viramalaw08.ClassTells'. -/
def classTellsCard : Claim7 := { stood := { row := classTellsRow, standIns := [], harness := (true, "3a4d47ef727357d21ec3816ee991cafd517b68240163779e22006d72e9b76e58"), looks := true }, kinds := [], alts := [], laidByText := true, laidKinds := [.data, .data, .data, .data, .handle, .pinned], laidTests := true, laidLooks := .later }
def ClassTellsCardSaid : Prop := Claim7.holds Tryz.pinned (.plain (OpenSpec.ofChange classTellsSpec)) classTellsCard

/-- THE TIED CARD OF 'viramalaw08.ClassTexts'. -/
def classTextsCard : Claim7 := { stood := { row := classTextsRow, standIns := [], harness := (true, "3a4d47ef727357d21ec3816ee991cafd517b68240163779e22006d72e9b76e58"), looks := true }, kinds := [], alts := [], laidByText := true, laidKinds := [.data, .data, .data, .data, .handle, .pinned], laidTests := true, laidLooks := .later }
def ClassTextsCardSaid : Prop := Claim7.holds Tryz.pinned (.plain (OpenSpec.ofChange classTextsSpec)) classTextsCard

/-- THE TIED CARD OF 'viramalaw08.ClassBack'. -/
def classBackCard : Claim7 := { stood := { row := classBackRow, standIns := [], harness := (true, "3a4d47ef727357d21ec3816ee991cafd517b68240163779e22006d72e9b76e58"), looks := true }, kinds := [], alts := [], laidByText := true, laidKinds := [.data, .data, .data, .data, .handle, .pinned], laidTests := true, laidLooks := .later }
def ClassBackCardSaid : Prop := Claim7.holds Tryz.pinned (.plain (OpenSpec.ofChange classBackSpec)) classBackCard

/-- THE TIED CARD OF 'viramalaw08.ClassNots'. -/
def classNotsCard : Claim7 := { stood := { row := classNotsRow, standIns := [], harness := (true, "3a4d47ef727357d21ec3816ee991cafd517b68240163779e22006d72e9b76e58"), looks := true }, kinds := [], alts := [], laidByText := true, laidKinds := [.data, .data, .data, .data, .handle, .pinned], laidTests := true, laidLooks := .later }
def ClassNotsCardSaid : Prop := Claim7.holds Tryz.pinned (.plain (OpenSpec.ofChange classNotsSpec)) classNotsCard

/-- THE TIED CARD OF 'viramalaw08.ClassSets'. -/
def classSetsCard : Claim7 := { stood := { row := classSetsRow, standIns := [], harness := (true, "3a4d47ef727357d21ec3816ee991cafd517b68240163779e22006d72e9b76e58"), looks := true }, kinds := [], alts := [], laidByText := true, laidKinds := [.data, .data, .data, .data, .handle, .pinned], laidTests := true, laidLooks := .later }
def ClassSetsCardSaid : Prop := Claim7.holds Tryz.pinned (.plain (OpenSpec.ofChange classSetsSpec)) classSetsCard

/-- THE TIED CARD OF 'viramalaw08.ClassUnions'. -/
def classUnionsCard : Claim7 := { stood := { row := classUnionsRow, standIns := [], harness := (true, "3a4d47ef727357d21ec3816ee991cafd517b68240163779e22006d72e9b76e58"), looks := true }, kinds := [], alts := [], laidByText := true, laidKinds := [.data, .data, .data, .data, .handle, .pinned], laidTests := true, laidLooks := .later }
def ClassUnionsCardSaid : Prop := Claim7.holds Tryz.pinned (.plain (OpenSpec.ofChange classUnionsSpec)) classUnionsCard

/-- THE TIED CARD OF 'viramalaw08.ClassOthers'. -/
def classOthersCard : Claim7 := { stood := { row := classOthersRow, standIns := [], harness := (true, "3a4d47ef727357d21ec3816ee991cafd517b68240163779e22006d72e9b76e58"), looks := true }, kinds := [], alts := [], laidByText := true, laidKinds := [.data, .data, .data, .data, .handle, .pinned], laidTests := true, laidLooks := .later }
def ClassOthersCardSaid : Prop := Claim7.holds Tryz.pinned (.plain (OpenSpec.ofChange classOthersSpec)) classOthersCard

/-- THE TIED CARD OF 'viramalaw09.PatternFits'. -/
def patternFitsCard : Claim7 := { stood := { row := patternFitsRow, standIns := [], harness := (true, "3a4d47ef727357d21ec3816ee991cafd517b68240163779e22006d72e9b76e58"), looks := true }, kinds := [], alts := [], laidByText := true, laidKinds := [.data, .handle, .sentinel, .sentinel, .pinned], laidTests := true, laidLooks := .later }
def PatternFitsCardSaid : Prop := Claim7.holds Tryz.pinned (.plain (OpenSpec.ofChange patternFitsSpec)) patternFitsCard

/-- THE TIED CARD OF 'viramalaw09.PatternTexts'. -/
def patternTextsCard : Claim7 := { stood := { row := patternTextsRow, standIns := [], harness := (true, "3a4d47ef727357d21ec3816ee991cafd517b68240163779e22006d72e9b76e58"), looks := true }, kinds := [], alts := [], laidByText := true, laidKinds := [.data, .handle, .sentinel, .sentinel, .pinned], laidTests := true, laidLooks := .later }
def PatternTextsCardSaid : Prop := Claim7.holds Tryz.pinned (.plain (OpenSpec.ofChange patternTextsSpec)) patternTextsCard

/-- THE TIED CARD OF 'viramalaw09.PatternBack'. -/
def patternBackCard : Claim7 := { stood := { row := patternBackRow, standIns := [], harness := (true, "3a4d47ef727357d21ec3816ee991cafd517b68240163779e22006d72e9b76e58"), looks := true }, kinds := [], alts := [], laidByText := true, laidKinds := [.data, .handle, .sentinel, .sentinel, .pinned], laidTests := true, laidLooks := .later }
def PatternBackCardSaid : Prop := Claim7.holds Tryz.pinned (.plain (OpenSpec.ofChange patternBackSpec)) patternBackCard

/-- THE TIED CARD OF 'viramalaw09.PatternWhole'. -/
def patternWholeCard : Claim7 := { stood := { row := patternWholeRow, standIns := [], harness := (true, "3a4d47ef727357d21ec3816ee991cafd517b68240163779e22006d72e9b76e58"), looks := true }, kinds := [], alts := [], laidByText := true, laidKinds := [.data, .handle, .sentinel, .sentinel, .pinned], laidTests := true, laidLooks := .later }
def PatternWholeCardSaid : Prop := Claim7.holds Tryz.pinned (.plain (OpenSpec.ofChange patternWholeSpec)) patternWholeCard

/-- THE TIED CARD OF 'viramalaw09.PatternJoins'. -/
def patternJoinsCard : Claim7 := { stood := { row := patternJoinsRow, standIns := [], harness := (true, "3a4d47ef727357d21ec3816ee991cafd517b68240163779e22006d72e9b76e58"), looks := true }, kinds := [], alts := [], laidByText := true, laidKinds := [.data, .handle, .sentinel, .sentinel, .pinned], laidTests := true, laidLooks := .later }
def PatternJoinsCardSaid : Prop := Claim7.holds Tryz.pinned (.plain (OpenSpec.ofChange patternJoinsSpec)) patternJoinsCard

/-- THE TIED CARD OF 'viramalaw09.PatternWider'. -/
def patternWiderCard : Claim7 := { stood := { row := patternWiderRow, standIns := [], harness := (true, "3a4d47ef727357d21ec3816ee991cafd517b68240163779e22006d72e9b76e58"), looks := true }, kinds := [], alts := [], laidByText := true, laidKinds := [.data, .handle, .sentinel, .sentinel, .pinned], laidTests := true, laidLooks := .later }
def PatternWiderCardSaid : Prop := Claim7.holds Tryz.pinned (.plain (OpenSpec.ofChange patternWiderSpec)) patternWiderCard

/-- THE TIED CARD OF 'viramalaw09.PatternItem'. -/
def patternItemCard : Claim7 := { stood := { row := patternItemRow, standIns := [], harness := (true, "3a4d47ef727357d21ec3816ee991cafd517b68240163779e22006d72e9b76e58"), looks := true }, kinds := [], alts := [], laidByText := true, laidKinds := [.data, .handle, .sentinel, .sentinel, .pinned], laidTests := true, laidLooks := .later }
def PatternItemCardSaid : Prop := Claim7.holds Tryz.pinned (.plain (OpenSpec.ofChange patternItemSpec)) patternItemCard

/-- THE SECOND FORM's CARD OF 'viramalaw08.ClassTells'. -/
def classTellsUptoCard : Claim7 := { stood := { row := classTellsUptoRow, standIns := [], harness := (true, "3a4d47ef727357d21ec3816ee991cafd517b68240163779e22006d72e9b76e58"), looks := true }, kinds := [], alts := [], laidByText := true, laidKinds := [.data, .data, .data, .data, .handle, .pinned], laidTests := true, laidLooks := .later }
def ClassTellsUptoCardSaid : Prop := Claim7.holds Tryz.pinned (.plain (OpenSpec.upto classTellsSpec)) classTellsUptoCard

/-- THE SECOND FORM's CARD OF 'viramalaw08.ClassTexts'. -/
def classTextsUptoCard : Claim7 := { stood := { row := classTextsUptoRow, standIns := [], harness := (true, "3a4d47ef727357d21ec3816ee991cafd517b68240163779e22006d72e9b76e58"), looks := true }, kinds := [], alts := [], laidByText := true, laidKinds := [.data, .data, .data, .data, .handle, .pinned], laidTests := true, laidLooks := .later }
def ClassTextsUptoCardSaid : Prop := Claim7.holds Tryz.pinned (.plain (OpenSpec.upto classTextsSpec)) classTextsUptoCard

/-- THE SECOND FORM's CARD OF 'viramalaw08.ClassBack'. -/
def classBackUptoCard : Claim7 := { stood := { row := classBackUptoRow, standIns := [], harness := (true, "3a4d47ef727357d21ec3816ee991cafd517b68240163779e22006d72e9b76e58"), looks := true }, kinds := [], alts := [], laidByText := true, laidKinds := [.data, .data, .data, .data, .handle, .pinned], laidTests := true, laidLooks := .later }
def ClassBackUptoCardSaid : Prop := Claim7.holds Tryz.pinned (.plain (OpenSpec.upto classBackSpec)) classBackUptoCard

/-- THE SECOND FORM's CARD OF 'viramalaw08.ClassNots'. -/
def classNotsUptoCard : Claim7 := { stood := { row := classNotsUptoRow, standIns := [], harness := (true, "3a4d47ef727357d21ec3816ee991cafd517b68240163779e22006d72e9b76e58"), looks := true }, kinds := [], alts := [], laidByText := true, laidKinds := [.data, .data, .data, .data, .handle, .pinned], laidTests := true, laidLooks := .later }
def ClassNotsUptoCardSaid : Prop := Claim7.holds Tryz.pinned (.plain (OpenSpec.upto classNotsSpec)) classNotsUptoCard

/-- THE SECOND FORM's CARD OF 'viramalaw08.ClassSets'. -/
def classSetsUptoCard : Claim7 := { stood := { row := classSetsUptoRow, standIns := [], harness := (true, "3a4d47ef727357d21ec3816ee991cafd517b68240163779e22006d72e9b76e58"), looks := true }, kinds := [], alts := [], laidByText := true, laidKinds := [.data, .data, .data, .data, .handle, .pinned], laidTests := true, laidLooks := .later }
def ClassSetsUptoCardSaid : Prop := Claim7.holds Tryz.pinned (.plain (OpenSpec.upto classSetsSpec)) classSetsUptoCard

/-- THE SECOND FORM's CARD OF 'viramalaw08.ClassUnions'. -/
def classUnionsUptoCard : Claim7 := { stood := { row := classUnionsUptoRow, standIns := [], harness := (true, "3a4d47ef727357d21ec3816ee991cafd517b68240163779e22006d72e9b76e58"), looks := true }, kinds := [], alts := [], laidByText := true, laidKinds := [.data, .data, .data, .data, .handle, .pinned], laidTests := true, laidLooks := .later }
def ClassUnionsUptoCardSaid : Prop := Claim7.holds Tryz.pinned (.plain (OpenSpec.upto classUnionsSpec)) classUnionsUptoCard

/-- THE SECOND FORM's CARD OF 'viramalaw08.ClassOthers'. -/
def classOthersUptoCard : Claim7 := { stood := { row := classOthersUptoRow, standIns := [], harness := (true, "3a4d47ef727357d21ec3816ee991cafd517b68240163779e22006d72e9b76e58"), looks := true }, kinds := [], alts := [], laidByText := true, laidKinds := [.data, .data, .data, .data, .handle, .pinned], laidTests := true, laidLooks := .later }
def ClassOthersUptoCardSaid : Prop := Claim7.holds Tryz.pinned (.plain (OpenSpec.upto classOthersSpec)) classOthersUptoCard

/-- THE SECOND FORM's CARD OF 'viramalaw09.PatternFits'. -/
def patternFitsUptoCard : Claim7 := { stood := { row := patternFitsUptoRow, standIns := [], harness := (true, "3a4d47ef727357d21ec3816ee991cafd517b68240163779e22006d72e9b76e58"), looks := true }, kinds := [], alts := [], laidByText := true, laidKinds := [.data, .handle, .sentinel, .sentinel, .pinned], laidTests := true, laidLooks := .later }
def PatternFitsUptoCardSaid : Prop := Claim7.holds Tryz.pinned (.plain (OpenSpec.upto patternFitsSpec)) patternFitsUptoCard

/-- THE SECOND FORM's CARD OF 'viramalaw09.PatternTexts'. -/
def patternTextsUptoCard : Claim7 := { stood := { row := patternTextsUptoRow, standIns := [], harness := (true, "3a4d47ef727357d21ec3816ee991cafd517b68240163779e22006d72e9b76e58"), looks := true }, kinds := [], alts := [], laidByText := true, laidKinds := [.data, .handle, .sentinel, .sentinel, .pinned], laidTests := true, laidLooks := .later }
def PatternTextsUptoCardSaid : Prop := Claim7.holds Tryz.pinned (.plain (OpenSpec.upto patternTextsSpec)) patternTextsUptoCard

/-- THE SECOND FORM's CARD OF 'viramalaw09.PatternBack'. -/
def patternBackUptoCard : Claim7 := { stood := { row := patternBackUptoRow, standIns := [], harness := (true, "3a4d47ef727357d21ec3816ee991cafd517b68240163779e22006d72e9b76e58"), looks := true }, kinds := [], alts := [], laidByText := true, laidKinds := [.data, .handle, .sentinel, .sentinel, .pinned], laidTests := true, laidLooks := .later }
def PatternBackUptoCardSaid : Prop := Claim7.holds Tryz.pinned (.plain (OpenSpec.upto patternBackSpec)) patternBackUptoCard

/-- THE SECOND FORM's CARD OF 'viramalaw09.PatternWhole'. -/
def patternWholeUptoCard : Claim7 := { stood := { row := patternWholeUptoRow, standIns := [], harness := (true, "3a4d47ef727357d21ec3816ee991cafd517b68240163779e22006d72e9b76e58"), looks := true }, kinds := [], alts := [], laidByText := true, laidKinds := [.data, .handle, .sentinel, .sentinel, .pinned], laidTests := true, laidLooks := .later }
def PatternWholeUptoCardSaid : Prop := Claim7.holds Tryz.pinned (.plain (OpenSpec.upto patternWholeSpec)) patternWholeUptoCard

/-- THE SECOND FORM's CARD OF 'viramalaw09.PatternJoins'. -/
def patternJoinsUptoCard : Claim7 := { stood := { row := patternJoinsUptoRow, standIns := [], harness := (true, "3a4d47ef727357d21ec3816ee991cafd517b68240163779e22006d72e9b76e58"), looks := true }, kinds := [], alts := [], laidByText := true, laidKinds := [.data, .handle, .sentinel, .sentinel, .pinned], laidTests := true, laidLooks := .later }
def PatternJoinsUptoCardSaid : Prop := Claim7.holds Tryz.pinned (.plain (OpenSpec.upto patternJoinsSpec)) patternJoinsUptoCard

/-- THE SECOND FORM's CARD OF 'viramalaw09.PatternWider'. -/
def patternWiderUptoCard : Claim7 := { stood := { row := patternWiderUptoRow, standIns := [], harness := (true, "3a4d47ef727357d21ec3816ee991cafd517b68240163779e22006d72e9b76e58"), looks := true }, kinds := [], alts := [], laidByText := true, laidKinds := [.data, .handle, .sentinel, .sentinel, .pinned], laidTests := true, laidLooks := .later }
def PatternWiderUptoCardSaid : Prop := Claim7.holds Tryz.pinned (.plain (OpenSpec.upto patternWiderSpec)) patternWiderUptoCard

/-- THE SECOND FORM's CARD OF 'viramalaw09.PatternItem'. -/
def patternItemUptoCard : Claim7 := { stood := { row := patternItemUptoRow, standIns := [], harness := (true, "3a4d47ef727357d21ec3816ee991cafd517b68240163779e22006d72e9b76e58"), looks := true }, kinds := [], alts := [], laidByText := true, laidKinds := [.data, .handle, .sentinel, .sentinel, .pinned], laidTests := true, laidLooks := .later }
def PatternItemUptoCardSaid : Prop := Claim7.holds Tryz.pinned (.plain (OpenSpec.upto patternItemSpec)) patternItemUptoCard
end Rows
end Go.Proofs.YtnpbbmoknlbfaaaGreatDoor
