/-
  DERIVED. GIVEN WITH THE SEED: THE CARDS: each row of YtcgljfmknggdoaaGreatDoorRows.lean that lists a variable, with what it lists TIED to the program's text (the seventh form; the later family's looks); each row that meets fmt, with fmt's text TOLD by the authors' own Lean function (tested against real Go, not proved from fmt's source: count such statements apart). THE CARD IS WHAT COUNTS. Prove the row's statement (the work); the ties are given (YtcgljfmknggdoaaGreatDoorTie.lean); close each card by the builder's one call (the guide's Derived/Test/ToyasCard.lean, 'card_holds'). Laid BY PROGRAM, IN A SANDBOX (cutbox-door.mjs). By AI agents, Wed Nov 11 2026. No macro, syntax, notation, axiom, sorry.
-/
import Derived.Test.YtcgljfmknggdoaaGreatDoorRows
import GoSem.ClaimSeven
namespace Go.Proofs.YtcgljfmknggdoaaGreatDoor
namespace Rows

/-- THE TIED CARD OF 'viramalaw09.PatternFits'. -/
def patternFitsCard : Claim7 := { stood := { row := patternFitsRow, standIns := [], harness := (true, "cabbec88b982b0e3d36ddf720e58a744314933b7413fb68d9e581ee4c017225d"), looks := true }, kinds := [], alts := [], laidByText := true, laidKinds := [.data, .handle, .sentinel, .sentinel, .pinned], laidTests := true, laidLooks := .later }
def PatternFitsCardSaid : Prop := Claim7.holds Tryz.pinned (.plain (OpenSpec.ofChange patternFitsSpec)) patternFitsCard

/-- THE TIED CARD OF 'viramalaw09.PatternTexts'. -/
def patternTextsCard : Claim7 := { stood := { row := patternTextsRow, standIns := [], harness := (true, "cabbec88b982b0e3d36ddf720e58a744314933b7413fb68d9e581ee4c017225d"), looks := true }, kinds := [], alts := [], laidByText := true, laidKinds := [.data, .handle, .sentinel, .sentinel, .pinned], laidTests := true, laidLooks := .later }
def PatternTextsCardSaid : Prop := Claim7.holds Tryz.pinned (.plain (OpenSpec.ofChange patternTextsSpec)) patternTextsCard

/-- THE TIED CARD OF 'viramalaw09.PatternBack'. -/
def patternBackCard : Claim7 := { stood := { row := patternBackRow, standIns := [], harness := (true, "cabbec88b982b0e3d36ddf720e58a744314933b7413fb68d9e581ee4c017225d"), looks := true }, kinds := [], alts := [], laidByText := true, laidKinds := [.data, .handle, .sentinel, .sentinel, .pinned], laidTests := true, laidLooks := .later }
def PatternBackCardSaid : Prop := Claim7.holds Tryz.pinned (.plain (OpenSpec.ofChange patternBackSpec)) patternBackCard

/-- THE TIED CARD OF 'viramalaw09.PatternWhole'. -/
def patternWholeCard : Claim7 := { stood := { row := patternWholeRow, standIns := [], harness := (true, "cabbec88b982b0e3d36ddf720e58a744314933b7413fb68d9e581ee4c017225d"), looks := true }, kinds := [], alts := [], laidByText := true, laidKinds := [.data, .handle, .sentinel, .sentinel, .pinned], laidTests := true, laidLooks := .later }
def PatternWholeCardSaid : Prop := Claim7.holds Tryz.pinned (.plain (OpenSpec.ofChange patternWholeSpec)) patternWholeCard

/-- THE TIED CARD OF 'viramalaw09.PatternJoins'. -/
def patternJoinsCard : Claim7 := { stood := { row := patternJoinsRow, standIns := [], harness := (true, "cabbec88b982b0e3d36ddf720e58a744314933b7413fb68d9e581ee4c017225d"), looks := true }, kinds := [], alts := [], laidByText := true, laidKinds := [.data, .handle, .sentinel, .sentinel, .pinned], laidTests := true, laidLooks := .later }
def PatternJoinsCardSaid : Prop := Claim7.holds Tryz.pinned (.plain (OpenSpec.ofChange patternJoinsSpec)) patternJoinsCard

/-- THE TIED CARD OF 'viramalaw09.PatternWider'. -/
def patternWiderCard : Claim7 := { stood := { row := patternWiderRow, standIns := [], harness := (true, "cabbec88b982b0e3d36ddf720e58a744314933b7413fb68d9e581ee4c017225d"), looks := true }, kinds := [], alts := [], laidByText := true, laidKinds := [.data, .handle, .sentinel, .sentinel, .pinned], laidTests := true, laidLooks := .later }
def PatternWiderCardSaid : Prop := Claim7.holds Tryz.pinned (.plain (OpenSpec.ofChange patternWiderSpec)) patternWiderCard

/-- THE TIED CARD OF 'viramalaw09.PatternItem'. -/
def patternItemCard : Claim7 := { stood := { row := patternItemRow, standIns := [], harness := (true, "cabbec88b982b0e3d36ddf720e58a744314933b7413fb68d9e581ee4c017225d"), looks := true }, kinds := [], alts := [], laidByText := true, laidKinds := [.data, .handle, .sentinel, .sentinel, .pinned], laidTests := true, laidLooks := .later }
def PatternItemCardSaid : Prop := Claim7.holds Tryz.pinned (.plain (OpenSpec.ofChange patternItemSpec)) patternItemCard

/-- THE SECOND FORM's CARD OF 'viramalaw09.PatternFits'. -/
def patternFitsUptoCard : Claim7 := { stood := { row := patternFitsUptoRow, standIns := [], harness := (true, "cabbec88b982b0e3d36ddf720e58a744314933b7413fb68d9e581ee4c017225d"), looks := true }, kinds := [], alts := [], laidByText := true, laidKinds := [.data, .handle, .sentinel, .sentinel, .pinned], laidTests := true, laidLooks := .later }
def PatternFitsUptoCardSaid : Prop := Claim7.holds Tryz.pinned (.plain (OpenSpec.upto patternFitsSpec)) patternFitsUptoCard

/-- THE SECOND FORM's CARD OF 'viramalaw09.PatternTexts'. -/
def patternTextsUptoCard : Claim7 := { stood := { row := patternTextsUptoRow, standIns := [], harness := (true, "cabbec88b982b0e3d36ddf720e58a744314933b7413fb68d9e581ee4c017225d"), looks := true }, kinds := [], alts := [], laidByText := true, laidKinds := [.data, .handle, .sentinel, .sentinel, .pinned], laidTests := true, laidLooks := .later }
def PatternTextsUptoCardSaid : Prop := Claim7.holds Tryz.pinned (.plain (OpenSpec.upto patternTextsSpec)) patternTextsUptoCard

/-- THE SECOND FORM's CARD OF 'viramalaw09.PatternBack'. -/
def patternBackUptoCard : Claim7 := { stood := { row := patternBackUptoRow, standIns := [], harness := (true, "cabbec88b982b0e3d36ddf720e58a744314933b7413fb68d9e581ee4c017225d"), looks := true }, kinds := [], alts := [], laidByText := true, laidKinds := [.data, .handle, .sentinel, .sentinel, .pinned], laidTests := true, laidLooks := .later }
def PatternBackUptoCardSaid : Prop := Claim7.holds Tryz.pinned (.plain (OpenSpec.upto patternBackSpec)) patternBackUptoCard

/-- THE SECOND FORM's CARD OF 'viramalaw09.PatternWhole'. -/
def patternWholeUptoCard : Claim7 := { stood := { row := patternWholeUptoRow, standIns := [], harness := (true, "cabbec88b982b0e3d36ddf720e58a744314933b7413fb68d9e581ee4c017225d"), looks := true }, kinds := [], alts := [], laidByText := true, laidKinds := [.data, .handle, .sentinel, .sentinel, .pinned], laidTests := true, laidLooks := .later }
def PatternWholeUptoCardSaid : Prop := Claim7.holds Tryz.pinned (.plain (OpenSpec.upto patternWholeSpec)) patternWholeUptoCard

/-- THE SECOND FORM's CARD OF 'viramalaw09.PatternJoins'. -/
def patternJoinsUptoCard : Claim7 := { stood := { row := patternJoinsUptoRow, standIns := [], harness := (true, "cabbec88b982b0e3d36ddf720e58a744314933b7413fb68d9e581ee4c017225d"), looks := true }, kinds := [], alts := [], laidByText := true, laidKinds := [.data, .handle, .sentinel, .sentinel, .pinned], laidTests := true, laidLooks := .later }
def PatternJoinsUptoCardSaid : Prop := Claim7.holds Tryz.pinned (.plain (OpenSpec.upto patternJoinsSpec)) patternJoinsUptoCard

/-- THE SECOND FORM's CARD OF 'viramalaw09.PatternWider'. -/
def patternWiderUptoCard : Claim7 := { stood := { row := patternWiderUptoRow, standIns := [], harness := (true, "cabbec88b982b0e3d36ddf720e58a744314933b7413fb68d9e581ee4c017225d"), looks := true }, kinds := [], alts := [], laidByText := true, laidKinds := [.data, .handle, .sentinel, .sentinel, .pinned], laidTests := true, laidLooks := .later }
def PatternWiderUptoCardSaid : Prop := Claim7.holds Tryz.pinned (.plain (OpenSpec.upto patternWiderSpec)) patternWiderUptoCard

/-- THE SECOND FORM's CARD OF 'viramalaw09.PatternItem'. -/
def patternItemUptoCard : Claim7 := { stood := { row := patternItemUptoRow, standIns := [], harness := (true, "cabbec88b982b0e3d36ddf720e58a744314933b7413fb68d9e581ee4c017225d"), looks := true }, kinds := [], alts := [], laidByText := true, laidKinds := [.data, .handle, .sentinel, .sentinel, .pinned], laidTests := true, laidLooks := .later }
def PatternItemUptoCardSaid : Prop := Claim7.holds Tryz.pinned (.plain (OpenSpec.upto patternItemSpec)) patternItemUptoCard
end Rows
end Go.Proofs.YtcgljfmknggdoaaGreatDoor
