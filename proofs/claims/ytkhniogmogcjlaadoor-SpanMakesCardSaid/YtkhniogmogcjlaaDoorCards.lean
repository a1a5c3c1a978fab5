/-
  DERIVED. GIVEN WITH THE SEED: THE CARDS: each row of YtkhniogmogcjlaaDoorRows.lean that lists a variable, with what it lists TIED to the program's text (the seventh form; the later family's looks); each row that meets fmt, with fmt's text TOLD by the authors' own Lean function (tested against real Go, not proved from fmt's source: count such statements apart). THE CARD IS WHAT COUNTS. Prove the row's statement (the work); the ties are given (YtkhniogmogcjlaaDoorTie.lean); close each card by the builder's one call (the guide's Derived/Test/ToyasCard.lean, 'card_holds'). Laid BY PROGRAM, IN A SANDBOX (cutbox-door.mjs). By AI agents, Wed Nov 11 2026. No macro, syntax, notation, axiom, sorry.
-/
import Derived.Test.YtkhniogmogcjlaaDoorRows
import GoSem.ClaimSeven
namespace Go.Proofs.YtkhniogmogcjlaaDoor
namespace Rows

/-- THE TIED CARD OF 'viramalaw04.SpanTells'. -/
def spanTellsCard : Claim7 := { stood := { row := spanTellsRow, standIns := [], harness := (true, "da05d254fb21e853743930c5c5a90597e2f20279e8e95e2c90f183fc0a9ee9e0"), looks := true }, kinds := [], alts := [], laidByText := true, laidKinds := [.handle], laidTests := true, laidLooks := .later }
def SpanTellsCardSaid : Prop := Claim7.holds Tryd.pinned (.plain (OpenSpec.ofChange spanTellsSpec)) spanTellsCard

/-- THE TIED CARD OF 'viramalaw04.SpanMakes'. -/
def spanMakesCard : Claim7 := { stood := { row := spanMakesRow, standIns := [], harness := (true, "da05d254fb21e853743930c5c5a90597e2f20279e8e95e2c90f183fc0a9ee9e0"), looks := true }, kinds := [], alts := [], laidByText := true, laidKinds := [.handle], laidTests := true, laidLooks := .later }
def SpanMakesCardSaid : Prop := Claim7.holds Tryd.pinned (.plain (OpenSpec.ofChange spanMakesSpec)) spanMakesCard

/-- THE TIED CARD OF 'viramalaw04.SpanSays'. -/
def spanSaysCard : Claim7 := { stood := { row := spanSaysRow, standIns := [], harness := (true, "da05d254fb21e853743930c5c5a90597e2f20279e8e95e2c90f183fc0a9ee9e0"), looks := true }, kinds := [], alts := [], laidByText := true, laidKinds := [.handle], laidTests := true, laidLooks := .later }
def SpanSaysCardSaid : Prop := Claim7.holds Tryd.pinned (.plain (OpenSpec.ofChange spanSaysSpec)) spanSaysCard

/-- THE TIED CARD OF 'viramalaw04.SpanOnce'. -/
def spanOnceCard : Claim7 := { stood := { row := spanOnceRow, standIns := [], harness := (true, "da05d254fb21e853743930c5c5a90597e2f20279e8e95e2c90f183fc0a9ee9e0"), looks := true }, kinds := [], alts := [], laidByText := true, laidKinds := [.handle], laidTests := true, laidLooks := .later }
def SpanOnceCardSaid : Prop := Claim7.holds Tryd.pinned (.plain (OpenSpec.ofChange spanOnceSpec)) spanOnceCard

/-- THE TIED CARD OF 'viramalaw04.SpanTurns'. -/
def spanTurnsCard : Claim7 := { stood := { row := spanTurnsRow, standIns := [], harness := (true, "da05d254fb21e853743930c5c5a90597e2f20279e8e95e2c90f183fc0a9ee9e0"), looks := true }, kinds := [], alts := [], laidByText := true, laidKinds := [.handle], laidTests := true, laidLooks := .later }
def SpanTurnsCardSaid : Prop := Claim7.holds Tryd.pinned (.plain (OpenSpec.ofChange spanTurnsSpec)) spanTurnsCard

/-- THE TIED CARD OF 'viramalaw04.SpanThree'. -/
def spanThreeCard : Claim7 := { stood := { row := spanThreeRow, standIns := [], harness := (true, "da05d254fb21e853743930c5c5a90597e2f20279e8e95e2c90f183fc0a9ee9e0"), looks := true }, kinds := [], alts := [], laidByText := true, laidKinds := [.handle], laidTests := true, laidLooks := .later }
def SpanThreeCardSaid : Prop := Claim7.holds Tryd.pinned (.plain (OpenSpec.ofChange spanThreeSpec)) spanThreeCard

/-- THE TIED CARD OF 'viramalaw04.SpanCounts'. -/
def spanCountsCard : Claim7 := { stood := { row := spanCountsRow, standIns := [], harness := (true, "da05d254fb21e853743930c5c5a90597e2f20279e8e95e2c90f183fc0a9ee9e0"), looks := true }, kinds := [], alts := [], laidByText := true, laidKinds := [.handle], laidTests := true, laidLooks := .later }
def SpanCountsCardSaid : Prop := Claim7.holds Tryd.pinned (.plain (OpenSpec.ofChange spanCountsSpec)) spanCountsCard

/-- THE SECOND FORM's CARD OF 'viramalaw04.SpanTells'. -/
def spanTellsUptoCard : Claim7 := { stood := { row := spanTellsUptoRow, standIns := [], harness := (true, "da05d254fb21e853743930c5c5a90597e2f20279e8e95e2c90f183fc0a9ee9e0"), looks := true }, kinds := [], alts := [], laidByText := true, laidKinds := [.handle], laidTests := true, laidLooks := .later }
def SpanTellsUptoCardSaid : Prop := Claim7.holds Tryd.pinned (.plain (OpenSpec.upto spanTellsSpec)) spanTellsUptoCard

/-- THE SECOND FORM's CARD OF 'viramalaw04.SpanMakes'. -/
def spanMakesUptoCard : Claim7 := { stood := { row := spanMakesUptoRow, standIns := [], harness := (true, "da05d254fb21e853743930c5c5a90597e2f20279e8e95e2c90f183fc0a9ee9e0"), looks := true }, kinds := [], alts := [], laidByText := true, laidKinds := [.handle], laidTests := true, laidLooks := .later }
def SpanMakesUptoCardSaid : Prop := Claim7.holds Tryd.pinned (.plain (OpenSpec.upto spanMakesSpec)) spanMakesUptoCard

/-- THE SECOND FORM's CARD OF 'viramalaw04.SpanSays'. -/
def spanSaysUptoCard : Claim7 := { stood := { row := spanSaysUptoRow, standIns := [], harness := (true, "da05d254fb21e853743930c5c5a90597e2f20279e8e95e2c90f183fc0a9ee9e0"), looks := true }, kinds := [], alts := [], laidByText := true, laidKinds := [.handle], laidTests := true, laidLooks := .later }
def SpanSaysUptoCardSaid : Prop := Claim7.holds Tryd.pinned (.plain (OpenSpec.upto spanSaysSpec)) spanSaysUptoCard

/-- THE SECOND FORM's CARD OF 'viramalaw04.SpanOnce'. -/
def spanOnceUptoCard : Claim7 := { stood := { row := spanOnceUptoRow, standIns := [], harness := (true, "da05d254fb21e853743930c5c5a90597e2f20279e8e95e2c90f183fc0a9ee9e0"), looks := true }, kinds := [], alts := [], laidByText := true, laidKinds := [.handle], laidTests := true, laidLooks := .later }
def SpanOnceUptoCardSaid : Prop := Claim7.holds Tryd.pinned (.plain (OpenSpec.upto spanOnceSpec)) spanOnceUptoCard

/-- THE SECOND FORM's CARD OF 'viramalaw04.SpanTurns'. -/
def spanTurnsUptoCard : Claim7 := { stood := { row := spanTurnsUptoRow, standIns := [], harness := (true, "da05d254fb21e853743930c5c5a90597e2f20279e8e95e2c90f183fc0a9ee9e0"), looks := true }, kinds := [], alts := [], laidByText := true, laidKinds := [.handle], laidTests := true, laidLooks := .later }
def SpanTurnsUptoCardSaid : Prop := Claim7.holds Tryd.pinned (.plain (OpenSpec.upto spanTurnsSpec)) spanTurnsUptoCard

/-- THE SECOND FORM's CARD OF 'viramalaw04.SpanThree'. -/
def spanThreeUptoCard : Claim7 := { stood := { row := spanThreeUptoRow, standIns := [], harness := (true, "da05d254fb21e853743930c5c5a90597e2f20279e8e95e2c90f183fc0a9ee9e0"), looks := true }, kinds := [], alts := [], laidByText := true, laidKinds := [.handle], laidTests := true, laidLooks := .later }
def SpanThreeUptoCardSaid : Prop := Claim7.holds Tryd.pinned (.plain (OpenSpec.upto spanThreeSpec)) spanThreeUptoCard

/-- THE SECOND FORM's CARD OF 'viramalaw04.SpanCounts'. -/
def spanCountsUptoCard : Claim7 := { stood := { row := spanCountsUptoRow, standIns := [], harness := (true, "da05d254fb21e853743930c5c5a90597e2f20279e8e95e2c90f183fc0a9ee9e0"), looks := true }, kinds := [], alts := [], laidByText := true, laidKinds := [.handle], laidTests := true, laidLooks := .later }
def SpanCountsUptoCardSaid : Prop := Claim7.holds Tryd.pinned (.plain (OpenSpec.upto spanCountsSpec)) spanCountsUptoCard
end Rows
end Go.Proofs.YtkhniogmogcjlaaDoor
