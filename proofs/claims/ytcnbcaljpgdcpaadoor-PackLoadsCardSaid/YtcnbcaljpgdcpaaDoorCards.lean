/-
  DERIVED. GIVEN WITH THE SEED: THE CARDS: each row of YtcnbcaljpgdcpaaDoorRows.lean that lists a variable, with what it lists TIED to the program's text (the seventh form; the later family's looks); each row that meets fmt, with fmt's text TOLD by the authors' own Lean function (tested against real Go, not proved from fmt's source: count such statements apart). THE CARD IS WHAT COUNTS. Prove the row's statement (the work); the ties are given (YtcnbcaljpgdcpaaDoorTie.lean); close each card by the builder's one call (the guide's Derived/Test/ToyasCard.lean, 'card_holds'). Laid BY PROGRAM, IN A SANDBOX (cutbox-door.mjs). By AI agents, Wed Nov 11 2026. No macro, syntax, notation, axiom, sorry.
-/
import Derived.Test.YtcnbcaljpgdcpaaDoorRows
import GoSem.ClaimSeven
namespace Go.Proofs.YtcnbcaljpgdcpaaDoor
namespace Rows

/-- THE TIED CARD OF 'viramalaw07.PackMakes'. -/
def packMakesCard : Claim7 := { stood := { row := packMakesRow, standIns := [], harness := (true, "d1cddedd1e2d59538708c108e52bd0e641e360a616a7a8c2b71a325c53b0e0f8"), looks := true }, kinds := [], alts := [], laidByText := true, laidKinds := [.handle], laidTests := true, laidLooks := .later }
def PackMakesCardSaid : Prop := Claim7.holds Tryd.pinned (.plain (OpenSpec.ofChange packMakesSpec)) packMakesCard

/-- THE TIED CARD OF 'viramalaw07.PackLoads'. -/
def packLoadsCard : Claim7 := { stood := { row := packLoadsRow, standIns := [], harness := (true, "d1cddedd1e2d59538708c108e52bd0e641e360a616a7a8c2b71a325c53b0e0f8"), looks := true }, kinds := [], alts := [], laidByText := true, laidKinds := [.handle], laidTests := true, laidLooks := .later }
def PackLoadsCardSaid : Prop := Claim7.holds Tryd.pinned (.plain (OpenSpec.ofChange packLoadsSpec)) packLoadsCard

/-- THE TIED CARD OF 'viramalaw07.PackBack'. -/
def packBackCard : Claim7 := { stood := { row := packBackRow, standIns := [], harness := (true, "d1cddedd1e2d59538708c108e52bd0e641e360a616a7a8c2b71a325c53b0e0f8"), looks := true }, kinds := [], alts := [], laidByText := true, laidKinds := [.handle, .sentinel, .sentinel], laidTests := true, laidLooks := .later }
def PackBackCardSaid : Prop := Claim7.holds Tryd.pinned (.plain (OpenSpec.ofChange packBackSpec)) packBackCard

/-- THE TIED CARD OF 'viramalaw07.PackWhole'. -/
def packWholeCard : Claim7 := { stood := { row := packWholeRow, standIns := [], harness := (true, "d1cddedd1e2d59538708c108e52bd0e641e360a616a7a8c2b71a325c53b0e0f8"), looks := true }, kinds := [], alts := [], laidByText := true, laidKinds := [.handle], laidTests := true, laidLooks := .later }
def PackWholeCardSaid : Prop := Claim7.holds Tryd.pinned (.plain (OpenSpec.ofChange packWholeSpec)) packWholeCard

/-- THE TIED CARD OF 'viramalaw07.PackRuns'. -/
def packRunsCard : Claim7 := { stood := { row := packRunsRow, standIns := [], harness := (true, "d1cddedd1e2d59538708c108e52bd0e641e360a616a7a8c2b71a325c53b0e0f8"), looks := true }, kinds := [], alts := [], laidByText := true, laidKinds := [.handle], laidTests := true, laidLooks := .later }
def PackRunsCardSaid : Prop := Claim7.holds Tryd.pinned (.plain (OpenSpec.ofChange packRunsSpec)) packRunsCard

/-- THE TIED CARD OF 'viramalaw07.PackByte'. -/
def packByteCard : Claim7 := { stood := { row := packByteRow, standIns := [], harness := (true, "d1cddedd1e2d59538708c108e52bd0e641e360a616a7a8c2b71a325c53b0e0f8"), looks := true }, kinds := [], alts := [], laidByText := true, laidKinds := [.handle, .sentinel, .sentinel], laidTests := true, laidLooks := .later }
def PackByteCardSaid : Prop := Claim7.holds Tryd.pinned (.plain (OpenSpec.ofChange packByteSpec)) packByteCard

/-- THE TIED CARD OF 'viramalaw07.PackSums'. -/
def packSumsCard : Claim7 := { stood := { row := packSumsRow, standIns := [], harness := (true, "d1cddedd1e2d59538708c108e52bd0e641e360a616a7a8c2b71a325c53b0e0f8"), looks := true }, kinds := [], alts := [], laidByText := true, laidKinds := [.handle], laidTests := true, laidLooks := .later }
def PackSumsCardSaid : Prop := Claim7.holds Tryd.pinned (.plain (OpenSpec.ofChange packSumsSpec)) packSumsCard

/-- THE SECOND FORM's CARD OF 'viramalaw07.PackMakes'. -/
def packMakesUptoCard : Claim7 := { stood := { row := packMakesUptoRow, standIns := [], harness := (true, "d1cddedd1e2d59538708c108e52bd0e641e360a616a7a8c2b71a325c53b0e0f8"), looks := true }, kinds := [], alts := [], laidByText := true, laidKinds := [.handle], laidTests := true, laidLooks := .later }
def PackMakesUptoCardSaid : Prop := Claim7.holds Tryd.pinned (.plain (OpenSpec.upto packMakesSpec)) packMakesUptoCard

/-- THE SECOND FORM's CARD OF 'viramalaw07.PackLoads'. -/
def packLoadsUptoCard : Claim7 := { stood := { row := packLoadsUptoRow, standIns := [], harness := (true, "d1cddedd1e2d59538708c108e52bd0e641e360a616a7a8c2b71a325c53b0e0f8"), looks := true }, kinds := [], alts := [], laidByText := true, laidKinds := [.handle], laidTests := true, laidLooks := .later }
def PackLoadsUptoCardSaid : Prop := Claim7.holds Tryd.pinned (.plain (OpenSpec.upto packLoadsSpec)) packLoadsUptoCard

/-- THE SECOND FORM's CARD OF 'viramalaw07.PackBack'. -/
def packBackUptoCard : Claim7 := { stood := { row := packBackUptoRow, standIns := [], harness := (true, "d1cddedd1e2d59538708c108e52bd0e641e360a616a7a8c2b71a325c53b0e0f8"), looks := true }, kinds := [], alts := [], laidByText := true, laidKinds := [.handle, .sentinel, .sentinel], laidTests := true, laidLooks := .later }
def PackBackUptoCardSaid : Prop := Claim7.holds Tryd.pinned (.plain (OpenSpec.upto packBackSpec)) packBackUptoCard

/-- THE SECOND FORM's CARD OF 'viramalaw07.PackWhole'. -/
def packWholeUptoCard : Claim7 := { stood := { row := packWholeUptoRow, standIns := [], harness := (true, "d1cddedd1e2d59538708c108e52bd0e641e360a616a7a8c2b71a325c53b0e0f8"), looks := true }, kinds := [], alts := [], laidByText := true, laidKinds := [.handle], laidTests := true, laidLooks := .later }
def PackWholeUptoCardSaid : Prop := Claim7.holds Tryd.pinned (.plain (OpenSpec.upto packWholeSpec)) packWholeUptoCard

/-- THE SECOND FORM's CARD OF 'viramalaw07.PackRuns'. -/
def packRunsUptoCard : Claim7 := { stood := { row := packRunsUptoRow, standIns := [], harness := (true, "d1cddedd1e2d59538708c108e52bd0e641e360a616a7a8c2b71a325c53b0e0f8"), looks := true }, kinds := [], alts := [], laidByText := true, laidKinds := [.handle], laidTests := true, laidLooks := .later }
def PackRunsUptoCardSaid : Prop := Claim7.holds Tryd.pinned (.plain (OpenSpec.upto packRunsSpec)) packRunsUptoCard

/-- THE SECOND FORM's CARD OF 'viramalaw07.PackByte'. -/
def packByteUptoCard : Claim7 := { stood := { row := packByteUptoRow, standIns := [], harness := (true, "d1cddedd1e2d59538708c108e52bd0e641e360a616a7a8c2b71a325c53b0e0f8"), looks := true }, kinds := [], alts := [], laidByText := true, laidKinds := [.handle, .sentinel, .sentinel], laidTests := true, laidLooks := .later }
def PackByteUptoCardSaid : Prop := Claim7.holds Tryd.pinned (.plain (OpenSpec.upto packByteSpec)) packByteUptoCard

/-- THE SECOND FORM's CARD OF 'viramalaw07.PackSums'. -/
def packSumsUptoCard : Claim7 := { stood := { row := packSumsUptoRow, standIns := [], harness := (true, "d1cddedd1e2d59538708c108e52bd0e641e360a616a7a8c2b71a325c53b0e0f8"), looks := true }, kinds := [], alts := [], laidByText := true, laidKinds := [.handle], laidTests := true, laidLooks := .later }
def PackSumsUptoCardSaid : Prop := Claim7.holds Tryd.pinned (.plain (OpenSpec.upto packSumsSpec)) packSumsUptoCard
end Rows
end Go.Proofs.YtcnbcaljpgdcpaaDoor
