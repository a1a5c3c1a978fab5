/-
  DERIVED. GIVEN WITH THE SEED: THE PROGRAM's TIES (one call each: nine closed facts by the kernel) AND EACH ROW's TIE, after the 31st guide's Derived/Test/Toyas{Tie, Card}.lean. No idea stands in it: it is a product of the set-up. Laid BY PROGRAM, IN A SANDBOX (cutbox-door.mjs). By AI agents, Wed Nov 11 2026. No macro, syntax, notation, axiom, sorry.
-/
import Derived.Test.YtaoooocalpkhjaaDoorRows
import Derived.LaidByTextLater
import Derived.SevenTiedAt
import Derived.LaidSub
import Derived.LaidOnce
namespace Go.Proofs.YtaoooocalpkhjaaDoor
open Go
set_option maxRecDepth 100000
theorem seatTie1 : Tryd.prog.laidByTextLater [("virama/nfa.errPattern", Rows.laid_virama_nfa_errPattern), ("virama/nfa.errStates", Rows.laid_virama_nfa_errStates), ("virama/nfa.far", Rows.laid_virama_nfa_far), ("virama/dfa.errRule", Rows.laid_virama_dfa_errRule), ("virama/dfa.errMachine", Rows.laid_virama_dfa_errMachine), ("virama/seg.errMachine", Rows.laid_virama_seg_errMachine), ("virama/seg.errCuts", Rows.laid_virama_seg_errCuts), ("virama/seg.errPlace", Rows.laid_virama_seg_errPlace)] [.sentinel, .sentinel, .data, .sentinel, .sentinel, .sentinel, .sentinel, .sentinel] true :=
  Program.laidByTextLater_by_one 147 8 4 (by kernel_rfl) (by kernel_rfl) (by kernel_rfl) (by kernel_rfl) (by kernel_rfl) (by kernel_rfl) (fun _ _ => by kernel_rfl)
theorem noOwnUnsafe : Tryd.pinned.checked.prog.headLifts.contains "ownunsafe" = false := by kernel_rfl
theorem tie : Tryd.prog.laidByTextLater [("virama/nfa.errPattern", Rows.laid_virama_nfa_errPattern), ("virama/nfa.errStates", Rows.laid_virama_nfa_errStates), ("virama/nfa.far", Rows.laid_virama_nfa_far), ("virama/dfa.errRule", Rows.laid_virama_dfa_errRule), ("virama/dfa.errMachine", Rows.laid_virama_dfa_errMachine)] [.sentinel, .sentinel, .data, .sentinel, .sentinel] true :=
  Program.laidByTextLater.sub seatTie1 ["virama/nfa.errPattern", "virama/nfa.errStates", "virama/nfa.far", "virama/dfa.errRule", "virama/dfa.errMachine"] (by kernel_rfl) (by kernel_rfl)
theorem dfaParts_row_tie : Rows.dfaPartsRow.laidByTextAt .later Tryd.pinned [.sentinel, .sentinel, .data, .sentinel, .sentinel] true :=
  OpenClaim.laidByTextAt_later rfl rfl tie noOwnUnsafe
theorem dfaLefts_row_tie : Rows.dfaLeftsRow.laidByTextAt .later Tryd.pinned [.sentinel, .sentinel, .data, .sentinel, .sentinel] true :=
  OpenClaim.laidByTextAt_later rfl rfl tie noOwnUnsafe
theorem dfaTwice_row_tie : Rows.dfaTwiceRow.laidByTextAt .later Tryd.pinned [.sentinel, .sentinel, .data, .sentinel, .sentinel] true :=
  OpenClaim.laidByTextAt_later rfl rfl tie noOwnUnsafe
theorem tie2 : Tryd.prog.laidByTextLater [("virama/dfa.errRule", Rows.laid_virama_dfa_errRule), ("virama/dfa.errMachine", Rows.laid_virama_dfa_errMachine), ("virama/seg.errMachine", Rows.laid_virama_seg_errMachine), ("virama/seg.errCuts", Rows.laid_virama_seg_errCuts), ("virama/seg.errPlace", Rows.laid_virama_seg_errPlace)] [.sentinel, .sentinel, .sentinel, .sentinel, .sentinel] true :=
  Program.laidByTextLater.sub seatTie1 ["virama/dfa.errRule", "virama/dfa.errMachine", "virama/seg.errMachine", "virama/seg.errCuts", "virama/seg.errPlace"] (by kernel_rfl) (by kernel_rfl)
theorem segSteps_row_tie : Rows.segStepsRow.laidByTextAt .later Tryd.pinned [.sentinel, .sentinel, .sentinel, .sentinel, .sentinel] true :=
  OpenClaim.laidByTextAt_later rfl rfl tie2 noOwnUnsafe
theorem segAll_row_tie : Rows.segAllRow.laidByTextAt .later Tryd.pinned [.sentinel, .sentinel, .sentinel, .sentinel, .sentinel] true :=
  OpenClaim.laidByTextAt_later rfl rfl tie2 noOwnUnsafe
theorem segShifts_row_tie : Rows.segShiftsRow.laidByTextAt .later Tryd.pinned [.sentinel, .sentinel, .sentinel, .sentinel, .sentinel] true :=
  OpenClaim.laidByTextAt_later rfl rfl tie2 noOwnUnsafe
theorem dfaPartsUpto_row_tie : Rows.dfaPartsUptoRow.laidByTextAt .later Tryd.pinned [.sentinel, .sentinel, .data, .sentinel, .sentinel] true :=
  OpenClaim.laidByTextAt_later rfl rfl tie noOwnUnsafe
theorem dfaLeftsUpto_row_tie : Rows.dfaLeftsUptoRow.laidByTextAt .later Tryd.pinned [.sentinel, .sentinel, .data, .sentinel, .sentinel] true :=
  OpenClaim.laidByTextAt_later rfl rfl tie noOwnUnsafe
theorem dfaTwiceUpto_row_tie : Rows.dfaTwiceUptoRow.laidByTextAt .later Tryd.pinned [.sentinel, .sentinel, .data, .sentinel, .sentinel] true :=
  OpenClaim.laidByTextAt_later rfl rfl tie noOwnUnsafe
theorem segStepsUpto_row_tie : Rows.segStepsUptoRow.laidByTextAt .later Tryd.pinned [.sentinel, .sentinel, .sentinel, .sentinel, .sentinel] true :=
  OpenClaim.laidByTextAt_later rfl rfl tie2 noOwnUnsafe
theorem segAllUpto_row_tie : Rows.segAllUptoRow.laidByTextAt .later Tryd.pinned [.sentinel, .sentinel, .sentinel, .sentinel, .sentinel] true :=
  OpenClaim.laidByTextAt_later rfl rfl tie2 noOwnUnsafe
theorem segShiftsUpto_row_tie : Rows.segShiftsUptoRow.laidByTextAt .later Tryd.pinned [.sentinel, .sentinel, .sentinel, .sentinel, .sentinel] true :=
  OpenClaim.laidByTextAt_later rfl rfl tie2 noOwnUnsafe
end Go.Proofs.YtaoooocalpkhjaaDoor
