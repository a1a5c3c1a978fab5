/- MendWalks: from the end back, step by step. -/
import Derived.Test.YthnfekilmiodpaaDoorUCounts
import Derived.Test.YthnfekilmiodpaaDoorUSteps
namespace Go.Proofs.YthnfekilmiodpaaDoor
open Go.RowKit

theorem walk_back (l : List UInt8) {m : Nat} (h : m < (uevs 0 l).length) : backAns (backO l (((placesL l).getD (m + 1) 0 : Nat) : Int)) = .tuple #[.int .i64 ((placesL l).getD m 0 : Nat), .int .i64 0] := by
  obtain ⟨x, hx, h1, h2⟩ := places_next 0 l m h
  rw [Nat.zero_add] at h1 h2
  have e1 : (placesL l).getD m 0 = x.1 := h1
  have e2 : (placesL l).getD (m + 1) 0 = x.1 + x.2.1 := h2
  rw [e1, e2, backO_nat, backL_of hx]
  rfl

end Go.Proofs.YthnfekilmiodpaaDoor
