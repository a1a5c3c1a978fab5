/- decL and encB: one to one. -/
import Derived.Test.YtcdgmamlmapbcaaDoorSpec
import Derived.Test.YtcdgmamlmapbcaaDoorEnc
namespace Go.Proofs.YtcdgmamlmapbcaaDoor

theorem decL_cons (b : UInt8) (t : List UInt8) : decL (b :: t) = if rowIx b.toNat < 9 ∧ fitsB (rowIx b.toNat) ((b :: t).take (sz (rowIx b.toNat))) = true then some (joinB (rowIx b.toNat) ((b :: t).take (sz (rowIx b.toNat))), sz (rowIx b.toNat)) else none := rfl
/-- How many bytes there are. -/
theorem decL_len {l : List UInt8} {r n : Nat} (h : decL l = some (r, n)) : 1 ≤ n ∧ n ≤ 4 ∧ n ≤ l.length := by
  cases l with
  | nil => cases h
  | cons b t =>
    rw [decL_cons] at h
    split at h
    · rename_i hc
      have hf := hc.2
      simp only [fitsB, Bool.and_eq_true, decide_eq_true_eq, List.length_take] at hf
      have h1 := sz_pos hc.1
      have h4 := sz_le (rowIx b.toNat)
      cases h
      omega
    · cases h
theorem decL_nil : decL [] = none := rfl
end Go.Proofs.YtcdgmamlmapbcaaDoor
