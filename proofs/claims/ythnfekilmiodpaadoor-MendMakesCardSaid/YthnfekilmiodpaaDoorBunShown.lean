/- shown: the bytes that are known. cut: the first three hundred bytes. -/
import Derived.Test.YthnfekilmiodpaaDoorBunSeq
import Derived.Test.YthnfekilmiodpaaDoorBunNext
import Derived.Test.YthnfekilmiodpaaDoorBunPut
namespace Go.Proofs.YthnfekilmiodpaaDoor
open Go.RowKit

theorem shown_euro : encV 8364 = .tuple #[.string ⟨#[226, 130, 172]⟩, .int .i64 0] := by kernel_rfl
theorem shown_half : encV 55296 = .tuple #[.string ⟨#[]⟩, .int .i64 10] := by kernel_rfl
theorem shown_face : decV [240, 159, 152, 128, 120] = .tuple #[.int .i64 128512, .int .i64 4, .bool true] := by kernel_rfl
theorem shown_none : decV [237, 160, 128] = .tuple #[.int .i64 0, .int .i64 0, .bool false] := by kernel_rfl
theorem shown_e : validL [195, 169] = true := by
  unfold validL
  rw [evs_some (r := 233) (n := 2) (by kernel_rfl)]
  show (List.all ((233, false) :: evs []) _) = true
  rw [evs_nil]
  rfl
theorem in64_of {r : Int} (h : -9223372036854775808 ≤ r ∧ r < 9223372036854775808) : In64 r := h

end Go.Proofs.YthnfekilmiodpaaDoor

namespace Go.Proofs.YthnfekilmiodpaaDoor
open Go.RowKit

def cutS (s : ByteArray) : ByteArray := if 300 < s.size then s.extract 0 300 else s
theorem cutS_size (s : ByteArray) : (cutS s).size ≤ 300 := by
  unfold cutS
  split
  · rw [ByteArray.size_extract]; omega
  · omega

end Go.Proofs.YthnfekilmiodpaaDoor

