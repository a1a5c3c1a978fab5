/- shown: the bytes that are known. cut: the first three hundred bytes. -/
import Derived.Test.YtcdgmamlmapbcaaDoorBunSeq
import Derived.Test.YtcdgmamlmapbcaaDoorBunNext
import Derived.Test.YtcdgmamlmapbcaaDoorBunPut
namespace Go.Proofs.YtcdgmamlmapbcaaDoor
open Go.RowKit

theorem shown_euro : encV 8364 = .tuple #[.string ⟨#[226, 130, 172]⟩, .int .i64 0] := by kernel_rfl
theorem shown_half : encV 55296 = .tuple #[.string ⟨#[]⟩, .int .i64 10] := by kernel_rfl
theorem shown_face : decV [240, 159, 152, 128, 120] = .tuple #[.int .i64 128512, .int .i64 4, .bool true] := by kernel_rfl
theorem shown_none : decV [237, 160, 128] = .tuple #[.int .i64 0, .int .i64 0, .bool false] := by kernel_rfl
theorem shown_e : validL [195, 169] = true := by
  unfold validL
  rw [evs_some (r := 233) (n := 2) (by kernel_rfl)]
  show (List.all ((233, false) :: evs []) _) = true
  rw [evs_nil]
  rfl
theorem in64_of {r : Int} (h : -9223372036854775808 ≤ r ∧ r < 9223372036854775808) : In64 r := h

set_option maxRecDepth 100000 in
set_option maxHeartbeats 1000000 in
theorem shown_any (w : World) (aU aS : Addr) (hG : Glob w aU aS) :
    Calls Tryd.prog 11 #[] w fun e w' => e = .returned (.bool true) ∧ Below w.heap.size w w' := by
  go_enter Tryd.func11, Tryd.ntmps11
  go_wp2_with fail
  refine (encode_any 8364 (in64_of (by decide)) w aU aS hG).mono ?_
  rintro e w1 ⟨rfl, b1⟩
  have g1 := hG.below b1
  rw [shown_euro]
  go_wp2_with fail
  refine (decode_any _ w1 aU aS g1).mono ?_
  rintro e w2 ⟨rfl, b2⟩
  have g2 := g1.below b2
  have b12 := b1.trans (b2.mono b1.size)
  rw [show decV _ = _ from shown_face]
  go_wp2_with fail
  refine (decode_any _ w2 aU aS g2).mono ?_
  rintro e w3 ⟨rfl, b3⟩
  have g3 := g2.below b3
  have b13 := b12.trans (b3.mono b12.size)
  rw [show decV _ = _ from shown_none]
  go_wp2_with fail
  refine (encode_any 55296 (in64_of (by decide)) w3 aU aS g3).mono ?_
  rintro e w4 ⟨rfl, b4⟩
  have g4 := g3.below b4
  have b14 := b13.trans (b4.mono b13.size)
  rw [shown_half]
  go_wp2_with fail
  refine (valid_any _ w4 aU aS g4).mono ?_
  rintro e w5 ⟨rfl, b5⟩
  have b15 := b14.trans (b5.mono b14.size)
  rw [show validL _ = _ from shown_e]
  go_wp2
  go_ret
  exact ⟨rfl, b15⟩
end Go.Proofs.YtcdgmamlmapbcaaDoor

namespace Go.Proofs.YtcdgmamlmapbcaaDoor
open Go.RowKit

def cutS (s : ByteArray) : ByteArray := if 300 < s.size then s.extract 0 300 else s
theorem cutS_size (s : ByteArray) : (cutS s).size ≤ 300 := by
  unfold cutS
  split
  · rw [ByteArray.size_extract]; omega
  · omega

set_option maxHeartbeats 400000 in
theorem cut_any (s : ByteArray) (w : World) :
    Calls Tryd.prog 12 #[.string s] w fun e w' => e = .returned (.string (cutS s)) ∧ w = w' := by
  unfold cutS
  by_cases h : 300 < s.size
  · rw [if_pos h]
    go_enter Tryd.func12, Tryd.ntmps12
    go_wp2
    go_ret
    exact ⟨rfl, rfl⟩
  · rw [if_neg h]
    have h2 : s.extract 0 s.size = s := by simp
    go_enter Tryd.func12, Tryd.ntmps12
    go_wp2
    go_ret
    exact ⟨rfl, rfl⟩
end Go.Proofs.YtcdgmamlmapbcaaDoor

