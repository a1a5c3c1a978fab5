/- put, by how many bytes the scalar has. -/
import Derived.Test.YtcdgmamlmapbcaaDoorPut
namespace Go.Proofs.YtcdgmamlmapbcaaDoor
open Go.RowKit

theorem one_one (a : Int) : ∀ u ∈ [Value.int .u8 a], u.oneCell' = true := by simp [Value.oneCell']
theorem two_one (a b : Int) : ∀ u ∈ [Value.int .u8 a, .int .u8 b], u.oneCell' = true := by simp [Value.oneCell']
theorem three_one (a b c : Int) : ∀ u ∈ [Value.int .u8 a, .int .u8 b, .int .u8 c], u.oneCell' = true := by simp [Value.oneCell']
theorem four_one (a b c d : Int) : ∀ u ∈ [Value.int .u8 a, .int .u8 b, .int .u8 c, .int .u8 d], u.oneCell' = true := by simp [Value.oneCell']

theorem lead3x {x : Int} (h0 : 0 ≤ x) (h1 : x < 16) : bits .or .u8 224 x = 224 + x := by
  have := lead3 h0 h1
  rwa [Int.emod_eq_of_lt h0 (by omega)] at this
theorem lead2x {x : Int} (h0 : 0 ≤ x) (h1 : x < 32) : bits .or .u8 192 x = 192 + x := by
  have := lead2 h0 h1
  rwa [Int.emod_eq_of_lt h0 (by omega)] at this
theorem lead1x {x : Int} (h0 : 0 ≤ x) (h1 : x < 128) : bits .or .u8 0 x = x := by
  have := lead1 h0 h1
  rwa [Int.emod_eq_of_lt h0 (by omega)] at this

set_option maxHeartbeats 1000000 in
set_option maxRecDepth 100000 in
theorem put4 (r : Int) (hr : In64 r) {k : Nat} (hk : rowR r = k) (hk9 : k < 9) (hz : sz k = 4) (hm : mk k = 240) (h0 : 0 ≤ r) (h1 : r < 1114112) (w : World)
    (base : Nat) (v : Value) (n : Nat) (xs : List Value) (hown : w.ownsRow base 5 1 v n xs) (hn : n ≤ 1000000) (hbase : base ≤ w.heap.size) :
    Calls Tryd.prog 42 #[v, .int .i64 r] w (PutPost base v n xs [.int .u8 (240 + r / 64 / 64 / 64), .int .u8 (128 + r / 64 / 64 % 64), .int .u8 (128 + r / 64 % 64), .int .u8 (128 + r % 64)] w) := by
  have HK := Lib.hid hk
  have HZ := Lib.hid hz
  have HM := Lib.hid hm
  have z1 : 1 ≤ sz k := by omega
  have z4 : sz k ≤ 4 := by omega
  clear hk hm hz
  have he := eq_row hk9
  go_enter Tryd.func42, Tryd.ntmps42
  go_wp2_with fail
  refine (rowOf_any r hr _).mono ?_
  rintro e w1 ⟨rfl, hb1⟩
  rw [HK.out]
  go_wp2_with fail
  rw [HZ.out]
  clear z1 z4
  refine wp_loop_rounds 4 ?_
  rw [rounds_succ]
  go_wp2
  rw [rounds_succ]
  go_wp2
  rw [rounds_succ]
  go_wp2
  rw [rounds_succ]
  go_wp2_with fail
  rw [chunk (x := r) (by omega) (by omega), chunk (x := r / 64) (by omega) (by omega), chunk (x := r / 64 / 64) (by omega) (by omega)]
  refine (mark_is k 4 (by rw [HZ.out]; rfl) 240 (by rw [HM.out]; rfl) _).mono ?_
  rintro e w2 ⟨rfl, hb2⟩
  obtain ⟨hq, hbw, hs1, hs2⟩ := put_end hb1 hb2
  have c0 : w2.cell? ⟨w1.heap.size + 1, 0, none⟩ = some (.int .u8 0) := by rw [cell_of_row _ _ 0 _ _ _ hq]; rfl
  have f0 : w2.frozen? ⟨w1.heap.size + 1, 0, none⟩ = false := frozen_of_row _ _ _ _ _ hq
  have hrow := (hb2.block w1.heap.size (by simp; omega)).trans (heap_alloc2_old w1 _ _)
  have c1 : w2.cell? ⟨w1.heap.size, 1, none⟩ = some (.int .i64 4) := by rw [cell_of_row _ _ 1 _ _ _ hrow]; rfl
  obtain ⟨hown3, hnews3, hb3, hs3⟩ := put_more (X := .int .u8 (240 + r / 64 / 64 / 64)) (news := [.int .u8 (240 + r / 64 / 64 / 64), .int .u8 (128 + r / 64 / 64 % 64), .int .u8 (128 + r / 64 % 64), .int .u8 (128 + r % 64)]) (rest := []) hown hq hbw (by omega) rfl
  have HOWN := Lib.hid hown3
  have HNEWS := Lib.hid hnews3
  have HS3 := Lib.hid hs3
  have HB3 := Lib.hid hb3
  clear hq hrow hb2 hown hown3 hnews3 hb3 hs3
  obtain ⟨i0, hi, hi0, hi1, hi2⟩ := info_parts infoByte
  have H1 := Lib.hid (four_one (240 + r / 64 / 64 / 64) (128 + r / 64 / 64 % 64) (128 + r / 64 % 64) (128 + r % 64))
  have HBASE := Lib.hid (Nat.le_trans hbase HS3.out)
  have h63 : n + 4 ≤ maxLen := by unfold maxLen; omega
  have H63 := Lib.hid h63
  clear h63
  go_wp2_with (at_builtin; refine wpList_append_lies _ rfl _ _ _ rfl base 5 i0 (.int .u8 0) 1 1 Tryd.underlying54 hi hi0 hi1 hi2 rfl (by omega) v n xs rfl HOWN.out ⟨w1.heap.size + 1, 0, none⟩ 4 4 [.int .u8 (240 + r / 64 / 64 / 64), .int .u8 (128 + r / 64 / 64 % 64), .int .u8 (128 + r / 64 % 64), .int .u8 (128 + r % 64)] rfl rfl HNEWS.out H1.out (by omega) H63.out (by omega) HBASE.out _ rfl ?_; intro g cap w4 hown4 hgrow hor hlt)
  go_ret2
  exact ⟨g, cap, rfl, hown4, grown_trans (grown_of_below HB3.out _) hgrow, hor.imp id (fun e => by rw [e]; exact HS3.out)⟩

set_option maxHeartbeats 1000000 in
set_option maxRecDepth 100000 in
theorem put3 (r : Int) (hr : In64 r) {k : Nat} (hk : rowR r = k) (hk9 : k < 9) (hz : sz k = 3) (hm : mk k = 224) (h0 : 0 ≤ r) (h1 : r < 65536) (w : World)
    (base : Nat) (v : Value) (n : Nat) (xs : List Value) (hown : w.ownsRow base 5 1 v n xs) (hn : n ≤ 1000000) (hbase : base ≤ w.heap.size) :
    Calls Tryd.prog 42 #[v, .int .i64 r] w (PutPost base v n xs [.int .u8 (224 + r / 64 / 64), .int .u8 (128 + r / 64 % 64), .int .u8 (128 + r % 64)] w) := by
  have HK := Lib.hid hk
  have HZ := Lib.hid hz
  have HM := Lib.hid hm
  have z1 : 1 ≤ sz k := by omega
  have z4 : sz k ≤ 4 := by omega
  clear hk hm hz
  have he := eq_row hk9
  go_enter Tryd.func42, Tryd.ntmps42
  go_wp2_with fail
  refine (rowOf_any r hr _).mono ?_
  rintro e w1 ⟨rfl, hb1⟩
  rw [HK.out]
  go_wp2_with fail
  rw [HZ.out]
  clear z1 z4
  refine wp_loop_rounds 3 ?_
  rw [rounds_succ]
  go_wp2
  rw [rounds_succ]
  go_wp2
  rw [rounds_succ]
  go_wp2_with fail
  rw [chunk (x := r) (by omega) (by omega), chunk (x := r / 64) (by omega) (by omega)]
  refine (mark_is k 3 (by rw [HZ.out]; rfl) 224 (by rw [HM.out]; rfl) _).mono ?_
  rintro e w2 ⟨rfl, hb2⟩
  obtain ⟨hq, hbw, hs1, hs2⟩ := put_end hb1 hb2
  have c0 : w2.cell? ⟨w1.heap.size + 1, 0, none⟩ = some (.int .u8 0) := by rw [cell_of_row _ _ 0 _ _ _ hq]; rfl
  have f0 : w2.frozen? ⟨w1.heap.size + 1, 0, none⟩ = false := frozen_of_row _ _ _ _ _ hq
  have hrow := (hb2.block w1.heap.size (by simp; omega)).trans (heap_alloc2_old w1 _ _)
  have c1 : w2.cell? ⟨w1.heap.size, 1, none⟩ = some (.int .i64 3) := by rw [cell_of_row _ _ 1 _ _ _ hrow]; rfl
  obtain ⟨hown3, hnews3, hb3, hs3⟩ := put_more (X := .int .u8 (224 + r / 64 / 64)) (news := [.int .u8 (224 + r / 64 / 64), .int .u8 (128 + r / 64 % 64), .int .u8 (128 + r % 64)]) (rest := [.int .u8 0]) hown hq hbw (by omega) rfl
  have HOWN := Lib.hid hown3
  have HNEWS := Lib.hid hnews3
  have HS3 := Lib.hid hs3
  have HB3 := Lib.hid hb3
  clear hq hrow hb2 hown hown3 hnews3 hb3 hs3
  obtain ⟨i0, hi, hi0, hi1, hi2⟩ := info_parts infoByte
  have H1 := Lib.hid (three_one (224 + r / 64 / 64) (128 + r / 64 % 64) (128 + r % 64))
  have HBASE := Lib.hid (Nat.le_trans hbase HS3.out)
  have h63 : n + 3 ≤ maxLen := by unfold maxLen; omega
  have H63 := Lib.hid h63
  clear h63
  have HL := lead3x (x := r / 64 / 64) (by omega) (by omega)
  go_wp2_with (at_builtin; refine wpList_append_lies _ rfl _ _ _ rfl base 5 i0 (.int .u8 0) 1 1 Tryd.underlying54 hi hi0 hi1 hi2 rfl (by omega) v n xs rfl HOWN.out ⟨w1.heap.size + 1, 0, none⟩ 3 4 [.int .u8 (224 + r / 64 / 64), .int .u8 (128 + r / 64 % 64), .int .u8 (128 + r % 64)] rfl rfl HNEWS.out H1.out (by omega) H63.out (by omega) HBASE.out _ rfl ?_; intro g cap w4 hown4 hgrow hor hlt)
  go_ret2
  exact ⟨g, cap, rfl, hown4, grown_trans (grown_of_below HB3.out _) hgrow, hor.imp id (fun e => by rw [e]; exact HS3.out)⟩

set_option maxHeartbeats 1000000 in
set_option maxRecDepth 100000 in
theorem put2 (r : Int) (hr : In64 r) {k : Nat} (hk : rowR r = k) (hk9 : k < 9) (hz : sz k = 2) (hm : mk k = 192) (h0 : 0 ≤ r) (h1 : r < 2048) (w : World)
    (base : Nat) (v : Value) (n : Nat) (xs : List Value) (hown : w.ownsRow base 5 1 v n xs) (hn : n ≤ 1000000) (hbase : base ≤ w.heap.size) :
    Calls Tryd.prog 42 #[v, .int .i64 r] w (PutPost base v n xs [.int .u8 (192 + r / 64), .int .u8 (128 + r % 64)] w) := by
  have HK := Lib.hid hk
  have HZ := Lib.hid hz
  have HM := Lib.hid hm
  have z1 : 1 ≤ sz k := by omega
  have z4 : sz k ≤ 4 := by omega
  clear hk hm hz
  have he := eq_row hk9
  go_enter Tryd.func42, Tryd.ntmps42
  go_wp2_with fail
  refine (rowOf_any r hr _).mono ?_
  rintro e w1 ⟨rfl, hb1⟩
  rw [HK.out]
  go_wp2_with fail
  rw [HZ.out]
  clear z1 z4
  refine wp_loop_rounds 2 ?_
  rw [rounds_succ]
  go_wp2
  rw [rounds_succ]
  go_wp2_with fail
  rw [chunk (x := r) (by omega) (by omega)]
  refine (mark_is k 2 (by rw [HZ.out]; rfl) 192 (by rw [HM.out]; rfl) _).mono ?_
  rintro e w2 ⟨rfl, hb2⟩
  obtain ⟨hq, hbw, hs1, hs2⟩ := put_end hb1 hb2
  have c0 : w2.cell? ⟨w1.heap.size + 1, 0, none⟩ = some (.int .u8 0) := by rw [cell_of_row _ _ 0 _ _ _ hq]; rfl
  have f0 : w2.frozen? ⟨w1.heap.size + 1, 0, none⟩ = false := frozen_of_row _ _ _ _ _ hq
  have hrow := (hb2.block w1.heap.size (by simp; omega)).trans (heap_alloc2_old w1 _ _)
  have c1 : w2.cell? ⟨w1.heap.size, 1, none⟩ = some (.int .i64 2) := by rw [cell_of_row _ _ 1 _ _ _ hrow]; rfl
  obtain ⟨hown3, hnews3, hb3, hs3⟩ := put_more (X := .int .u8 (192 + r / 64)) (news := [.int .u8 (192 + r / 64), .int .u8 (128 + r % 64)]) (rest := [.int .u8 0, .int .u8 0]) hown hq hbw (by omega) rfl
  have HOWN := Lib.hid hown3
  have HNEWS := Lib.hid hnews3
  have HS3 := Lib.hid hs3
  have HB3 := Lib.hid hb3
  clear hq hrow hb2 hown hown3 hnews3 hb3 hs3
  obtain ⟨i0, hi, hi0, hi1, hi2⟩ := info_parts infoByte
  have H1 := Lib.hid (two_one (192 + r / 64) (128 + r % 64))
  have HBASE := Lib.hid (Nat.le_trans hbase HS3.out)
  have h63 : n + 2 ≤ maxLen := by unfold maxLen; omega
  have H63 := Lib.hid h63
  clear h63
  have HL := lead2x (x := r / 64) (by omega) (by omega)
  go_wp2_with (at_builtin; refine wpList_append_lies _ rfl _ _ _ rfl base 5 i0 (.int .u8 0) 1 1 Tryd.underlying54 hi hi0 hi1 hi2 rfl (by omega) v n xs rfl HOWN.out ⟨w1.heap.size + 1, 0, none⟩ 2 4 [.int .u8 (192 + r / 64), .int .u8 (128 + r % 64)] rfl rfl HNEWS.out H1.out (by omega) H63.out (by omega) HBASE.out _ rfl ?_; intro g cap w4 hown4 hgrow hor hlt)
  go_ret2
  exact ⟨g, cap, rfl, hown4, grown_trans (grown_of_below HB3.out _) hgrow, hor.imp id (fun e => by rw [e]; exact HS3.out)⟩

set_option maxHeartbeats 1000000 in
set_option maxRecDepth 100000 in
theorem put1 (r : Int) (hr : In64 r) {k : Nat} (hk : rowR r = k) (hk9 : k < 9) (hz : sz k = 1) (hm : mk k = 0) (h0 : 0 ≤ r) (h1 : r < 128) (w : World)
    (base : Nat) (v : Value) (n : Nat) (xs : List Value) (hown : w.ownsRow base 5 1 v n xs) (hn : n ≤ 1000000) (hbase : base ≤ w.heap.size) :
    Calls Tryd.prog 42 #[v, .int .i64 r] w (PutPost base v n xs [.int .u8 (r)] w) := by
  have HK := Lib.hid hk
  have HZ := Lib.hid hz
  have HM := Lib.hid hm
  have z1 : 1 ≤ sz k := by omega
  have z4 : sz k ≤ 4 := by omega
  clear hk hm hz
  have he := eq_row hk9
  go_enter Tryd.func42, Tryd.ntmps42
  go_wp2_with fail
  refine (rowOf_any r hr _).mono ?_
  rintro e w1 ⟨rfl, hb1⟩
  rw [HK.out]
  go_wp2_with fail
  rw [HZ.out]
  clear z1 z4
  refine wp_loop_rounds 1 ?_
  rw [rounds_succ]
  go_wp2_with fail
  refine (mark_is k 1 (by rw [HZ.out]; rfl) 0 (by rw [HM.out]; rfl) _).mono ?_
  rintro e w2 ⟨rfl, hb2⟩
  obtain ⟨hq, hbw, hs1, hs2⟩ := put_end hb1 hb2
  have c0 : w2.cell? ⟨w1.heap.size + 1, 0, none⟩ = some (.int .u8 0) := by rw [cell_of_row _ _ 0 _ _ _ hq]; rfl
  have f0 : w2.frozen? ⟨w1.heap.size + 1, 0, none⟩ = false := frozen_of_row _ _ _ _ _ hq
  have hrow := (hb2.block w1.heap.size (by simp; omega)).trans (heap_alloc2_old w1 _ _)
  have c1 : w2.cell? ⟨w1.heap.size, 1, none⟩ = some (.int .i64 1) := by rw [cell_of_row _ _ 1 _ _ _ hrow]; rfl
  obtain ⟨hown3, hnews3, hb3, hs3⟩ := put_more (X := .int .u8 (r)) (news := [.int .u8 (r)]) (rest := [.int .u8 0, .int .u8 0, .int .u8 0]) hown hq hbw (by omega) rfl
  have HOWN := Lib.hid hown3
  have HNEWS := Lib.hid hnews3
  have HS3 := Lib.hid hs3
  have HB3 := Lib.hid hb3
  clear hq hrow hb2 hown hown3 hnews3 hb3 hs3
  obtain ⟨i0, hi, hi0, hi1, hi2⟩ := info_parts infoByte
  have H1 := Lib.hid (one_one (r))
  have HBASE := Lib.hid (Nat.le_trans hbase HS3.out)
  have h63 : n + 1 ≤ maxLen := by unfold maxLen; omega
  have H63 := Lib.hid h63
  clear h63
  have HL := lead1x (x := r) (by omega) (by omega)
  go_wp2_with (at_builtin; refine wpList_append_lies _ rfl _ _ _ rfl base 5 i0 (.int .u8 0) 1 1 Tryd.underlying54 hi hi0 hi1 hi2 rfl (by omega) v n xs rfl HOWN.out ⟨w1.heap.size + 1, 0, none⟩ 1 4 [.int .u8 (r)] rfl rfl HNEWS.out H1.out (by omega) H63.out (by omega) HBASE.out _ rfl ?_; intro g cap w4 hown4 hgrow hor hlt)
  go_ret2
  exact ⟨g, cap, rfl, hown4, grown_trans (grown_of_below HB3.out _) hgrow, hor.imp id (fun e => by rw [e]; exact HS3.out)⟩

end Go.Proofs.YtcdgmamlmapbcaaDoor
