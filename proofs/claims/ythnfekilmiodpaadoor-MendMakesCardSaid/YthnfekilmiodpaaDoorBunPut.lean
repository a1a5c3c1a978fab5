/- put: the bytes of a scalar behind those of a list. put, by how many bytes the scalar has. put and Encode, whatever the number. -/
import Derived.Test.YthnfekilmiodpaaDoorBunRow
import Derived.Test.YthnfekilmiodpaaDoorBunNext
import Derived.Test.YthnfekilmiodpaaDoorBunPlain
import Derived.OneCell
import Derived.RangeFuncBox
import Derived.Deep.AppendLies
import Derived.Test.YthnfekilmiodpaaDoorBunEnc
import Derived.Deep.RegionWith
import Derived.Laws.IdiomStrings
namespace Go.Proofs.YthnfekilmiodpaaDoor
open Go.RowKit

set_option maxHeartbeats 400000 in
theorem put_no (v : Value) (r : Int) (hr : In64 r) (h9 : rowR r = 9) (w : World) (aU aS : Addr) (hG : Glob w aU aS) :
    Calls Tryd.prog 44 #[v, .int .i64 r] w fun e w' => e = .returned (.tuple #[.slice none 0 0, errV aS]) ∧ Below w.heap.size w w' := by
  have hez := eq_zero
  have H9 := Lib.hid h9
  clear h9
  go_enter Tryd.func44, Tryd.ntmps44
  go_wp2_with fail
  refine (rowOf_any r hr _).mono ?_
  rintro e w1 ⟨rfl, hb1⟩
  have hg1 := hG.below hb1
  have hs := hg1.sca
  have hlt := hg1.ltS
  rw [H9.out, row9]
  go_wp2
  go_region
  all_goals
    go_wp2
    go_ret2
    exact ⟨rfl, (hb1.alloc hb1.size _).drew⟩

theorem mark_is (k : Nat) (z : Int) (hz : ((sz k : Nat) : Int) = z) (m : Int) (hm : ((mk k : Nat) : Int) = m) (w : World) :
    Calls Tryd.prog 53 #[.agg #[.complex .f64 (lob k) (hib k), .int .i64 z, .int .u8 (fl k : Nat), .int .u8 (fh k : Nat), .int .u8 (sl k : Nat), .int .u8 (sh k : Nat)]] w fun e w' => e = .returned (.int .u8 m) ∧ Below w.heap.size w w' := by
  subst hz
  subst hm
  exact mark_any k w

theorem grown_of_below {w w' : World} (h : Below w.heap.size w w') (row : Option Nat) : w.grownBy w' row := ⟨h.os, h.tape, h.output, h.size, fun k hk _ => h.block k hk⟩
theorem own_below {w w' : World} {base : Nat} {e : TypeId} {size : Nat} {v : Value} {n : Nat} {xs : List Value} (h : w.ownsRow base e size v n xs) (hb : Below w.heap.size w w') : w'.ownsRow base e size v n xs :=
  h.kept (grown_of_below hb none) (by cases v.ownBlock <;> simp)
theorem grown_trans {a b c : World} {row : Option Nat} (h : a.grownBy b row) (k : b.grownBy c row) : a.grownBy c row :=
  ⟨k.os.trans h.os, k.tape.trans h.tape, k.output.trans h.output, Nat.le_trans h.size k.size, fun i hi hr => (k.block i (Nat.lt_of_lt_of_le hi h.size) hr).trans (h.block i hi hr)⟩

/-- What put leaves: the list longer by the bytes bs. -/
def PutPost (base : Nat) (v : Value) (n : Nat) (xs : List Value) (bs : List Value) (w : World) (e : Ending) (w' : World) : Prop :=
  ∃ g cap, e = .returned (.tuple #[.slice (some ⟨g, 0, none⟩) (n + bs.length) cap, .nilIface]) ∧ w'.ownsRow base 5 1 (.slice (some ⟨g, 0, none⟩) (n + bs.length) cap) (n + bs.length) (xs ++ bs) ∧
    w.grownBy w' v.ownBlock ∧ (v.ownBlock = some g ∨ w.heap.size ≤ g)

theorem infoByte : (Tryd.prog.info? 5).map (fun i => (i.zero, i.size, i.bytes)) = some (some (.int .u8 0), 1, 1) := by kernel_rfl

/-- Behind the call of mark: the first byte is laid, and all are appended. -/
theorem put_end {w w1 w2 : World} {A : Obj} {cs : Array Value} (hb1 : Below w.heap.size w w1) (hb2 : Below ((w1.alloc A).alloc (.cells cs 106)).heap.size ((w1.alloc A).alloc (.cells cs 106)) w2) :
    w2.heap[w1.heap.size + 1]? = some (.cells cs 106 (0, 0)) ∧ Below w.heap.size w w2 ∧ w.heap.size ≤ w1.heap.size ∧ w1.heap.size + 2 ≤ w2.heap.size := by
  refine ⟨(hb2.block _ (by simp)).trans (heap_alloc2_new _ _ _), ?_, hb1.size, by have := hb2.size; simpa using this⟩
  exact ((hb1.alloc hb1.size _).alloc (by simp; have := hb1.size; omega) _).trans (hb2.mono (by simp; have := hb1.size; omega))

theorem put_more {w w2 : World} {base : Nat} {v : Value} {n : Nat} {xs : List Value} {q : Nat} {t : TypeId} {X Y : Value} {cs news rest : List Value} (hown : w.ownsRow base 5 1 v n xs) (hq : w2.heap[q]? = some (.cells (Y :: cs).toArray t (0, 0)))
    (hb : Below w.heap.size w w2) (hlt : w.heap.size ≤ q) (hn : X :: cs = news ++ rest) :
    (w2.setCell ⟨q, 0, none⟩ X).ownsRow base 5 1 v n xs ∧ (∀ j u, news[j]? = some u → (w2.setCell ⟨q, 0, none⟩ X).cell? ((⟨q, 0, none⟩ : Addr).add j) = some u) ∧ Below w.heap.size w (w2.setCell ⟨q, 0, none⟩ X) ∧ w.heap.size ≤ (w2.setCell ⟨q, 0, none⟩ X).heap.size := by
  have hb3 : Below w.heap.size w (w2.setCell ⟨q, 0, none⟩ X) := hb.setCell (p := ⟨q, 0, none⟩) hlt _
  refine ⟨own_below hown hb3, fun j u hu => ?_, hb3, hb3.size⟩
  have hq3 := heap_setCell_same w2 q 0 _ t X hq
  refine World.news_of_block hq3 j u ?_
  have : (((Y :: cs).toArray.setIfInBounds 0 X)).toList = news ++ rest := by rw [← hn]; simp
  rw [this, List.getElem?_append_left (List.getElem?_eq_some_iff.1 hu).1]
  exact hu

end Go.Proofs.YthnfekilmiodpaaDoor

namespace Go.Proofs.YthnfekilmiodpaaDoor
open Go.RowKit

theorem one_one (a : Int) : ∀ u ∈ [Value.int .u8 a], u.oneCell' = true := by simp [Value.oneCell']
theorem two_one (a b : Int) : ∀ u ∈ [Value.int .u8 a, .int .u8 b], u.oneCell' = true := by simp [Value.oneCell']
theorem three_one (a b c : Int) : ∀ u ∈ [Value.int .u8 a, .int .u8 b, .int .u8 c], u.oneCell' = true := by simp [Value.oneCell']
theorem four_one (a b c d : Int) : ∀ u ∈ [Value.int .u8 a, .int .u8 b, .int .u8 c, .int .u8 d], u.oneCell' = true := by simp [Value.oneCell']

theorem lead3x {x : Int} (h0 : 0 ≤ x) (h1 : x < 16) : bits .or .u8 224 x = 224 + x := by
  have := lead3 h0 h1
  rwa [Int.emod_eq_of_lt h0 (by omega)] at this
theorem lead2x {x : Int} (h0 : 0 ≤ x) (h1 : x < 32) : bits .or .u8 192 x = 192 + x := by
  have := lead2 h0 h1
  rwa [Int.emod_eq_of_lt h0 (by omega)] at this
theorem lead1x {x : Int} (h0 : 0 ≤ x) (h1 : x < 128) : bits .or .u8 0 x = x := by
  have := lead1 h0 h1
  rwa [Int.emod_eq_of_lt h0 (by omega)] at this

set_option maxHeartbeats 1000000 in
set_option maxRecDepth 100000 in
theorem put4 (r : Int) (hr : In64 r) {k : Nat} (hk : rowR r = k) (hk9 : k < 9) (hz : sz k = 4) (hm : mk k = 240) (h0 : 0 ≤ r) (h1 : r < 1114112) (w : World)
    (base : Nat) (v : Value) (n : Nat) (xs : List Value) (hown : w.ownsRow base 5 1 v n xs) (hn : n ≤ 1000000) (hbase : base ≤ w.heap.size) :
    Calls Tryd.prog 44 #[v, .int .i64 r] w (PutPost base v n xs [.int .u8 (240 + r / 64 / 64 / 64), .int .u8 (128 + r / 64 / 64 % 64), .int .u8 (128 + r / 64 % 64), .int .u8 (128 + r % 64)] w) := by
  have HK := Lib.hid hk
  have HZ := Lib.hid hz
  have HM := Lib.hid hm
  have z1 : 1 ≤ sz k := by omega
  have z4 : sz k ≤ 4 := by omega
  clear hk hm hz
  have he := eq_row hk9
  go_enter Tryd.func44, Tryd.ntmps44
  go_wp2_with fail
  refine (rowOf_any r hr _).mono ?_
  rintro e w1 ⟨rfl, hb1⟩
  rw [HK.out]
  go_wp2_with fail
  rw [HZ.out]
  clear z1 z4
  refine wp_loop_rounds 4 ?_
  rw [rounds_succ]
  go_wp2
  rw [rounds_succ]
  go_wp2
  rw [rounds_succ]
  go_wp2
  rw [rounds_succ]
  go_wp2_with fail
  rw [chunk (x := r) (by omega) (by omega), chunk (x := r / 64) (by omega) (by omega), chunk (x := r / 64 / 64) (by omega) (by omega)]
  refine (mark_is k 4 (by rw [HZ.out]; rfl) 240 (by rw [HM.out]; rfl) _).mono ?_
  rintro e w2 ⟨rfl, hb2⟩
  obtain ⟨hq, hbw, hs1, hs2⟩ := put_end hb1 hb2
  have c0 : w2.cell? ⟨w1.heap.size + 1, 0, none⟩ = some (.int .u8 0) := by rw [cell_of_row _ _ 0 _ _ _ hq]; rfl
  have f0 : w2.frozen? ⟨w1.heap.size + 1, 0, none⟩ = false := frozen_of_row _ _ _ _ _ hq
  have hrow := (hb2.block w1.heap.size (by simp; omega)).trans (heap_alloc2_old w1 _ _)
  have c1 : w2.cell? ⟨w1.heap.size, 1, none⟩ = some (.int .i64 4) := by rw [cell_of_row _ _ 1 _ _ _ hrow]; rfl
  obtain ⟨hown3, hnews3, hb3, hs3⟩ := put_more (X := .int .u8 (240 + r / 64 / 64 / 64)) (news := [.int .u8 (240 + r / 64 / 64 / 64), .int .u8 (128 + r / 64 / 64 % 64), .int .u8 (128 + r / 64 % 64), .int .u8 (128 + r % 64)]) (rest := []) hown hq hbw (by omega) rfl
  have HOWN := Lib.hid hown3
  have HNEWS := Lib.hid hnews3
  have HS3 := Lib.hid hs3
  have HB3 := Lib.hid hb3
  clear hq hrow hb2 hown hown3 hnews3 hb3 hs3
  obtain ⟨i0, hi, hi0, hi1, hi2⟩ := info_parts infoByte
  have H1 := Lib.hid (four_one (240 + r / 64 / 64 / 64) (128 + r / 64 / 64 % 64) (128 + r / 64 % 64) (128 + r % 64))
  have HBASE := Lib.hid (Nat.le_trans hbase HS3.out)
  have h63 : n + 4 ≤ maxLen := by unfold maxLen; omega
  have H63 := Lib.hid h63
  clear h63
  go_wp2_with (at_builtin; refine wpList_append_lies _ rfl _ _ _ rfl base 5 i0 (.int .u8 0) 1 1 Tryd.underlying57 hi hi0 hi1 hi2 rfl (by omega) v n xs rfl HOWN.out ⟨w1.heap.size + 1, 0, none⟩ 4 4 [.int .u8 (240 + r / 64 / 64 / 64), .int .u8 (128 + r / 64 / 64 % 64), .int .u8 (128 + r / 64 % 64), .int .u8 (128 + r % 64)] rfl rfl HNEWS.out H1.out (by omega) H63.out (by omega) HBASE.out _ rfl ?_; intro g cap w4 hown4 hgrow hor hlt)
  go_ret2
  exact ⟨g, cap, rfl, hown4, grown_trans (grown_of_below HB3.out _) hgrow, hor.imp id (fun e => by rw [e]; exact HS3.out)⟩

set_option maxHeartbeats 1000000 in
set_option maxRecDepth 100000 in
theorem put3 (r : Int) (hr : In64 r) {k : Nat} (hk : rowR r = k) (hk9 : k < 9) (hz : sz k = 3) (hm : mk k = 224) (h0 : 0 ≤ r) (h1 : r < 65536) (w : World)
    (base : Nat) (v : Value) (n : Nat) (xs : List Value) (hown : w.ownsRow base 5 1 v n xs) (hn : n ≤ 1000000) (hbase : base ≤ w.heap.size) :
    Calls Tryd.prog 44 #[v, .int .i64 r] w (PutPost base v n xs [.int .u8 (224 + r / 64 / 64), .int .u8 (128 + r / 64 % 64), .int .u8 (128 + r % 64)] w) := by
  have HK := Lib.hid hk
  have HZ := Lib.hid hz
  have HM := Lib.hid hm
  have z1 : 1 ≤ sz k := by omega
  have z4 : sz k ≤ 4 := by omega
  clear hk hm hz
  have he := eq_row hk9
  go_enter Tryd.func44, Tryd.ntmps44
  go_wp2_with fail
  refine (rowOf_any r hr _).mono ?_
  rintro e w1 ⟨rfl, hb1⟩
  rw [HK.out]
  go_wp2_with fail
  rw [HZ.out]
  clear z1 z4
  refine wp_loop_rounds 3 ?_
  rw [rounds_succ]
  go_wp2
  rw [rounds_succ]
  go_wp2
  rw [rounds_succ]
  go_wp2_with fail
  rw [chunk (x := r) (by omega) (by omega), chunk (x := r / 64) (by omega) (by omega)]
  refine (mark_is k 3 (by rw [HZ.out]; rfl) 224 (by rw [HM.out]; rfl) _).mono ?_
  rintro e w2 ⟨rfl, hb2⟩
  obtain ⟨hq, hbw, hs1, hs2⟩ := put_end hb1 hb2
  have c0 : w2.cell? ⟨w1.heap.size + 1, 0, none⟩ = some (.int .u8 0) := by rw [cell_of_row _ _ 0 _ _ _ hq]; rfl
  have f0 : w2.frozen? ⟨w1.heap.size + 1, 0, none⟩ = false := frozen_of_row _ _ _ _ _ hq
  have hrow := (hb2.block w1.heap.size (by simp; omega)).trans (heap_alloc2_old w1 _ _)
  have c1 : w2.cell? ⟨w1.heap.size, 1, none⟩ = some (.int .i64 3) := by rw [cell_of_row _ _ 1 _ _ _ hrow]; rfl
  obtain ⟨hown3, hnews3, hb3, hs3⟩ := put_more (X := .int .u8 (224 + r / 64 / 64)) (news := [.int .u8 (224 + r / 64 / 64), .int .u8 (128 + r / 64 % 64), .int .u8 (128 + r % 64)]) (rest := [.int .u8 0]) hown hq hbw (by omega) rfl
  have HOWN := Lib.hid hown3
  have HNEWS := Lib.hid hnews3
  have HS3 := Lib.hid hs3
  have HB3 := Lib.hid hb3
  clear hq hrow hb2 hown hown3 hnews3 hb3 hs3
  obtain ⟨i0, hi, hi0, hi1, hi2⟩ := info_parts infoByte
  have H1 := Lib.hid (three_one (224 + r / 64 / 64) (128 + r / 64 % 64) (128 + r % 64))
  have HBASE := Lib.hid (Nat.le_trans hbase HS3.out)
  have h63 : n + 3 ≤ maxLen := by unfold maxLen; omega
  have H63 := Lib.hid h63
  clear h63
  have HL := lead3x (x := r / 64 / 64) (by omega) (by omega)
  go_wp2_with (at_builtin; refine wpList_append_lies _ rfl _ _ _ rfl base 5 i0 (.int .u8 0) 1 1 Tryd.underlying57 hi hi0 hi1 hi2 rfl (by omega) v n xs rfl HOWN.out ⟨w1.heap.size + 1, 0, none⟩ 3 4 [.int .u8 (224 + r / 64 / 64), .int .u8 (128 + r / 64 % 64), .int .u8 (128 + r % 64)] rfl rfl HNEWS.out H1.out (by omega) H63.out (by omega) HBASE.out _ rfl ?_; intro g cap w4 hown4 hgrow hor hlt)
  go_ret2
  exact ⟨g, cap, rfl, hown4, grown_trans (grown_of_below HB3.out _) hgrow, hor.imp id (fun e => by rw [e]; exact HS3.out)⟩

set_option maxHeartbeats 1000000 in
set_option maxRecDepth 100000 in
theorem put2 (r : Int) (hr : In64 r) {k : Nat} (hk : rowR r = k) (hk9 : k < 9) (hz : sz k = 2) (hm : mk k = 192) (h0 : 0 ≤ r) (h1 : r < 2048) (w : World)
    (base : Nat) (v : Value) (n : Nat) (xs : List Value) (hown : w.ownsRow base 5 1 v n xs) (hn : n ≤ 1000000) (hbase : base ≤ w.heap.size) :
    Calls Tryd.prog 44 #[v, .int .i64 r] w (PutPost base v n xs [.int .u8 (192 + r / 64), .int .u8 (128 + r % 64)] w) := by
  have HK := Lib.hid hk
  have HZ := Lib.hid hz
  have HM := Lib.hid hm
  have z1 : 1 ≤ sz k := by omega
  have z4 : sz k ≤ 4 := by omega
  clear hk hm hz
  have he := eq_row hk9
  go_enter Tryd.func44, Tryd.ntmps44
  go_wp2_with fail
  refine (rowOf_any r hr _).mono ?_
  rintro e w1 ⟨rfl, hb1⟩
  rw [HK.out]
  go_wp2_with fail
  rw [HZ.out]
  clear z1 z4
  refine wp_loop_rounds 2 ?_
  rw [rounds_succ]
  go_wp2
  rw [rounds_succ]
  go_wp2_with fail
  rw [chunk (x := r) (by omega) (by omega)]
  refine (mark_is k 2 (by rw [HZ.out]; rfl) 192 (by rw [HM.out]; rfl) _).mono ?_
  rintro e w2 ⟨rfl, hb2⟩
  obtain ⟨hq, hbw, hs1, hs2⟩ := put_end hb1 hb2
  have c0 : w2.cell? ⟨w1.heap.size + 1, 0, none⟩ = some (.int .u8 0) := by rw [cell_of_row _ _ 0 _ _ _ hq]; rfl
  have f0 : w2.frozen? ⟨w1.heap.size + 1, 0, none⟩ = false := frozen_of_row _ _ _ _ _ hq
  have hrow := (hb2.block w1.heap.size (by simp; omega)).trans (heap_alloc2_old w1 _ _)
  have c1 : w2.cell? ⟨w1.heap.size, 1, none⟩ = some (.int .i64 2) := by rw [cell_of_row _ _ 1 _ _ _ hrow]; rfl
  obtain ⟨hown3, hnews3, hb3, hs3⟩ := put_more (X := .int .u8 (192 + r / 64)) (news := [.int .u8 (192 + r / 64), .int .u8 (128 + r % 64)]) (rest := [.int .u8 0, .int .u8 0]) hown hq hbw (by omega) rfl
  have HOWN := Lib.hid hown3
  have HNEWS := Lib.hid hnews3
  have HS3 := Lib.hid hs3
  have HB3 := Lib.hid hb3
  clear hq hrow hb2 hown hown3 hnews3 hb3 hs3
  obtain ⟨i0, hi, hi0, hi1, hi2⟩ := info_parts infoByte
  have H1 := Lib.hid (two_one (192 + r / 64) (128 + r % 64))
  have HBASE := Lib.hid (Nat.le_trans hbase HS3.out)
  have h63 : n + 2 ≤ maxLen := by unfold maxLen; omega
  have H63 := Lib.hid h63
  clear h63
  have HL := lead2x (x := r / 64) (by omega) (by omega)
  go_wp2_with (at_builtin; refine wpList_append_lies _ rfl _ _ _ rfl base 5 i0 (.int .u8 0) 1 1 Tryd.underlying57 hi hi0 hi1 hi2 rfl (by omega) v n xs rfl HOWN.out ⟨w1.heap.size + 1, 0, none⟩ 2 4 [.int .u8 (192 + r / 64), .int .u8 (128 + r % 64)] rfl rfl HNEWS.out H1.out (by omega) H63.out (by omega) HBASE.out _ rfl ?_; intro g cap w4 hown4 hgrow hor hlt)
  go_ret2
  exact ⟨g, cap, rfl, hown4, grown_trans (grown_of_below HB3.out _) hgrow, hor.imp id (fun e => by rw [e]; exact HS3.out)⟩

set_option maxHeartbeats 1000000 in
set_option maxRecDepth 100000 in
theorem put1 (r : Int) (hr : In64 r) {k : Nat} (hk : rowR r = k) (hk9 : k < 9) (hz : sz k = 1) (hm : mk k = 0) (h0 : 0 ≤ r) (h1 : r < 128) (w : World)
    (base : Nat) (v : Value) (n : Nat) (xs : List Value) (hown : w.ownsRow base 5 1 v n xs) (hn : n ≤ 1000000) (hbase : base ≤ w.heap.size) :
    Calls Tryd.prog 44 #[v, .int .i64 r] w (PutPost base v n xs [.int .u8 (r)] w) := by
  have HK := Lib.hid hk
  have HZ := Lib.hid hz
  have HM := Lib.hid hm
  have z1 : 1 ≤ sz k := by omega
  have z4 : sz k ≤ 4 := by omega
  clear hk hm hz
  have he := eq_row hk9
  go_enter Tryd.func44, Tryd.ntmps44
  go_wp2_with fail
  refine (rowOf_any r hr _).mono ?_
  rintro e w1 ⟨rfl, hb1⟩
  rw [HK.out]
  go_wp2_with fail
  rw [HZ.out]
  clear z1 z4
  refine wp_loop_rounds 1 ?_
  rw [rounds_succ]
  go_wp2_with fail
  refine (mark_is k 1 (by rw [HZ.out]; rfl) 0 (by rw [HM.out]; rfl) _).mono ?_
  rintro e w2 ⟨rfl, hb2⟩
  obtain ⟨hq, hbw, hs1, hs2⟩ := put_end hb1 hb2
  have c0 : w2.cell? ⟨w1.heap.size + 1, 0, none⟩ = some (.int .u8 0) := by rw [cell_of_row _ _ 0 _ _ _ hq]; rfl
  have f0 : w2.frozen? ⟨w1.heap.size + 1, 0, none⟩ = false := frozen_of_row _ _ _ _ _ hq
  have hrow := (hb2.block w1.heap.size (by simp; omega)).trans (heap_alloc2_old w1 _ _)
  have c1 : w2.cell? ⟨w1.heap.size, 1, none⟩ = some (.int .i64 1) := by rw [cell_of_row _ _ 1 _ _ _ hrow]; rfl
  obtain ⟨hown3, hnews3, hb3, hs3⟩ := put_more (X := .int .u8 (r)) (news := [.int .u8 (r)]) (rest := [.int .u8 0, .int .u8 0, .int .u8 0]) hown hq hbw (by omega) rfl
  have HOWN := Lib.hid hown3
  have HNEWS := Lib.hid hnews3
  have HS3 := Lib.hid hs3
  have HB3 := Lib.hid hb3
  clear hq hrow hb2 hown hown3 hnews3 hb3 hs3
  obtain ⟨i0, hi, hi0, hi1, hi2⟩ := info_parts infoByte
  have H1 := Lib.hid (one_one (r))
  have HBASE := Lib.hid (Nat.le_trans hbase HS3.out)
  have h63 : n + 1 ≤ maxLen := by unfold maxLen; omega
  have H63 := Lib.hid h63
  clear h63
  have HL := lead1x (x := r) (by omega) (by omega)
  go_wp2_with (at_builtin; refine wpList_append_lies _ rfl _ _ _ rfl base 5 i0 (.int .u8 0) 1 1 Tryd.underlying57 hi hi0 hi1 hi2 rfl (by omega) v n xs rfl HOWN.out ⟨w1.heap.size + 1, 0, none⟩ 1 4 [.int .u8 (r)] rfl rfl HNEWS.out H1.out (by omega) H63.out (by omega) HBASE.out _ rfl ?_; intro g cap w4 hown4 hgrow hor hlt)
  go_ret2
  exact ⟨g, cap, rfl, hown4, grown_trans (grown_of_below HB3.out _) hgrow, hor.imp id (fun e => by rw [e]; exact HS3.out)⟩

end Go.Proofs.YthnfekilmiodpaaDoor

namespace Go.Proofs.YthnfekilmiodpaaDoor
open Go.RowKit

theorem put_any (r : Int) (hr : In64 r) (h9 : rowR r < 9) (w : World) (base : Nat) (v : Value) (n : Nat) (xs : List Value) (hown : w.ownsRow base 5 1 v n xs) (hn : n ≤ 1000000) (hbase : base ≤ w.heap.size) :
    Calls Tryd.prog 44 #[v, .int .i64 r] w (PutPost base v n xs (encC r.toNat) w) := by
  obtain ⟨h0, h1⟩ := scalar_lt h9
  rcases row1 h9 with ⟨a, hz, hm⟩ | ⟨a, b, hz, hm⟩ | ⟨a, b, hz, hm⟩ | ⟨a, b, hz, hm⟩
  · have e : encC r.toNat = [.int .u8 (r)] := by
      unfold encC encN
      rw [if_pos (by omega)]
      simp; omega
    rw [e]
    exact put1 r hr rfl h9 hz hm h0 a w base v n xs hown hn hbase
  · have e : encC r.toNat = [.int .u8 (192 + r / 64), .int .u8 (128 + r % 64)] := by
      unfold encC encN
      rw [if_neg (by omega), if_pos (by omega)]
      simp; omega
    rw [e]
    exact put2 r hr rfl h9 hz hm h0 b w base v n xs hown hn hbase
  · have e : encC r.toNat = [.int .u8 (224 + r / 64 / 64), .int .u8 (128 + r / 64 % 64), .int .u8 (128 + r % 64)] := by
      unfold encC encN
      rw [if_neg (by omega), if_neg (by omega), if_pos (by omega)]
      simp; omega
    rw [e]
    exact put3 r hr rfl h9 hz hm h0 b w base v n xs hown hn hbase
  · have e : encC r.toNat = [.int .u8 (240 + r / 64 / 64 / 64), .int .u8 (128 + r / 64 / 64 % 64), .int .u8 (128 + r / 64 % 64), .int .u8 (128 + r % 64)] := by
      unfold encC encN
      rw [if_neg (by omega), if_neg (by omega), if_neg (by omega)]
      simp; omega
    rw [e]
    exact put4 r hr rfl h9 hz hm h0 b w base v n xs hown hn hbase

/-- 'string(b)' of a list of one's own. -/
theorem run_string_own {w : World} {base : Nat} {v : Value} {n : Nat} {l : List UInt8} (h : w.ownsRow base 5 1 v n (l.map fun b => .int .u8 (b.toNat : Nat))) :
    (convert 57 9 v).run Tryd.prog w = .ok (.string ⟨l.toArray⟩) w := by
  have hl := h.1
  simp at hl
  rcases h.2 with ⟨rfl, hn⟩ | ⟨g, cap, cur, rfl, _, hg, _, _, _, htake⟩
  · have : l = [] := List.eq_nil_of_length_eq_zero (by omega)
    subst this
    rw [run_convert_bytes_string w 57 9 5 _ _ _ Tryd.underlying57 Tryd.underlying5 Tryd.underlying9]
    rfl
  · subst hl
    refine run_convert_bytes_back w 57 9 5 ⟨g, 0, none⟩ cap l Tryd.underlying57 Tryd.underlying5 Tryd.underlying9 (fun j hj => ?_)
    have hadd : (⟨g, 0, none⟩ : Addr).add j = ⟨g, j, none⟩ := by unfold Addr.add; split <;> simp_all
    rw [hadd, cell_of_row _ _ j _ _ _ hg]
    have h1 : (cur.toList.take (l.length * 1))[j]? = cur[j]? := by rw [List.getElem?_take_of_lt (by omega), Array.getElem?_toList]
    rw [← h1, htake]
    simp [List.getElem?_eq_getElem hj]

def strR (r : Int) : ByteArray := ⟨(encB r.toNat).toArray⟩
def encV (r : Int) : Value := if rowR r < 9 then .tuple #[.string (strR r), .int .i64 0] else .tuple #[.string ⟨#[]⟩, .int .i64 10]

set_option maxHeartbeats 1000000 in
theorem encode_any (r : Int) (hr : In64 r) (w : World) (aU aS : Addr) (hG : Glob w aU aS) :
    Calls Tryd.prog 38 #[.int .i64 r] w fun e w' => e = .returned (encV r) ∧ Below w.heap.size w w' := by
  by_cases h9 : rowR r < 9
  · have hv : encV r = .tuple #[.string (strR r), .int .i64 0] := by unfold encV; rw [if_pos h9]
    rw [hv]
    clear hv
    have hl := scalar_lt h9
    have HL := Lib.hid hl
    clear hl
    go_enter Tryd.func38, Tryd.ntmps38
    go_wp2_with fail
    refine (put_any r hr h9 w w.heap.size (.slice none 0 0) 0 [] (World.ownsRow_nil _ _ _ _) (by omega) (Nat.le_refl _)).mono ?_
    rintro e w1 ⟨g, cap, rfl, hown, hgrow, hor⟩
    have hb1 : Below w.heap.size w w1 := ⟨hgrow.os, hgrow.tape, hgrow.output, hgrow.size, fun k hk => hgrow.block k hk (by simp [Value.ownBlock])⟩
    have hg1 := hG.below hb1
    have hcv : (convert 57 9 (.slice (some ⟨g, 0, none⟩) (0 + (encC r.toNat).length) cap)).run Tryd.prog w1.drew = .ok (.string (strR r)) w1.drew := by
      rw [List.nil_append] at hown
      generalize 0 + (encC r.toNat).length = m at hown ⊢
      rw [encC_eq (by have := HL.out; omega)] at hown
      exact run_string_own (w := w1.drew) hown
    generalize hm : 0 + (encC r.toNat).length = m at hcv ⊢
    clear hown hgrow hor hm
    go_wp2
    go_region_with (go_at_call 45; refine Calls.mono (number_nil (by exact hg1.drew)) ?_; rintro e w' ⟨rfl, rfl⟩)
    all_goals
      go_wp2
      go_ret2
      exact ⟨rfl, hb1.drew⟩
  · have hv : encV r = .tuple #[.string ⟨#[]⟩, .int .i64 10] := by unfold encV; rw [if_neg h9]
    rw [hv]
    clear hv
    have h99 : rowR r = 9 := by have := rowR_le r; omega
    go_enter Tryd.func38, Tryd.ntmps38
    go_wp2_with fail
    refine (put_no (.slice none 0 0) r hr h99 w aU aS hG).mono ?_
    rintro e w1 ⟨rfl, hb1⟩
    have hg1 := hG.below hb1
    have hcv : ∀ w, (convert 57 9 (.slice none 0 0)).run Tryd.prog w = .ok (.string ⟨#[]⟩) w := fun w => by
      rw [run_convert_bytes_string w 57 9 5 _ _ _ Tryd.underlying57 Tryd.underlying5 Tryd.underlying9]
      rfl
    clear h99 h9
    go_wp2
    go_region_with (go_at_call 45; refine Calls.mono (number_sca (by exact hg1.drew)) ?_; rintro e w' ⟨rfl, rfl⟩)
    all_goals
      go_wp2
      go_ret2
      exact ⟨rfl, hb1.drew⟩
end Go.Proofs.YthnfekilmiodpaaDoor

