/- digits.ends: the range that a first field says. recordOf: the record of a range and of the fields behind it. digits.record: what a line says. -/
import Derived.Test.YtfgnpdfdncnbfaaGreatDoorBunF3
import Derived.Test.YtfgnpdfdncnbfaaGreatDoorBunA6
import Derived.Deep.RegionHeld3
namespace Go.Proofs.YtfgnpdfdncnbfaaGreatDoor
open Go.RowKit Go.Shelf

inductive EndsR
  | hex
  | range
  | good (a b : Nat)
/-- Both ends' codes. -/
def pairL (l : List UInt8) : Option Nat × Option Nat := if (cutL l [46, 46]).2.2 then (codeL (cutL l [46, 46]).1, codeL (cutL l [46, 46]).2.1) else (codeL (cutL l [46, 46]).1, codeL (cutL l [46, 46]).1)
def endsL (l : List UInt8) : EndsR := match pairL l with
  | (some a, some b) => if b < a ∨ 1114111 < b then .range else .good a b
  | _ => .hex
abbrev wrongV (n : Int) : Value := .iface 186 (.int .i64 n)
def endsV : EndsR → Value
  | .hex => .tuple #[.complex .f64 0 0, wrongV 21]
  | .range => .tuple #[.complex .f64 0 0, wrongV 22]
  | .good a b => .tuple #[.complex .f64 (flN a) (flN b), .nilIface]

set_option maxRecDepth 100000 in
set_option maxHeartbeats 2000000 in
theorem ends_one_hex1 (b : Nat) (s : ByteArray) (w : World) {m : Int} (hG : FGlob w m) (hD : Digits w b) (hs : s.size ≤ 1000000) (l1 l2 : List UInt8) (n1 n2 : Nat) (ok1 ok2 : Bool) (_b1 : n1 < 16777216) (_b2 : n2 < 16777216)
    (HC : Hid (cutL s.data.toList (⟨#[46, 46]⟩ : ByteArray).data.toList = (l1, l2, false))) (H1 : Hid (codeV l1 = .tuple #[.int .i64 (n1 : Nat), .bool ok1])) (H2 : Hid (codeV l1 = .tuple #[.int .i64 (n2 : Nat), .bool ok2])) (h1 : ok1 = false) :
    Calls Tryz.prog 144 #[.map (some b), .string s] w fun e w' => e = .returned (endsV .hex) ∧ Below w.heap.size w w' := by
  subst h1
  go_enter Tryz.func144, Tryz.ntmps144
  go_wp2_with fail
  refine (cut_any s _ w hG hs).mono ?_
  rintro e w1 ⟨rfl, d1⟩
  rw [HC.out]
  go_wp2_with fail
  refine (code_any b ⟨l1.toArray⟩ w1 (hD.below d1)).mono ?_
  rintro e w2 ⟨rfl, d2⟩
  rw [show codeV (⟨l1.toArray⟩ : ByteArray).data.toList = _ from H1.out]
  have d12 := d1.trans (d2.mono d1.size)
  go_wp2_with fail
  refine (code_any b ⟨l1.toArray⟩ w2 (hD.below d12)).mono ?_
  rintro e w3 ⟨rfl, d3⟩
  rw [show codeV (⟨l1.toArray⟩ : ByteArray).data.toList = _ from H2.out]
  have d13 := d12.trans (d3.mono d12.size)
  go_wp2
  go_ret2
  exact ⟨rfl, d13⟩
set_option maxRecDepth 100000 in
set_option maxHeartbeats 2000000 in
theorem ends_one_hex2 (b : Nat) (s : ByteArray) (w : World) {m : Int} (hG : FGlob w m) (hD : Digits w b) (hs : s.size ≤ 1000000) (l1 l2 : List UInt8) (n1 n2 : Nat) (ok1 ok2 : Bool) (_b1 : n1 < 16777216) (_b2 : n2 < 16777216)
    (HC : Hid (cutL s.data.toList (⟨#[46, 46]⟩ : ByteArray).data.toList = (l1, l2, false))) (H1 : Hid (codeV l1 = .tuple #[.int .i64 (n1 : Nat), .bool ok1])) (H2 : Hid (codeV l1 = .tuple #[.int .i64 (n2 : Nat), .bool ok2])) (h1 : ok1 = true) (h2 : ok2 = false) :
    Calls Tryz.prog 144 #[.map (some b), .string s] w fun e w' => e = .returned (endsV .hex) ∧ Below w.heap.size w w' := by
  subst h1 h2
  go_enter Tryz.func144, Tryz.ntmps144
  go_wp2_with fail
  refine (cut_any s _ w hG hs).mono ?_
  rintro e w1 ⟨rfl, d1⟩
  rw [HC.out]
  go_wp2_with fail
  refine (code_any b ⟨l1.toArray⟩ w1 (hD.below d1)).mono ?_
  rintro e w2 ⟨rfl, d2⟩
  rw [show codeV (⟨l1.toArray⟩ : ByteArray).data.toList = _ from H1.out]
  have d12 := d1.trans (d2.mono d1.size)
  go_wp2_with fail
  refine (code_any b ⟨l1.toArray⟩ w2 (hD.below d12)).mono ?_
  rintro e w3 ⟨rfl, d3⟩
  rw [show codeV (⟨l1.toArray⟩ : ByteArray).data.toList = _ from H2.out]
  have d13 := d12.trans (d3.mono d12.size)
  go_wp2
  go_ret2
  exact ⟨rfl, d13⟩
set_option maxRecDepth 100000 in
set_option maxHeartbeats 2000000 in
theorem ends_one_less (b : Nat) (s : ByteArray) (w : World) {m : Int} (hG : FGlob w m) (hD : Digits w b) (hs : s.size ≤ 1000000) (l1 l2 : List UInt8) (n1 n2 : Nat) (ok1 ok2 : Bool) (_b1 : n1 < 16777216) (_b2 : n2 < 16777216)
    (HC : Hid (cutL s.data.toList (⟨#[46, 46]⟩ : ByteArray).data.toList = (l1, l2, false))) (H1 : Hid (codeV l1 = .tuple #[.int .i64 (n1 : Nat), .bool ok1])) (H2 : Hid (codeV l1 = .tuple #[.int .i64 (n2 : Nat), .bool ok2])) (h1 : ok1 = true) (h2 : ok2 = true) (h3 : n2 < n1) :
    Calls Tryz.prog 144 #[.map (some b), .string s] w fun e w' => e = .returned (endsV .range) ∧ Below w.heap.size w w' := by
  subst h1 h2
  have q1 : decide (n2 < n1) = true := decide_eq_true h3
  go_enter Tryz.func144, Tryz.ntmps144
  go_wp2_with fail
  refine (cut_any s _ w hG hs).mono ?_
  rintro e w1 ⟨rfl, d1⟩
  rw [HC.out]
  go_wp2_with fail
  refine (code_any b ⟨l1.toArray⟩ w1 (hD.below d1)).mono ?_
  rintro e w2 ⟨rfl, d2⟩
  rw [show codeV (⟨l1.toArray⟩ : ByteArray).data.toList = _ from H1.out]
  have d12 := d1.trans (d2.mono d1.size)
  go_wp2_with fail
  refine (code_any b ⟨l1.toArray⟩ w2 (hD.below d12)).mono ?_
  rintro e w3 ⟨rfl, d3⟩
  rw [show codeV (⟨l1.toArray⟩ : ByteArray).data.toList = _ from H2.out]
  have d13 := d12.trans (d3.mono d12.size)
  go_wp2
  go_ret2
  exact ⟨rfl, d13⟩
set_option maxRecDepth 100000 in
set_option maxHeartbeats 2000000 in
theorem ends_one_more (b : Nat) (s : ByteArray) (w : World) {m : Int} (hG : FGlob w m) (hD : Digits w b) (hs : s.size ≤ 1000000) (l1 l2 : List UInt8) (n1 n2 : Nat) (ok1 ok2 : Bool) (_b1 : n1 < 16777216) (_b2 : n2 < 16777216)
    (HC : Hid (cutL s.data.toList (⟨#[46, 46]⟩ : ByteArray).data.toList = (l1, l2, false))) (H1 : Hid (codeV l1 = .tuple #[.int .i64 (n1 : Nat), .bool ok1])) (H2 : Hid (codeV l1 = .tuple #[.int .i64 (n2 : Nat), .bool ok2])) (h1 : ok1 = true) (h2 : ok2 = true) (h3 : ¬ n2 < n1) (h4 : 1114111 < n2) :
    Calls Tryz.prog 144 #[.map (some b), .string s] w fun e w' => e = .returned (endsV .range) ∧ Below w.heap.size w w' := by
  subst h1 h2
  have q1 : decide (n2 < n1) = false := decide_eq_false h3
  have q2 : decide ((1114111 : Int) < ((n2 : Nat) : Int)) = true := decide_eq_true (by omega)
  go_enter Tryz.func144, Tryz.ntmps144
  go_wp2_with fail
  refine (cut_any s _ w hG hs).mono ?_
  rintro e w1 ⟨rfl, d1⟩
  rw [HC.out]
  go_wp2_with fail
  refine (code_any b ⟨l1.toArray⟩ w1 (hD.below d1)).mono ?_
  rintro e w2 ⟨rfl, d2⟩
  rw [show codeV (⟨l1.toArray⟩ : ByteArray).data.toList = _ from H1.out]
  have d12 := d1.trans (d2.mono d1.size)
  go_wp2_with fail
  refine (code_any b ⟨l1.toArray⟩ w2 (hD.below d12)).mono ?_
  rintro e w3 ⟨rfl, d3⟩
  rw [show codeV (⟨l1.toArray⟩ : ByteArray).data.toList = _ from H2.out]
  have d13 := d12.trans (d3.mono d12.size)
  go_wp2
  go_ret2
  exact ⟨rfl, d13⟩
set_option maxRecDepth 100000 in
set_option maxHeartbeats 2000000 in
theorem ends_one_good (b : Nat) (s : ByteArray) (w : World) {m : Int} (hG : FGlob w m) (hD : Digits w b) (hs : s.size ≤ 1000000) (l1 l2 : List UInt8) (n1 n2 : Nat) (ok1 ok2 : Bool) (_b1 : n1 < 16777216) (_b2 : n2 < 16777216)
    (HC : Hid (cutL s.data.toList (⟨#[46, 46]⟩ : ByteArray).data.toList = (l1, l2, false))) (H1 : Hid (codeV l1 = .tuple #[.int .i64 (n1 : Nat), .bool ok1])) (H2 : Hid (codeV l1 = .tuple #[.int .i64 (n2 : Nat), .bool ok2])) (h1 : ok1 = true) (h2 : ok2 = true) (h3 : ¬ n2 < n1) (h4 : ¬ 1114111 < n2) :
    Calls Tryz.prog 144 #[.map (some b), .string s] w fun e w' => e = .returned (endsV (.good n1 n2)) ∧ Below w.heap.size w w' := by
  subst h1 h2
  have q1 : decide (n2 < n1) = false := decide_eq_false h3
  have q2 : decide ((1114111 : Int) < ((n2 : Nat) : Int)) = false := decide_eq_false (by omega)
  go_enter Tryz.func144, Tryz.ntmps144
  go_wp2_with fail
  refine (cut_any s _ w hG hs).mono ?_
  rintro e w1 ⟨rfl, d1⟩
  rw [HC.out]
  go_wp2_with fail
  refine (code_any b ⟨l1.toArray⟩ w1 (hD.below d1)).mono ?_
  rintro e w2 ⟨rfl, d2⟩
  rw [show codeV (⟨l1.toArray⟩ : ByteArray).data.toList = _ from H1.out]
  have d12 := d1.trans (d2.mono d1.size)
  go_wp2_with fail
  refine (code_any b ⟨l1.toArray⟩ w2 (hD.below d12)).mono ?_
  rintro e w3 ⟨rfl, d3⟩
  rw [show codeV (⟨l1.toArray⟩ : ByteArray).data.toList = _ from H2.out]
  have d13 := d12.trans (d3.mono d12.size)
  go_wp2
  go_ret2
  exact ⟨rfl, d13⟩
set_option maxRecDepth 100000 in
set_option maxHeartbeats 2000000 in
theorem ends_two_hex1 (b : Nat) (s : ByteArray) (w : World) {m : Int} (hG : FGlob w m) (hD : Digits w b) (hs : s.size ≤ 1000000) (l1 l2 : List UInt8) (n1 n2 : Nat) (ok1 ok2 : Bool) (_b1 : n1 < 16777216) (_b2 : n2 < 16777216)
    (HC : Hid (cutL s.data.toList (⟨#[46, 46]⟩ : ByteArray).data.toList = (l1, l2, true))) (H1 : Hid (codeV l1 = .tuple #[.int .i64 (n1 : Nat), .bool ok1])) (H2 : Hid (codeV l2 = .tuple #[.int .i64 (n2 : Nat), .bool ok2])) (h1 : ok1 = false) :
    Calls Tryz.prog 144 #[.map (some b), .string s] w fun e w' => e = .returned (endsV .hex) ∧ Below w.heap.size w w' := by
  subst h1
  go_enter Tryz.func144, Tryz.ntmps144
  go_wp2_with fail
  refine (cut_any s _ w hG hs).mono ?_
  rintro e w1 ⟨rfl, d1⟩
  rw [HC.out]
  go_wp2_with fail
  refine (code_any b ⟨l1.toArray⟩ w1 (hD.below d1)).mono ?_
  rintro e w2 ⟨rfl, d2⟩
  rw [show codeV (⟨l1.toArray⟩ : ByteArray).data.toList = _ from H1.out]
  have d12 := d1.trans (d2.mono d1.size)
  go_wp2_with fail
  refine (code_any b ⟨l2.toArray⟩ w2 (hD.below d12)).mono ?_
  rintro e w3 ⟨rfl, d3⟩
  rw [show codeV (⟨l2.toArray⟩ : ByteArray).data.toList = _ from H2.out]
  have d13 := d12.trans (d3.mono d12.size)
  go_wp2
  go_ret2
  exact ⟨rfl, d13⟩
set_option maxRecDepth 100000 in
set_option maxHeartbeats 2000000 in
theorem ends_two_hex2 (b : Nat) (s : ByteArray) (w : World) {m : Int} (hG : FGlob w m) (hD : Digits w b) (hs : s.size ≤ 1000000) (l1 l2 : List UInt8) (n1 n2 : Nat) (ok1 ok2 : Bool) (_b1 : n1 < 16777216) (_b2 : n2 < 16777216)
    (HC : Hid (cutL s.data.toList (⟨#[46, 46]⟩ : ByteArray).data.toList = (l1, l2, true))) (H1 : Hid (codeV l1 = .tuple #[.int .i64 (n1 : Nat), .bool ok1])) (H2 : Hid (codeV l2 = .tuple #[.int .i64 (n2 : Nat), .bool ok2])) (h1 : ok1 = true) (h2 : ok2 = false) :
    Calls Tryz.prog 144 #[.map (some b), .string s] w fun e w' => e = .returned (endsV .hex) ∧ Below w.heap.size w w' := by
  subst h1 h2
  go_enter Tryz.func144, Tryz.ntmps144
  go_wp2_with fail
  refine (cut_any s _ w hG hs).mono ?_
  rintro e w1 ⟨rfl, d1⟩
  rw [HC.out]
  go_wp2_with fail
  refine (code_any b ⟨l1.toArray⟩ w1 (hD.below d1)).mono ?_
  rintro e w2 ⟨rfl, d2⟩
  rw [show codeV (⟨l1.toArray⟩ : ByteArray).data.toList = _ from H1.out]
  have d12 := d1.trans (d2.mono d1.size)
  go_wp2_with fail
  refine (code_any b ⟨l2.toArray⟩ w2 (hD.below d12)).mono ?_
  rintro e w3 ⟨rfl, d3⟩
  rw [show codeV (⟨l2.toArray⟩ : ByteArray).data.toList = _ from H2.out]
  have d13 := d12.trans (d3.mono d12.size)
  go_wp2
  go_ret2
  exact ⟨rfl, d13⟩
set_option maxRecDepth 100000 in
set_option maxHeartbeats 2000000 in
theorem ends_two_less (b : Nat) (s : ByteArray) (w : World) {m : Int} (hG : FGlob w m) (hD : Digits w b) (hs : s.size ≤ 1000000) (l1 l2 : List UInt8) (n1 n2 : Nat) (ok1 ok2 : Bool) (_b1 : n1 < 16777216) (_b2 : n2 < 16777216)
    (HC : Hid (cutL s.data.toList (⟨#[46, 46]⟩ : ByteArray).data.toList = (l1, l2, true))) (H1 : Hid (codeV l1 = .tuple #[.int .i64 (n1 : Nat), .bool ok1])) (H2 : Hid (codeV l2 = .tuple #[.int .i64 (n2 : Nat), .bool ok2])) (h1 : ok1 = true) (h2 : ok2 = true) (h3 : n2 < n1) :
    Calls Tryz.prog 144 #[.map (some b), .string s] w fun e w' => e = .returned (endsV .range) ∧ Below w.heap.size w w' := by
  subst h1 h2
  have q1 : decide (n2 < n1) = true := decide_eq_true h3
  go_enter Tryz.func144, Tryz.ntmps144
  go_wp2_with fail
  refine (cut_any s _ w hG hs).mono ?_
  rintro e w1 ⟨rfl, d1⟩
  rw [HC.out]
  go_wp2_with fail
  refine (code_any b ⟨l1.toArray⟩ w1 (hD.below d1)).mono ?_
  rintro e w2 ⟨rfl, d2⟩
  rw [show codeV (⟨l1.toArray⟩ : ByteArray).data.toList = _ from H1.out]
  have d12 := d1.trans (d2.mono d1.size)
  go_wp2_with fail
  refine (code_any b ⟨l2.toArray⟩ w2 (hD.below d12)).mono ?_
  rintro e w3 ⟨rfl, d3⟩
  rw [show codeV (⟨l2.toArray⟩ : ByteArray).data.toList = _ from H2.out]
  have d13 := d12.trans (d3.mono d12.size)
  go_wp2
  go_ret2
  exact ⟨rfl, d13⟩
set_option maxRecDepth 100000 in
set_option maxHeartbeats 2000000 in
theorem ends_two_more (b : Nat) (s : ByteArray) (w : World) {m : Int} (hG : FGlob w m) (hD : Digits w b) (hs : s.size ≤ 1000000) (l1 l2 : List UInt8) (n1 n2 : Nat) (ok1 ok2 : Bool) (_b1 : n1 < 16777216) (_b2 : n2 < 16777216)
    (HC : Hid (cutL s.data.toList (⟨#[46, 46]⟩ : ByteArray).data.toList = (l1, l2, true))) (H1 : Hid (codeV l1 = .tuple #[.int .i64 (n1 : Nat), .bool ok1])) (H2 : Hid (codeV l2 = .tuple #[.int .i64 (n2 : Nat), .bool ok2])) (h1 : ok1 = true) (h2 : ok2 = true) (h3 : ¬ n2 < n1) (h4 : 1114111 < n2) :
    Calls Tryz.prog 144 #[.map (some b), .string s] w fun e w' => e = .returned (endsV .range) ∧ Below w.heap.size w w' := by
  subst h1 h2
  have q1 : decide (n2 < n1) = false := decide_eq_false h3
  have q2 : decide ((1114111 : Int) < ((n2 : Nat) : Int)) = true := decide_eq_true (by omega)
  go_enter Tryz.func144, Tryz.ntmps144
  go_wp2_with fail
  refine (cut_any s _ w hG hs).mono ?_
  rintro e w1 ⟨rfl, d1⟩
  rw [HC.out]
  go_wp2_with fail
  refine (code_any b ⟨l1.toArray⟩ w1 (hD.below d1)).mono ?_
  rintro e w2 ⟨rfl, d2⟩
  rw [show codeV (⟨l1.toArray⟩ : ByteArray).data.toList = _ from H1.out]
  have d12 := d1.trans (d2.mono d1.size)
  go_wp2_with fail
  refine (code_any b ⟨l2.toArray⟩ w2 (hD.below d12)).mono ?_
  rintro e w3 ⟨rfl, d3⟩
  rw [show codeV (⟨l2.toArray⟩ : ByteArray).data.toList = _ from H2.out]
  have d13 := d12.trans (d3.mono d12.size)
  go_wp2
  go_ret2
  exact ⟨rfl, d13⟩
set_option maxRecDepth 100000 in
set_option maxHeartbeats 2000000 in
theorem ends_two_good (b : Nat) (s : ByteArray) (w : World) {m : Int} (hG : FGlob w m) (hD : Digits w b) (hs : s.size ≤ 1000000) (l1 l2 : List UInt8) (n1 n2 : Nat) (ok1 ok2 : Bool) (_b1 : n1 < 16777216) (_b2 : n2 < 16777216)
    (HC : Hid (cutL s.data.toList (⟨#[46, 46]⟩ : ByteArray).data.toList = (l1, l2, true))) (H1 : Hid (codeV l1 = .tuple #[.int .i64 (n1 : Nat), .bool ok1])) (H2 : Hid (codeV l2 = .tuple #[.int .i64 (n2 : Nat), .bool ok2])) (h1 : ok1 = true) (h2 : ok2 = true) (h3 : ¬ n2 < n1) (h4 : ¬ 1114111 < n2) :
    Calls Tryz.prog 144 #[.map (some b), .string s] w fun e w' => e = .returned (endsV (.good n1 n2)) ∧ Below w.heap.size w w' := by
  subst h1 h2
  have q1 : decide (n2 < n1) = false := decide_eq_false h3
  have q2 : decide ((1114111 : Int) < ((n2 : Nat) : Int)) = false := decide_eq_false (by omega)
  go_enter Tryz.func144, Tryz.ntmps144
  go_wp2_with fail
  refine (cut_any s _ w hG hs).mono ?_
  rintro e w1 ⟨rfl, d1⟩
  rw [HC.out]
  go_wp2_with fail
  refine (code_any b ⟨l1.toArray⟩ w1 (hD.below d1)).mono ?_
  rintro e w2 ⟨rfl, d2⟩
  rw [show codeV (⟨l1.toArray⟩ : ByteArray).data.toList = _ from H1.out]
  have d12 := d1.trans (d2.mono d1.size)
  go_wp2_with fail
  refine (code_any b ⟨l2.toArray⟩ w2 (hD.below d12)).mono ?_
  rintro e w3 ⟨rfl, d3⟩
  rw [show codeV (⟨l2.toArray⟩ : ByteArray).data.toList = _ from H2.out]
  have d13 := d12.trans (d3.mono d12.size)
  go_wp2
  go_ret2
  exact ⟨rfl, d13⟩
theorem ends_any (b : Nat) (s : ByteArray) (w : World) {m : Int} (hG : FGlob w m) (hD : Digits w b) (hs : s.size ≤ 1000000) :
    Calls Tryz.prog 144 #[.map (some b), .string s] w fun e w' => e = .returned (endsV (endsL s.data.toList)) ∧ Below w.heap.size w w' := by
  obtain ⟨l1, l2, two, hc⟩ : ∃ l1 l2 two, cutL s.data.toList [46, 46] = (l1, l2, two) := ⟨_, _, _, rfl⟩
  have HC : Hid (cutL s.data.toList (⟨#[46, 46]⟩ : ByteArray).data.toList = (l1, l2, two)) := Lib.hid hc
  obtain ⟨lx, hlx⟩ : ∃ lx, (if two then l2 else l1) = lx := ⟨_, rfl⟩
  obtain ⟨n1, ok1, h1, b1, c1, z1⟩ := codeV_form l1
  obtain ⟨n2, ok2, h2, b2, c2, z2⟩ := codeV_form lx
  have H1 := Lib.hid h1
  have H2 := Lib.hid h2
  have hp : pairL s.data.toList = (codeL l1, codeL lx) := by
    unfold pairL; rw [hc, ← hlx]
    cases two <;> rfl
  have he : endsL s.data.toList = match (if ok1 then some n1 else none), (if ok2 then some n2 else none) with | some a, some b => if b < a ∨ 1114111 < b then .range else .good a b | _, _ => .hex := by
    unfold endsL
    rw [hp, c1, c2]
    cases ok1 <;> cases ok2 <;> rfl
  rw [he]
  cases two
  · obtain rfl : l1 = lx := hlx
    cases ok1
    · exact ends_one_hex1 b s w hG hD hs l1 l2 n1 n2 _ ok2 b1 b2 HC H1 H2 rfl
    · cases ok2
      · exact ends_one_hex2 b s w hG hD hs l1 l2 n1 n2 _ _ b1 b2 HC H1 H2 rfl rfl
      · show Calls _ _ _ _ fun e w' => e = .returned (endsV (if n2 < n1 ∨ 1114111 < n2 then .range else .good n1 n2)) ∧ _
        by_cases h3 : n2 < n1
        · rw [if_pos (.inl h3)]; exact ends_one_less b s w hG hD hs l1 l2 n1 n2 _ _ b1 b2 HC H1 H2 rfl rfl h3
        · by_cases h4 : 1114111 < n2
          · rw [if_pos (.inr h4)]; exact ends_one_more b s w hG hD hs l1 l2 n1 n2 _ _ b1 b2 HC H1 H2 rfl rfl h3 h4
          · rw [if_neg (by omega)]; exact ends_one_good b s w hG hD hs l1 l2 n1 n2 _ _ b1 b2 HC H1 H2 rfl rfl h3 h4
  · obtain rfl : l2 = lx := hlx
    cases ok1
    · exact ends_two_hex1 b s w hG hD hs l1 l2 n1 n2 _ ok2 b1 b2 HC H1 H2 rfl
    · cases ok2
      · exact ends_two_hex2 b s w hG hD hs l1 l2 n1 n2 _ _ b1 b2 HC H1 H2 rfl rfl
      · show Calls _ _ _ _ fun e w' => e = .returned (endsV (if n2 < n1 ∨ 1114111 < n2 then .range else .good n1 n2)) ∧ _
        by_cases h3 : n2 < n1
        · rw [if_pos (.inl h3)]; exact ends_two_less b s w hG hD hs l1 l2 n1 n2 _ _ b1 b2 HC H1 H2 rfl rfl h3
        · by_cases h4 : 1114111 < n2
          · rw [if_pos (.inr h4)]; exact ends_two_more b s w hG hD hs l1 l2 n1 n2 _ _ b1 b2 HC H1 H2 rfl rfl h3 h4
          · rw [if_neg (by omega)]; exact ends_two_good b s w hG hD hs l1 l2 n1 n2 _ _ b1 b2 HC H1 H2 rfl rfl h3 h4
end Go.Proofs.YtfgnpdfdncnbfaaGreatDoor

namespace Go.Proofs.YtfgnpdfdncnbfaaGreatDoor
open Go.RowKit Go.Shelf
attribute [local go_sem ↓] app_hide

abbrev recC (line a b : Int) (v : Value) : Array Value := #[.int .i64 line, .int .i64 a, .int .i64 b, v]
abbrev recV (line a b : Int) (v : Value) : Value := .agg (recC line a b v)
abbrev recO (line a b : Int) (v : Value) : Obj := .cells (recC line a b v) 47 (0, 0)
theorem rec_cells {w : World} {g : Nat} {line a b : Int} {v : Value} (h : w.heap[g]? = some (recO line a b v)) :
    w.cell? ⟨g, 0, none⟩ = some (.int .i64 line) ∧ w.cell? ⟨g, 1, none⟩ = some (.int .i64 a) ∧ w.cell? ⟨g, 2, none⟩ = some (.int .i64 b) ∧ w.cell? ⟨g, 3, none⟩ = some v ∧ (∀ i, w.frozen? ⟨g, i, none⟩ = false) := by
  refine ⟨?_, ?_, ?_, ?_, fun i => frozen_of_row _ _ i _ _ h⟩
  · rw [cell_of_row _ _ 0 _ _ _ h]; rfl
  · rw [cell_of_row _ _ 1 _ _ _ h]; rfl
  · rw [cell_of_row _ _ 2 _ _ _ h]; rfl
  · rw [cell_of_row _ _ 3 _ _ _ h]; rfl
theorem set_heap {w : World} {g i : Nat} {cs : Array Value} {t : TypeId} {fr : Nat × Nat} (v : Value) (h : w.heap[g]? = some (.cells cs t fr)) : (w.setCell ⟨g, i, none⟩ v).heap[g]? = some (.cells (cs.setIfInBounds i v) t fr) := by
  have hlt : g < w.heap.size := (Array.getElem?_eq_some_iff.1 h).1
  have hv : w.heap[g] = .cells cs t fr := (Array.getElem?_eq_some_iff.1 h).2
  unfold World.setCell
  simp only
  rw [Array.getElem?_eq_getElem (by rw [Array.size_modify]; exact hlt), Array.getElem_modify_self, hv]
  simp

theorem recordOf_none (a b : Nat) (o : Option Addr) (cap : Nat) (w : World) :
    Calls Tryz.prog 146 #[.complex .f64 (flN a) (flN b), .slice o 0 cap] w fun e w' => e = .returned (.tuple #[recV 0 0 0 (.slice none 0 0), wrongV 23]) ∧ Below w.heap.size w w' := by
  go_enter Tryz.func146, Tryz.ntmps146
  go_wp2
  refine bodyPost_ret (v := .tuple #[recV 0 0 0 (.slice none 0 0), wrongV 23]) ?_ rfl ⟨rfl, (Below.refl _ _).alloc (Nat.le_refl _) _⟩
  exact results_cell_tmp rfl _ _ w.heap.size 47 (recC 0 0 0 (.slice none 0 0)) (0, 0) _ _ rfl rfl (heap_alloc_new _ _) Tryz.underlying47 rfl (by kernel_rfl)
theorem recordOf_many (a b : Nat) (o : Option Addr) (n cap : Nat) (hn : 20 < n) (w : World) :
    Calls Tryz.prog 146 #[.complex .f64 (flN a) (flN b), .slice o n cap] w fun e w' => e = .returned (.tuple #[recV 0 0 0 (.slice none 0 0), wrongV 23]) ∧ Below w.heap.size w w' := by
  have h0 : (((n : Nat) : Int) == 0) = false := by simp; omega
  have h1 : decide ((20 : Int) < ((n : Nat) : Int)) = true := decide_eq_true (by omega)
  go_enter Tryz.func146, Tryz.ntmps146
  go_wp2
  refine bodyPost_ret (v := .tuple #[recV 0 0 0 (.slice none 0 0), wrongV 23]) ?_ rfl ⟨rfl, (Below.refl _ _).alloc (Nat.le_refl _) _⟩
  exact results_cell_tmp rfl _ _ w.heap.size 47 (recC 0 0 0 (.slice none 0 0)) (0, 0) _ _ rfl rfl (heap_alloc_new _ _) Tryz.underlying47 rfl (by kernel_rfl)

theorem clone_any (s : ByteArray) (w : World) (hs : s.size ≤ 1000000) :
    Calls Tryz.prog 171 #[.string s] w fun e w' => e = .returned (.string s) ∧ Below w.heap.size w w' := by
  go_enter Tryz.func171, Tryz.ntmps171
  go_wp2_with fail
  refine (Tryz.stringslite_Clone s w (by omega)).mono ?_
  rintro e w' ⟨rfl, hB⟩
  go_wp2
  go_ret
  exact ⟨rfl, hB⟩

/-- A copy, and what comes of its being put behind a row of texts. -/
theorem clone_app (s : ByteArray) (hs : s.size ≤ 1000000) {W : World} {v : Value} {k base bx : Nat} {xs : List Value} {a b : Int} (hrow : W.heap[bx]? = some (recO 0 a b v)) (ho : W.ownsRow base 9 1 v k xs) (hbx : bx < base) (hbase : base ≤ W.heap.size) (hk : k ≤ 1000) :
    Calls Tryz.prog 171 #[.string s] W fun e w' => e = .returned (.string s) ∧ Below W.heap.size W w' ∧ ∃ o cap w6, (appSem #[22, 22] 22 #[v, .slice (some ⟨w'.heap.size, 0, none⟩) 1 1]).run Tryz.prog (w'.alloc (.cells #[.string s] 9)) = .ok (.slice o (k + 1) cap) w6 ∧
      w6.heap[bx]? = some (recO 0 a b v) ∧ w6.ownsRow base 9 1 (.slice o (k + 1) cap) (k + 1) (xs ++ [.string s]) ∧ Below base W w6 := by
  obtain ⟨i0, hi, hz0, hz1, hz2⟩ := info_parts infoString
  refine (clone_any s W hs).mono ?_
  rintro e w' ⟨rfl, hb⟩
  have hb2 : Below W.heap.size W (w'.alloc (.cells #[.string s] 9)) := hb.alloc hb.size _
  have hown := own_below ho hb2
  obtain ⟨v', w6, hr, h2, h3, h4⟩ := run_append_own (P := Tryz.prog) _ base 22 22 9 i0 (.string ⟨#[]⟩) 1 16 Tryz.underlying22 hi hz0 hz1 hz2 rfl (by decide) v k xs hown ⟨w'.heap.size, 0, none⟩ 1 1 [.string s] rfl
    (cell_one_new _ _ _) (by simp [Value.oneCell']) (by unfold maxLen; omega) (by omega) (by have := hb2.size; omega)
  obtain ⟨o, cap, rfl⟩ := own_form h2
  have hne : ∀ g, v.ownBlock = some g → base ≤ g := by
    intro g hg
    rcases ho.2 with ⟨rfl, _⟩ | ⟨g', cap', cur, rfl, hb', _⟩
    · simp [Value.ownBlock] at hg
    · obtain rfl : g' = g := by simpa [Value.ownBlock] using hg
      exact hb'
  have hlt : bx < W.heap.size := (Array.getElem?_eq_some_iff.1 hrow).1
  have hrow2 : (w'.alloc (.cells #[.string s] 9)).heap[bx]? = some (recO 0 a b v) := (hb2.block _ hlt).trans hrow
  refine ⟨rfl, hb, o, cap, w6, hr, ?_, h2, ?_⟩
  · refine (h3.block bx (Array.getElem?_eq_some_iff.1 hrow2).1 fun e => ?_).trans hrow2
    have := hne bx e.symm
    omega
  · exact Below.grown (hb2.mono hbase) h3 (by have := hb2.size; omega) (fun g hg => hne g hg)

theorem own_ge {w : World} {base : Nat} {e : TypeId} {size : Nat} {v : Value} {n : Nat} {xs : List Value} (h : w.ownsRow base e size v n xs) {g : Nat} (hg : v.ownBlock = some g) : base ≤ g := by
  rcases h.2 with ⟨rfl, _⟩ | ⟨g', cap', cur, rfl, hb', _⟩
  · simp [Value.ownBlock] at hg
  · obtain rfl : g' = g := by simpa [Value.ownBlock] using hg
    exact hb'
theorem grownBy_setAt (W : World) (a : Addr) (v : Value) : W.grownBy (W.setCell a v) (some a.block) :=
  ⟨rfl, rfl, rfl, (KeepsWalks.setCell W _ v).size, fun k _ hk => Below.heap_setCell _ _ _ k (fun e => hk (by rw [e]))⟩
theorem own_setRow {w : World} {base g : Nat} {e : TypeId} {size : Nat} {v : Value} {n : Nat} {xs : List Value} {cs : Array Value} (h : w.ownsRow base e size v n xs) (hg : g < base) : (w.setRow g cs).ownsRow base e size v n xs :=
  h.kept ⟨rfl, rfl, rfl, by simp, fun k _ hk => setRow_other _ _ _ _ (fun e => hk (by rw [e]))⟩ (.inr fun e => by have := own_ge h e; omega)
/-- A round's end: the record's fields one more, all else as it was. -/
theorem rec_close {w wr w1 w6 : World} {a b : Int} {v : Value} {o : Option Addr} {k cp : Nat} {xs : List Value} (hbw : Below w.heap.size w wr) (hrow : wr.heap[w.heap.size + 1]? = some (recO 0 a b v)) (hres : wr.heap[w.heap.size]? = some (recO 0 0 0 (.slice none 0 0))) (hb1 : Below wr.drew.heap.size wr.drew w1)
    (hb6 : Below (w.heap.size + 2) w1 w6) (hrow6 : w6.heap[w.heap.size + 1]? = some (recO 0 a b v)) (ho6 : w6.ownsRow (w.heap.size + 2) 9 1 (.slice o k cp) k xs) :
    (w6.setCell ⟨w.heap.size + 1, 3, none⟩ (.slice o k cp)).heap[w.heap.size + 1]? = some (recO 0 a b (.slice o k cp)) ∧ (w6.setCell ⟨w.heap.size + 1, 3, none⟩ (.slice o k cp)).heap[w.heap.size]? = some (recO 0 0 0 (.slice none 0 0)) ∧
      (w6.setCell ⟨w.heap.size + 1, 3, none⟩ (.slice o k cp)).ownsRow (w.heap.size + 2) 9 1 (.slice o k cp) k xs ∧ Below w.heap.size w (w6.setCell ⟨w.heap.size + 1, 3, none⟩ (.slice o k cp)) := by
  have hlt : w.heap.size + 1 < wr.heap.size := (Array.getElem?_eq_some_iff.1 hrow).1
  have h1 : wr.drew.heap.size = wr.heap.size := rfl
  refine ⟨set_heap _ hrow6, ?_, ?_, ?_⟩
  · refine (Below.heap_setCell w6 ⟨w.heap.size + 1, 3, none⟩ _ w.heap.size (by simp)).trans ?_
    exact (hb6.block _ (by omega)).trans ((hb1.block _ (by omega)).trans hres)
  · exact ho6.kept (grownBy_setAt w6 ⟨w.heap.size + 1, 3, none⟩ _) (.inr fun e => by have h : w.heap.size + 2 ≤ w.heap.size + 1 := own_ge ho6 e; omega)
  · have h2 : Below w.heap.size w w1 := (hbw.drew).trans (hb1.mono (by rw [h1]; exact hbw.size))
    exact (h2.trans (hb6.mono (by omega))).setCell (by simp) _
def trimV (s : ByteArray) : Value := strV (trimL s.data.toList)
theorem trimL_le (l : List UInt8) : (trimL l).length ≤ l.length := by
  unfold trimL Lib.trimS Lib.trimLeftS Lib.trimRightS
  refine Nat.le_trans (List.dropWhile_suffix _).length_le ?_
  rw [List.length_reverse]
  refine Nat.le_trans (List.dropWhile_suffix _).length_le ?_
  rw [List.length_reverse]
  exact Nat.le_refl _

set_option maxRecDepth 100000 in
set_option maxHeartbeats 2000000 in
theorem recordOf_go (a b : Nat) (ha : a < 16777216) (hb : b < 16777216) (ad : Addr) (fs : List ByteArray) (cap : Nat) (h1 : 1 ≤ fs.length) (h20 : fs.length ≤ 20) (hsz : ∀ s ∈ fs, s.size ≤ 1000000) (w : World)
    (hc : ∀ i, i < fs.length → w.cell? (ad.add i) = some (.string (fs.getD i ByteArray.empty))) :
    Calls Tryz.prog 146 #[.complex .f64 (flN a) (flN b), .slice (some ad) fs.length cap] w fun e w' => ∃ v, e = .returned (.tuple #[recV 0 a b v, .nilIface]) ∧ w'.ownsRow w.heap.size 9 1 v fs.length (fs.map trimV) ∧ Below w.heap.size w w' := by
  have hca := conv_back (n := a) (by omega)
  have hcb := conv_back (n := b) (by omega)
  have h0 : (((fs.length : Nat) : Int) == 0) = false := by simp; intro h; rw [h] at h1; simp at h1
  have h2 : decide ((20 : Int) < ((fs.length : Nat) : Int)) = false := decide_eq_false (by omega)
  obtain ⟨n, hn⟩ : ∃ n, fs.length = n := ⟨_, rfl⟩
  rw [hn] at h0 h2 h1 h20 hc ⊢
  have HN := Lib.hid hn
  have HC := Lib.hid hc
  have HSZ := Lib.hid hsz
  clear hn hc hsz
  go_enter Tryz.func146, Tryz.ntmps146
  go_wp2_with fail
  go_loopg [28] (n) (fun k i wr => ∃ (j : Nat) (v : Value), i = .int .i64 (j : Nat) ∧ j ≤ n ∧ n - j = k ∧ wr.heap[w.heap.size + 1]? = some (recO 0 a b v) ∧ wr.heap[w.heap.size]? = some (recO 0 0 0 (.slice none 0 0)) ∧ Hid (wr.ownsRow (w.heap.size + 2) 9 1 v j ((fs.take j).map trimV)) ∧ Below w.heap.size w wr)
  case atStart =>
    refine ⟨0, .slice none 0 0, rfl, Nat.zero_le _, rfl, ?_, ?_, Lib.hid (World.ownsRow_nil _ _ _ _), ((Below.refl _ _).alloc (Nat.le_refl _) _).alloc (by simp) _⟩
    · have := heap_alloc_new (w.alloc (recO 0 0 0 (.slice none 0 0))) (recO 0 a b (.slice none 0 0))
      rwa [World.size_alloc] at this
    · rw [Below.heap_alloc _ _ _ (by simp)]
      exact heap_alloc_new _ _
  case round =>
    obtain ⟨j, v, rfl, hj, rfl, hrow, hres, ho, hbw⟩ := hrel
    obtain ⟨c0, c1, c2, c3, c4⟩ := rec_cells hrow
    rcases Nat.lt_or_ge j n with hlt | hge
    · have hcell := cell_keep (hbw.mono (Nat.le_refl _)) (HC.out j hlt)
      have hmem : (fs.getD j ByteArray.empty).size ≤ 1000000 := HSZ.out _ (by rw [List.getD_eq_getElem?_getD, List.getElem?_eq_getElem (by rw [HN.out]; exact hlt)]; exact List.getElem_mem _)
      obtain ⟨s, hs⟩ : ∃ s, fs.getD j ByteArray.empty = s := ⟨_, rfl⟩
      rw [hs] at hcell hmem
      have hfs : fs.take (j + 1) = fs.take j ++ [s] := by
        rw [take_snoc' fs (by rw [HN.out]; exact hlt), ← hs, List.getD_eq_getElem?_getD, List.getElem?_eq_getElem (by rw [HN.out]; exact hlt)]
        rfl
      have hlt1 : w.heap.size + 1 < wr.heap.size := (Array.getElem?_eq_some_iff.1 hrow).1
      have hts : (⟨(trimL s.data.toList).toArray⟩ : ByteArray).size ≤ 1000000 := by
        have h := trimL_le s.data.toList
        have h5 : s.data.toList.length = s.size := Array.length_toList
        show (trimL s.data.toList).toArray.size ≤ _
        simp only [List.size_toArray]
        omega
      have HFS := Lib.hid hfs
      have HROW := Lib.hid hrow
      have HRES := Lib.hid hres
      have HMEM := Lib.hid hmem
      have HTS := Lib.hid hts
      have HBW := Lib.hid hbw
      obtain ⟨o, cp, rfl⟩ := own_form ho.out
      clear hs hfs hts hmem hbw hrow hres
      go_wp2
      go_region_with (first
          | (go_at_call 145; refine Calls.mono (trim_any s _ HMEM.out) ?_; rintro e w1 ⟨rfl, hb1⟩; have c31 : w1.cell? ⟨w.heap.size + 1, 3, none⟩ = some (.slice o j cp) := cell_keep hb1 c3; have hrow1 := row_below (show wr.drew.heap[w.heap.size + 1]? = _ from HROW.out) hb1; have ho1 := own_below (show wr.drew.ownsRow _ _ _ _ _ _ from ho.out) hb1; have hz1 := Below.size hb1)
          | (go_at_call 171; refine Calls.mono (clone_app ⟨(trimL s.data.toList).toArray⟩ HTS.out hrow1 ho1 (by omega) (by simp at hz1; omega) (by omega)) ?_; rintro e w2 ⟨rfl, hb2, o', cp', w6, hrun, hrow6, ho6, hb6⟩; have hlt2 : w.heap.size + 1 < w2.heap.size := World.block_lt_of_cell? w2 _ (cell_keep hb2 c31); have c32 : w2.cell? ⟨w.heap.size + 1, 3, none⟩ = some (.slice o j cp) := cell_keep hb2 c31; obtain ⟨d0, d1, d2, d3, d4⟩ := rec_cells hrow6))
      all_goals
        have HCL := Lib.hid (rec_close HBW.out HROW.out HRES.out hb1 hb6 hrow6 ho6)
        clear hb1 hb2 c31 hrow1 ho1 hz1 hrun hrow6 ho6 hb6 hlt2 c32 d0 d1 d2 d3 d4 c0 c1 c2 c3 c4 hcell
        go_wp2
        go_roundg (n - (j + 1))
        case measure => omega
        case rel =>
          obtain ⟨k1, k2, k3, k4⟩ := HCL.out
          refine ⟨j + 1, _, by simp, by omega, rfl, k1, k2, Lib.hid ?_, k4⟩
          rw [HFS.out, List.map_append]
          exact k3
    · obtain rfl : j = n := by omega
      have hall : fs.take j = fs := List.take_of_length_le (by rw [HN.out]; omega)
      obtain ⟨o, cp, rfl⟩ := own_form ho.out
      have HO := Lib.hid ho.out
      rw [hall] at HO
      have HRES := Lib.hid hres
      have HBW := Lib.hid hbw
      clear hall ho hres hbw hrow
      go_wp2_with (refine wpList_store_row rfl 47 (.tmp 4) (.tmp 41) rfl w.heap.size (recC 0 a b (.slice o j cp)) rfl rfl 47 _ HRES.out (by kernel_rfl) rfl (by simp [Value.oneCell']) ?_)
      refine bodyPost_ret (v := .tuple #[recV 0 a b (.slice o j cp), .nilIface]) ?_ rfl ⟨_, rfl, ?_, ?_⟩
      · exact results_cell_tmp rfl _ _ w.heap.size 47 (recC 0 a b (.slice o j cp)) (0, 0) _ _ rfl rfl (setRow_heap _ _ _ _ _ _ HRES.out) Tryz.underlying47 rfl (by kernel_rfl)
      · exact own_base (own_setRow HO.out (by omega)) (by omega)
      · exact below_setRow HBW.out (Nat.le_refl _) _
end Go.Proofs.YtfgnpdfdncnbfaaGreatDoor

namespace Go.Proofs.YtfgnpdfdncnbfaaGreatDoor
open Go.RowKit Go.Shelf

inductive LineR
  | nothing
  | bad (e : Nat)
  | good (a b : Nat) (fs : List (List UInt8))
/-- What the parter parts, at most twenty-two parts. -/
def partsL (t : List UInt8) : List (List UInt8) := Lib.splitK [59] 0 (min 22 (t.length + 1) - 1) t
def recordR (t : List UInt8) : LineR := match endsL (trimL ((partsL t).headD [])) with
  | .hex => .bad 21
  | .range => .bad 22
  | .good a b => if (partsL t).length = 1 ∨ 21 < (partsL t).length then .bad 23 else .good a b (((partsL t).drop 1).map trimL)
def lineL (l : List UInt8) : LineR := if countedL l = [] then .nothing else recordR (countedL l)

section
variable {P : Program}
theorem results_cell_tmps {fn : Func} {p q r : Tmp} {ty : TypeId} (h : fn.results = #[.cell p ty, .tmp q, .tmp r]) (tmps : Array Value) (w : World) (g : Nat) (t : TypeId) (cs : Array Value) (fr : Nat × Nat) (d : TypeDesc) (v u : Value)
    (hp : tmps.getD p undef = .pointer (some ⟨g, 0, none⟩)) (hq : tmps.getD q undef = v) (hr : tmps.getD r undef = u) (hg : w.heap[g]? = some (.cells cs t fr))
    (hu : P.underlying ty = some d) (hd : (match d with | .struct _ | .array _ _ => true | _ => false) = true) (hi : (P.info? ty).map (·.size) = some cs.size) :
    (results fn tmps).run P w = .ok (.tuple #[.agg cs, v, u]) w := by
  have hp' : tmps[p]?.getD undef = .pointer (some ⟨g, 0, none⟩) := by simpa using hp
  have hq' : tmps[q]?.getD undef = v := by simpa using hq
  have hr' : tmps[r]?.getD undef = u := by simpa using hr
  simp [results, h, hp', hq', hr', asAddr, run_loadVar_row w g t ty cs fr d hg hu hd hi]
end

theorem counted_any (s : ByteArray) (w : World) {m : Int} (hG : FGlob w m) (hs : s.size ≤ 1000000) :
    Calls Tryz.prog 142 #[.string s] w fun e w' => e = .returned (strV (countedL s.data.toList)) ∧ Below w.heap.size w w' := by
  obtain ⟨l1, l2, two, hc⟩ : ∃ l1 l2 two, cutL s.data.toList [35] = (l1, l2, two) := ⟨_, _, _, rfl⟩
  have HC : Hid (cutL s.data.toList (⟨#[35]⟩ : ByteArray).data.toList = (l1, l2, two)) := Lib.hid hc
  have hle := (cutL_le s.data.toList [35]).1
  rw [hc] at hle
  have hl : s.data.toList.length = s.size := Array.length_toList
  have h1 : (⟨l1.toArray⟩ : ByteArray).size ≤ 1000000 := by show l1.toArray.size ≤ _; simp only [List.size_toArray]; simp only at hle; omega
  have HV : Hid (countedL s.data.toList = trimL l1) := Lib.hid (by unfold countedL; rw [hc])
  have H1 := Lib.hid h1
  clear hc hle hl h1
  go_enter Tryz.func142, Tryz.ntmps142
  go_wp2_with fail
  refine (cut_any s _ w hG hs).mono ?_
  rintro e w1 ⟨rfl, d1⟩
  rw [HC.out]
  go_wp2_with fail
  refine (trim_any ⟨l1.toArray⟩ w1 H1.out).mono ?_
  rintro e w2 ⟨rfl, d2⟩
  go_wp2
  go_ret
  exact ⟨by rw [HV.out]; rfl, d1.trans (d2.mono d1.size)⟩

def RecPost (R : LineR) (w : World) (e : Ending) (w' : World) : Prop := match R with
  | .nothing => e = .returned (.tuple #[recV 0 0 0 (.slice none 0 0), .bool false, .nilIface]) ∧ Below w.heap.size w w'
  | .bad n => e = .returned (.tuple #[recV 0 0 0 (.slice none 0 0), .bool false, wrongV n]) ∧ Below w.heap.size w w'
  | .good a b fs => ∃ v, e = .returned (.tuple #[recV 0 a b v, .bool true, .nilIface]) ∧ w'.ownsRow w.heap.size 9 1 v fs.length (fs.map strV) ∧ Below w.heap.size w w'

theorem splitK_le (sep : List UInt8) (save : Nat) : ∀ (k : Nat) (s p : List UInt8), p ∈ Lib.splitK sep save k s → p.length ≤ s.length
  | 0, s, p, h => by
    rw [Lib.splitK] at h
    rw [List.mem_singleton.1 h]
    exact Nat.le_refl _
  | k + 1, s, p, h => by
    rw [Lib.splitK] at h
    split at h
    · rw [List.mem_singleton.1 h]
      exact Nat.le_refl _
    · rcases List.mem_cons.1 h with rfl | h
      · rw [List.length_take]; omega
      · have := splitK_le sep save k _ p h
        rw [List.length_drop] at this
        omega
theorem splitK_length (sep : List UInt8) (save : Nat) : ∀ (k : Nat) (s : List UInt8), 1 ≤ (Lib.splitK sep save k s).length ∧ (Lib.splitK sep save k s).length ≤ k + 1
  | 0, s => by rw [Lib.splitK]; simp
  | k + 1, s => by
    rw [Lib.splitK]
    split
    · simp
    · have := splitK_length sep save k (s.drop ((Lib.index s sep).toNat + sep.length))
      simp only [List.length_cons]
      omega
theorem split_any (s : ByteArray) (w : World) {m : Int} (hG : FGlob w m) (hs : s.size ≤ 1000000) (h0 : s.data.toList ≠ []) :
    Calls Tryz.prog 143 #[.string s, .string ⟨#[59]⟩, .int .i64 22] w fun e w' => ∃ (ps : List ByteArray) (cap : Nat), e = .returned (.slice (some ⟨w.heap.size, 0, none⟩) ps.length cap) ∧ ps.map (·.data.toList) = partsL s.data.toList ∧
      (∀ i, i < ps.length → w'.cell? ⟨w.heap.size, i, none⟩ = some (.string (ps.getD i ByteArray.empty))) ∧ 1 ≤ ps.length ∧ ps.length ≤ 22 ∧ ps.length ≤ cap ∧ 2 ≤ cap ∧ (∀ p ∈ ps, p.size ≤ 1000000) ∧ Below w.heap.size w w' := by
  have hl : s.data.toList.length = s.size := Array.length_toList
  have hpos : 1 ≤ s.size := by rw [← hl]; exact List.length_pos_iff.2 h0
  refine (Tryz.strings_SplitN s ⟨#[59]⟩ 22 m w (by omega) hG.mx (by decide) (by decide) (by decide)).mono ?_
  rintro e w' ⟨rfl, rfl⟩
  have hd := Lib.splitB_data ⟨#[59]⟩ 0 (min 22 (s.size + 1) - 1) s
  have hlen := splitK_length [59] 0 (min 22 (s.size + 1) - 1) s.data.toList
  obtain ⟨ps, hps⟩ : ∃ ps, Lib.splitB ⟨#[59]⟩ 0 (min 22 (s.size + 1) - 1) s = ps := ⟨_, rfl⟩
  rw [hps] at hd ⊢
  have hpl : ps.map (·.data.toList) = partsL s.data.toList := by unfold partsL; rw [hl]; exact hd
  have hln : ps.length = (Lib.splitK [59] 0 (min 22 (s.size + 1) - 1) s.data.toList).length := by rw [← show ps.map (·.data.toList) = Lib.splitK [59] 0 (min 22 (s.size + 1) - 1) s.data.toList from hd, List.length_map]
  refine ⟨ps, min 22 (s.size + 1), rfl, hpl, ?_, by omega, by omega, by omega, by omega, ?_, (Below.refl _ _).alloc (Nat.le_refl _) _⟩
  · intro i hi
    rw [cell_of_row _ _ i _ _ _ (heap_alloc_new w _)]
    unfold Lib.cellsOf
    simp only [List.getElem?_toArray]
    rw [List.getElem?_append_left (by rw [List.length_map]; exact hi), List.getElem?_map, List.getElem?_eq_getElem hi]
    simp [List.getD, hi]
  · intro p hp
    have h1 : p.data.toList ∈ partsL s.data.toList := by rw [← hpl]; exact List.mem_map_of_mem hp
    have h2 := splitK_le _ _ _ _ _ h1
    have h3 : p.data.toList.length = p.size := Array.length_toList
    omega

/-- The block of the record that is answered. -/
theorem zero_rows {w w1 : World} (d1 : Below ((w.alloc (recO 0 0 0 (.slice none 0 0))).alloc (recO 0 0 0 (.slice none 0 0))).heap.size ((w.alloc (recO 0 0 0 (.slice none 0 0))).alloc (recO 0 0 0 (.slice none 0 0))) w1) :
    w1.heap[w.heap.size]? = some (recO 0 0 0 (.slice none 0 0)) ∧ w1.heap[w.heap.size + 1]? = some (recO 0 0 0 (.slice none 0 0)) ∧ Below w.heap.size w w1 := by
  refine ⟨?_, ?_, ?_⟩
  · refine row_below ?_ d1
    rw [Below.heap_alloc _ _ _ (by simp)]
    exact heap_alloc_new _ _
  · refine row_below ?_ d1
    have := heap_alloc_new (w.alloc (recO 0 0 0 (.slice none 0 0))) (recO 0 0 0 (.slice none 0 0))
    rwa [World.size_alloc] at this
  · exact (((Below.refl _ _).alloc (Nat.le_refl _) _).alloc (by simp) _).trans (d1.mono (by simp; omega))

set_option maxRecDepth 100000 in
set_option maxHeartbeats 1000000 in
theorem record_nothing (b : Nat) (s : ByteArray) (w : World) {m : Int} (hG : FGlob w m) (hs : s.size ≤ 1000000) (hc : countedL s.data.toList = []) :
    Calls Tryz.prog 120 #[.map (some b), .string s] w (RecPost .nothing w) := by
  have HC := Lib.hid hc
  have hG2 := hG.below (((Below.refl w.heap.size w).alloc (Nat.le_refl _) (recO 0 0 0 (.slice none 0 0))).alloc (by simp) (recO 0 0 0 (.slice none 0 0)))
  clear hc
  go_enter Tryz.func120, Tryz.ntmps120
  go_wp2_with fail
  refine wp_scope_forth 0 (by simp [findLabel]; rfl) ?_
  go_wp2_with fail
  refine (counted_any s _ hG2 hs).mono ?_
  rintro e w1 ⟨rfl, d1⟩
  rw [HC.out]
  obtain ⟨r0, r1, dw⟩ := zero_rows d1
  have R0 := Lib.hid r0
  have DW := Lib.hid dw
  clear r0 r1 dw d1
  go_wp2
  refine wp_goto ?_
  simp only [Exit.then]
  show Exit.jump _ _ _ _ _ _
  simp only [Exit.jump, true_and]
  go_wp2_with (refine wpList_store_row rfl 47 (.tmp 4) (.tmp 39) rfl w.heap.size (recC 0 0 0 (.slice none 0 0)) rfl rfl 47 _ R0.out (by kernel_rfl) rfl (by simp [Value.oneCell']) ?_)
  rw [Exit.noGoto_ret]
  refine bodyPost_ret (v := .tuple #[recV 0 0 0 (.slice none 0 0), .bool false, .nilIface]) ?_ rfl ⟨rfl, below_setRow DW.out (Nat.le_refl _) _⟩
  exact results_cell_tmps rfl _ _ w.heap.size 47 (recC 0 0 0 (.slice none 0 0)) (0, 0) _ _ _ rfl rfl rfl (setRow_heap _ _ _ _ _ _ R0.out) Tryz.underlying47 rfl (by kernel_rfl)

theorem store_rec {ops : Array Oper} {rest : List Oper} {o : Oper} {a : Act} {w w3 : World} {Q : Exit → Act → World → Prop} (hgd : o.guard = none) (x y : Operand) (ho : o.op = .store 47 x y)
    (g : Nat) (cs : Array Value) (hx : a.eval x = .pointer (some ⟨g, 0, none⟩)) (hy : a.eval y = .agg cs) (old : Array Value) (hg : w.heap[g]? = some (.cells old 47 (0, 0))) (hsz : old.size = cs.size ∧ cs.size = 4) (h1 : cs.all (·.oneCell') = true)
    (hw : w.setRow g cs = w3) (h : wpList Tryz.prog ops Q rest (a.put o.dst undef) w3) : wpList Tryz.prog ops Q (o :: rest) a w :=
  wpList_store_row hgd _ x y ho g cs hx hy _ old hg (by rw [hsz.2]; kernel_rfl) hsz.1 h1 (by rw [hw]; exact h)
theorem endsL_lt {l : List UInt8} {a b : Nat} (h : endsL l = .good a b) : a < 16777216 ∧ b < 16777216 := by
  unfold endsL at h
  split at h
  · rename_i x y hp
    split at h
    · cases h
    · cases h
      unfold pairL at hp
      split at hp
      · obtain ⟨h1, h2⟩ := Prod.mk.inj hp
        exact ⟨codeL_lt h1, codeL_lt h2⟩
      · obtain ⟨h1, h2⟩ := Prod.mk.inj hp
        exact ⟨codeL_lt h1, codeL_lt h2⟩
  · cases h
theorem headD_map (ps : List ByteArray) (h : 1 ≤ ps.length) : (ps.map (·.data.toList)).headD [] = (ps.getD 0 ByteArray.empty).data.toList := by
  cases ps with
  | nil => simp at h
  | cons a t => rfl

set_option maxRecDepth 100000 in
set_option maxHeartbeats 2000000 in
theorem record_ends (b : Nat) (s : ByteArray) (w : World) {m : Int} (hG : FGlob w m) (hD : Digits w b) (hs : s.size ≤ 1000000) (hc : countedL s.data.toList ≠ []) (n : Int) (hv : endsV (endsL (trimL ((partsL (countedL s.data.toList)).headD []))) = .tuple #[.complex .f64 0 0, wrongV n]) :
    Calls Tryz.prog 120 #[.map (some b), .string s] w fun e w' => e = .returned (.tuple #[recV 0 0 0 (.slice none 0 0), .bool false, wrongV n]) ∧ Below w.heap.size w w' := by
  have hl : s.data.toList.length = s.size := Array.length_toList
  obtain ⟨T, hT⟩ : ∃ T : ByteArray, T = ⟨(countedL s.data.toList).toArray⟩ := ⟨_, rfl⟩
  have hTl : T.data.toList = countedL s.data.toList := by rw [hT]
  have hTs : T.size ≤ 1000000 := by
    have h1 := trimL_le (cutL s.data.toList [35]).1
    have h2 := (cutL_le s.data.toList [35]).1
    have h3 : T.data.toList.length = T.size := Array.length_toList
    rw [hTl] at h3
    unfold countedL at h3
    omega
  have hne : T.toList.isEmpty = false := by
    cases hx : T.data.toList with
    | nil => rw [hTl] at hx; exact absurd hx hc
    | cons c u => exact not_empty hx
  have hT0 : T.data.toList ≠ [] := by rw [hTl]; exact hc
  have HT : Hid (strV (countedL s.data.toList) = .string T) := Lib.hid (by rw [hT])
  rw [← hTl] at hv
  have HV := Lib.hid hv
  have HTS := Lib.hid hTs
  have HT0 := Lib.hid hT0
  have hG2 := hG.below (((Below.refl w.heap.size w).alloc (Nat.le_refl _) (recO 0 0 0 (.slice none 0 0))).alloc (by simp) (recO 0 0 0 (.slice none 0 0)))
  clear hT hTl hTs hT0 hv hc hl
  go_enter Tryz.func120, Tryz.ntmps120
  go_wp2_with fail
  refine wp_scope_forth 0 (by simp [findLabel]; rfl) ?_
  go_wp2_with fail
  refine (counted_any s _ hG2 hs).mono ?_
  rintro e w1 ⟨rfl, d1⟩
  rw [HT.out]
  have hG3 := hG2.below d1
  obtain ⟨r0, r1, dw⟩ := zero_rows d1
  clear d1 hG2
  go_wp2_with fail
  refine (split_any T w1 hG3 HTS.out HT0.out).mono ?_
  rintro e w2 ⟨ps, cap, rfl, hps, hcell, hp1, hp22, hpc, hc2, hsz, d2⟩
  replace r0 := row_below r0 d2
  replace r1 := row_below r1 d2
  have hG4 := hG3.below d2
  replace dw := dw.trans (d2.mono dw.size)
  have hc0 := hcell 0 (by omega)
  obtain ⟨p0, hp0⟩ : ∃ p0, ps.getD 0 ByteArray.empty = p0 := ⟨_, rfl⟩
  rw [hp0] at hc0
  have hp0s : p0.size ≤ 1000000 := hsz _ (by rw [← hp0, List.getD_eq_getElem?_getD, List.getElem?_eq_getElem hp1]; exact List.getElem_mem _)
  have hhead : (partsL T.data.toList).headD [] = p0.data.toList := by rw [← hps, headD_map ps hp1, hp0]
  obtain ⟨np, hnp⟩ : ∃ np, ps.length = np := ⟨_, rfl⟩
  have HNP := Lib.hid hnp
  have HPS := Lib.hid hps
  have HCELL := Lib.hid hcell
  have HSZ := Lib.hid hsz
  have HHEAD := Lib.hid hhead
  have HP0S := Lib.hid hp0s
  rw [hnp] at hp1 hp22 hpc ⊢
  have hq0 : decide (0 < np) = true := decide_eq_true (by omega)
  have hq1 : ¬ np = 0 := by omega
  clear hnp hps hcell hsz hhead hp0s hp0 hG3 d2
  go_wp2_with fail
  refine (trim_any p0 w2 HP0S.out).mono ?_
  rintro e w3 ⟨rfl, d3⟩
  replace r0 := row_below r0 d3
  replace r1 := row_below r1 d3
  have hG5 := hG4.below d3
  replace dw := dw.trans (d3.mono dw.size)
  have htl : (⟨(trimL p0.data.toList).toArray⟩ : ByteArray).size ≤ 1000000 := by
    have h := trimL_le p0.data.toList
    have h5 : p0.data.toList.length = p0.size := Array.length_toList
    have h6 := HP0S.out
    show (trimL p0.data.toList).toArray.size ≤ _
    simp only [List.size_toArray]
    omega
  have HTL := Lib.hid htl
  have HDD : Hid (Digits w3 b) := Lib.hid (hD.below dw)
  have D3 := Lib.hid d3
  clear htl hc0 hG4 d3
  go_wp2_with fail
  refine (ends_any b ⟨(trimL p0.data.toList).toArray⟩ w3 hG5 HDD.out HTL.out).mono ?_
  rintro e w4 ⟨rfl, d4⟩
  replace r0 := row_below r0 d4
  replace r1 := row_below r1 d4
  replace dw := dw.trans (d4.mono dw.size)
  have D4 := Lib.hid d4
  rw [show endsV (endsL (⟨(trimL p0.data.toList).toArray⟩ : ByteArray).data.toList) = (.tuple #[.complex .f64 0 0, wrongV n]) from (congrArg (fun l => endsV (endsL (trimL l))) HHEAD.out.symm).trans HV.out]
  have R0 := Lib.hid r0
  have R1 := Lib.hid r1
  have DW := Lib.hid dw
  clear r0 r1 dw d4
  go_wp2
  refine wp_goto ?_
  simp only [Exit.then]
  show Exit.jump _ _ _ _ _ _
  simp only [Exit.jump, true_and]
  go_wp2_with (refine wpList_store_row rfl 47 (.tmp 4) (.tmp 39) rfl w.heap.size (recC 0 0 0 (.slice none 0 0)) rfl rfl 47 _ R0.out (by kernel_rfl) rfl (by simp [Value.oneCell']) ?_)
  rw [Exit.noGoto_ret]
  refine bodyPost_ret (v := .tuple #[recV 0 0 0 (.slice none 0 0), .bool false, wrongV n]) ?_ rfl ⟨rfl, below_setRow DW.out (Nat.le_refl _) _⟩
  exact results_cell_tmps rfl _ _ w.heap.size 47 (recC 0 0 0 (.slice none 0 0)) (0, 0) _ _ _ rfl rfl rfl (setRow_heap _ _ _ _ _ _ R0.out) Tryz.underlying47 rfl (by kernel_rfl)

set_option maxRecDepth 100000 in
set_option maxHeartbeats 2000000 in
theorem record_rest (b : Nat) (s : ByteArray) (w : World) {m : Int} (hG : FGlob w m) (hD : Digits w b) (hs : s.size ≤ 1000000) (hc : countedL s.data.toList ≠ []) (x y : Nat) (hx : x < 16777216) (hy : y < 16777216) (hv : endsV (endsL (trimL ((partsL (countedL s.data.toList)).headD []))) = .tuple #[.complex .f64 (flN x) (flN y), .nilIface]) (R : LineR) (hR : R = if (partsL (countedL s.data.toList)).length = 1 ∨ 21 < (partsL (countedL s.data.toList)).length then .bad 23 else .good x y (((partsL (countedL s.data.toList)).drop 1).map trimL)) :
    Calls Tryz.prog 120 #[.map (some b), .string s] w (RecPost R w) := by
  have hR' : Hid (R = if (partsL (countedL s.data.toList)).length = 1 ∨ 21 < (partsL (countedL s.data.toList)).length then .bad 23 else .good x y (((partsL (countedL s.data.toList)).drop 1).map trimL)) := Lib.hid hR
  clear hR
  have hl : s.data.toList.length = s.size := Array.length_toList
  obtain ⟨T, hT⟩ : ∃ T : ByteArray, T = ⟨(countedL s.data.toList).toArray⟩ := ⟨_, rfl⟩
  have hTl : T.data.toList = countedL s.data.toList := by rw [hT]
  have hTs : T.size ≤ 1000000 := by
    have h1 := trimL_le (cutL s.data.toList [35]).1
    have h2 := (cutL_le s.data.toList [35]).1
    have h3 : T.data.toList.length = T.size := Array.length_toList
    rw [hTl] at h3
    unfold countedL at h3
    omega
  have hne : T.toList.isEmpty = false := by
    cases hx : T.data.toList with
    | nil => rw [hTl] at hx; exact absurd hx hc
    | cons c u => exact not_empty hx
  have hT0 : T.data.toList ≠ [] := by rw [hTl]; exact hc
  have HT : Hid (strV (countedL s.data.toList) = .string T) := Lib.hid (by rw [hT])
  rw [← hTl] at hv hR'
  have HV := Lib.hid hv
  have HTS := Lib.hid hTs
  have HT0 := Lib.hid hT0
  have hG2 := hG.below (((Below.refl w.heap.size w).alloc (Nat.le_refl _) (recO 0 0 0 (.slice none 0 0))).alloc (by simp) (recO 0 0 0 (.slice none 0 0)))
  clear hT hTl hTs hT0 hv hc hl
  go_enter Tryz.func120, Tryz.ntmps120
  go_wp2_with fail
  refine wp_scope_forth 0 (by simp [findLabel]; rfl) ?_
  go_wp2_with fail
  refine (counted_any s _ hG2 hs).mono ?_
  rintro e w1 ⟨rfl, d1⟩
  rw [HT.out]
  have hG3 := hG2.below d1
  obtain ⟨r0, r1, dw⟩ := zero_rows d1
  clear d1 hG2
  go_wp2_with fail
  refine (split_any T w1 hG3 HTS.out HT0.out).mono ?_
  rintro e w2 ⟨ps, cap, rfl, hps, hcell, hp1, hp22, hpc, hc2, hsz, d2⟩
  replace r0 := row_below r0 d2
  replace r1 := row_below r1 d2
  have hG4 := hG3.below d2
  replace dw := dw.trans (d2.mono dw.size)
  have hc0 := hcell 0 (by omega)
  obtain ⟨p0, hp0⟩ : ∃ p0, ps.getD 0 ByteArray.empty = p0 := ⟨_, rfl⟩
  rw [hp0] at hc0
  have hp0s : p0.size ≤ 1000000 := hsz _ (by rw [← hp0, List.getD_eq_getElem?_getD, List.getElem?_eq_getElem hp1]; exact List.getElem_mem _)
  have hhead : (partsL T.data.toList).headD [] = p0.data.toList := by rw [← hps, headD_map ps hp1, hp0]
  obtain ⟨np, hnp⟩ : ∃ np, ps.length = np := ⟨_, rfl⟩
  have HNP := Lib.hid hnp
  have HPS := Lib.hid hps
  have HCELL := Lib.hid hcell
  have HSZ := Lib.hid hsz
  have HHEAD := Lib.hid hhead
  have HP0S := Lib.hid hp0s
  rw [hnp] at hp1 hp22 hpc ⊢
  have hq0 : decide (0 < np) = true := decide_eq_true (by omega)
  have hq1 : ¬ np = 0 := by omega
  clear hnp hps hcell hsz hhead hp0s hp0 hG3 d2
  go_wp2_with fail
  refine (trim_any p0 w2 HP0S.out).mono ?_
  rintro e w3 ⟨rfl, d3⟩
  replace r0 := row_below r0 d3
  replace r1 := row_below r1 d3
  have hG5 := hG4.below d3
  replace dw := dw.trans (d3.mono dw.size)
  have htl : (⟨(trimL p0.data.toList).toArray⟩ : ByteArray).size ≤ 1000000 := by
    have h := trimL_le p0.data.toList
    have h5 : p0.data.toList.length = p0.size := Array.length_toList
    have h6 := HP0S.out
    show (trimL p0.data.toList).toArray.size ≤ _
    simp only [List.size_toArray]
    omega
  have HTL := Lib.hid htl
  have HDD : Hid (Digits w3 b) := Lib.hid (hD.below dw)
  have D3 := Lib.hid d3
  clear htl hc0 hG4 d3
  go_wp2_with fail
  refine (ends_any b ⟨(trimL p0.data.toList).toArray⟩ w3 hG5 HDD.out HTL.out).mono ?_
  rintro e w4 ⟨rfl, d4⟩
  replace r0 := row_below r0 d4
  replace r1 := row_below r1 d4
  replace dw := dw.trans (d4.mono dw.size)
  have D4 := Lib.hid d4
  rw [show endsV (endsL (⟨(trimL p0.data.toList).toArray⟩ : ByteArray).data.toList) = (.tuple #[.complex .f64 (flN x) (flN y), .nilIface]) from (congrArg (fun l => endsV (endsL (trimL l))) HHEAD.out.symm).trans HV.out]
  have R0 := Lib.hid r0
  have R1 := Lib.hid r1
  have DW := Lib.hid dw
  clear r0 r1 dw d4
  have hnl : (partsL T.data.toList).length = np := by rw [← HPS.out, List.length_map, HNP.out]
  rw [hnl] at hR'
  have hR5 := hR'.out
  have hdl : (ps.drop 1).length = np - 1 := by rw [List.length_drop, HNP.out]
  have hmap : ((partsL T.data.toList).drop 1).map trimL = (ps.drop 1).map fun p => trimL p.data.toList := by rw [← HPS.out, ← List.map_drop, List.map_map]; rfl
  by_cases h1 : np = 1 ∨ 21 < np
  · have hR6 : R = .bad 23 := by rw [hR5, if_pos h1]
    have HR6 := Lib.hid hR6
    have HCALL : Hid (Calls Tryz.prog 146 #[.complex .f64 (flN x) (flN y), .slice (some ⟨w1.heap.size, 1, none⟩) (np - 1) (cap - 1)] w4 fun e w' => e = .returned (.tuple #[recV 0 0 0 (.slice none 0 0), wrongV 23]) ∧ Below w4.heap.size w4 w') := by
      rcases h1 with h1 | h1
      · subst h1; exact Lib.hid (recordOf_none x y _ _ w4)
      · exact Lib.hid (recordOf_many x y _ (np - 1) _ (by omega) w4)
    clear hnl hR5 hR6 hR' hdl hmap h1
    go_wp2_with fail
    refine HCALL.out.mono ?_
    rintro e w5 ⟨rfl, d5⟩
    have r0 := row_below R0.out d5
    have r1 := row_below R1.out d5
    have dw := DW.out.trans (d5.mono DW.out.size)
    obtain ⟨w6, hw6⟩ : ∃ w6, w5.setRow (w.heap.size + 1) (recC 0 0 0 (.slice none 0 0)) = w6 := ⟨_, rfl⟩
    have R0' : Hid (w6.heap[w.heap.size]? = some (recO 0 0 0 (.slice none 0 0))) := Lib.hid (by rw [← hw6]; exact (setRow_other _ _ _ _ (by omega)).trans r0)
    have DW' : Hid (Below w.heap.size w w6) := Lib.hid (by rw [← hw6]; exact below_setRow dw (by omega) _)
    have R1' := Lib.hid r1
    have HW6 := Lib.hid hw6
    clear r0 r1 dw hw6 d5
    go_wp2_with (refine store_rec rfl (.tmp 9) (.tmp 34) rfl (w.heap.size + 1) (recC 0 0 0 (.slice none 0 0)) rfl rfl _ R1'.out ⟨rfl, rfl⟩ (by simp [Value.oneCell']) HW6.out ?_)
    refine wp_goto ?_
    simp only [Exit.then]
    show Exit.jump _ _ _ _ _ _
    simp only [Exit.jump, true_and]
    go_wp2_with (refine wpList_store_row rfl 47 (.tmp 4) (.tmp 39) rfl w.heap.size (recC 0 0 0 (.slice none 0 0)) rfl rfl 47 _ R0'.out (by kernel_rfl) rfl (by simp [Value.oneCell']) ?_)
    rw [Exit.noGoto_ret]
    refine bodyPost_ret (v := .tuple #[recV 0 0 0 (.slice none 0 0), .bool false, wrongV 23]) ?_ rfl (by rw [HR6.out]; exact ⟨rfl, below_setRow DW'.out (Nat.le_refl _) _⟩)
    exact results_cell_tmps rfl _ _ w.heap.size 47 (recC 0 0 0 (.slice none 0 0)) (0, 0) _ _ _ rfl rfl rfl (setRow_heap _ _ _ _ _ _ R0'.out) Tryz.underlying47 rfl (by kernel_rfl)
  · have hR6 : R = .good x y ((ps.drop 1).map fun p => trimL p.data.toList) := by rw [hR5, if_neg h1, hmap]
    have HR6 := Lib.hid hR6
    have hcells : ∀ i, i < (ps.drop 1).length → w4.cell? ((⟨w1.heap.size, 1, none⟩ : Addr).add i) = some (.string ((ps.drop 1).getD i ByteArray.empty)) := by
      intro i hi
      have hadd : (⟨w1.heap.size, 1, none⟩ : Addr).add i = ⟨w1.heap.size, 1 + i, none⟩ := by cases i <;> rfl
      have hc := HCELL.out (1 + i) (by rw [HNP.out]; rw [hdl] at hi; omega)
      rw [hadd]
      have hg : (ps.drop 1).getD i ByteArray.empty = ps.getD (1 + i) ByteArray.empty := by simp [List.getD, Nat.add_comm]
      rw [hg]
      exact cell_keep D4.out (cell_keep D3.out hc)
    have hgo := recordOf_go x y hx hy ⟨w1.heap.size, 1, none⟩ (ps.drop 1) (cap - 1) (by rw [hdl]; omega) (by rw [hdl]; omega) (fun p hp => HSZ.out p (List.mem_of_mem_drop hp)) w4 hcells
    rw [hdl] at hgo
    have HGO := Lib.hid hgo
    have HDL := Lib.hid hdl
    clear hnl hR5 hR6 hR' hdl hmap hcells hgo h1
    go_wp2_with fail
    refine HGO.out.mono ?_
    rintro e w5 ⟨v, rfl, ho, d5⟩
    obtain ⟨o, cp, rfl⟩ := own_form ho
    have r0 := row_below R0.out d5
    have r1 := row_below R1.out d5
    have dw := DW.out.trans (d5.mono DW.out.size)
    have hz4 := (Array.getElem?_eq_some_iff.1 R1.out).1
    obtain ⟨w6, hw6⟩ : ∃ w6, w5.setRow (w.heap.size + 1) (recC 0 x y (.slice o (np - 1) cp)) = w6 := ⟨_, rfl⟩
    have R0' : Hid (w6.heap[w.heap.size]? = some (recO 0 0 0 (.slice none 0 0))) := Lib.hid (by rw [← hw6]; exact (setRow_other _ _ _ _ (by omega)).trans r0)
    have DW' : Hid (Below w.heap.size w w6) := Lib.hid (by rw [← hw6]; exact below_setRow dw (by omega) _)
    have hr6 : w6.heap[w.heap.size + 1]? = some (recO 0 x y (.slice o (np - 1) cp)) := by rw [← hw6]; exact setRow_heap _ _ _ _ _ _ r1
    have HO : Hid (w6.ownsRow w4.heap.size 9 1 (.slice o (np - 1) cp) (np - 1) ((ps.drop 1).map trimV)) := Lib.hid (by rw [← hw6]; exact own_setRow ho hz4)
    obtain ⟨k0, k1, k2, k3, k4⟩ := rec_cells hr6
    have R1' := Lib.hid r1
    have HW6 := Lib.hid hw6
    have HZ4 := Lib.hid hz4
    clear r0 r1 dw hw6 d5 hr6 ho hz4
    go_wp2_with (first | (refine store_rec rfl (.tmp 9) (.tmp 34) rfl (w.heap.size + 1) (recC 0 x y (.slice o (np - 1) cp)) rfl rfl _ R1'.out ⟨rfl, rfl⟩ (by simp [Value.oneCell']) HW6.out ?_) | (refine wpList_store_row rfl 47 (.tmp 4) (.tmp 38) rfl w.heap.size (recC 0 x y (.slice o (np - 1) cp)) rfl rfl 47 _ R0'.out (by kernel_rfl) rfl (by simp [Value.oneCell']) ?_))
    simp only [Exit.jump]
    refine bodyPost_ret (v := .tuple #[recV 0 x y (.slice o (np - 1) cp), .bool true, .nilIface]) ?_ rfl ?_
    · exact results_cell_tmps rfl _ _ w.heap.size 47 (recC 0 x y (.slice o (np - 1) cp)) (0, 0) _ _ _ rfl rfl rfl (setRow_heap _ _ _ _ _ _ R0'.out) Tryz.underlying47 rfl (by kernel_rfl)
    · rw [HR6.out]
      refine ⟨_, rfl, ?_, below_setRow DW'.out (Nat.le_refl _) _⟩
      have h := own_base (own_setRow (cs := recC 0 x y (.slice o (np - 1) cp)) HO.out (show w.heap.size < w4.heap.size from by have := HZ4.out; omega)) (show w.heap.size ≤ w4.heap.size from by have := HZ4.out; omega)
      rw [List.length_map, HDL.out, List.map_map]
      exact h
theorem record_any (b : Nat) (s : ByteArray) (w : World) {m : Int} (hG : FGlob w m) (hD : Digits w b) (hs : s.size ≤ 1000000) :
    Calls Tryz.prog 120 #[.map (some b), .string s] w (RecPost (lineL s.data.toList) w) := by
  unfold lineL
  by_cases hc : countedL s.data.toList = []
  · rw [if_pos hc]
    exact record_nothing b s w hG hs hc
  · rw [if_neg hc]
    unfold recordR
    cases he : endsL (trimL ((partsL (countedL s.data.toList)).headD [])) with
    | hex => exact record_ends b s w hG hD hs hc 21 (by rw [he]; rfl)
    | range => exact record_ends b s w hG hD hs hc 22 (by rw [he]; rfl)
    | good x y =>
      have hxy : x < 16777216 ∧ y < 16777216 := endsL_lt he
      exact record_rest b s w hG hD hs hc x y hxy.1 hxy.2 (by rw [he]; rfl) _ rfl
end Go.Proofs.YtfgnpdfdncnbfaaGreatDoor
