/- digits.ends: the range that a first field says. -/
import Derived.Test.YtapbedefahbilaaGreatDoorFLib
import Derived.Test.YtapbedefahbilaaGreatDoorBaseF
namespace Go.Proofs.YtapbedefahbilaaGreatDoor
open Go.RowKit Go.Shelf

inductive EndsR
  | hex
  | range
  | good (a b : Nat)
/-- Both ends' codes. -/
def pairL (l : List UInt8) : Option Nat × Option Nat := if (cutL l [46, 46]).2.2 then (codeL (cutL l [46, 46]).1, codeL (cutL l [46, 46]).2.1) else (codeL (cutL l [46, 46]).1, codeL (cutL l [46, 46]).1)
def endsL (l : List UInt8) : EndsR := match pairL l with
  | (some a, some b) => if b < a ∨ 1114111 < b then .range else .good a b
  | _ => .hex
abbrev wrongV (n : Int) : Value := .iface 81 (.int .i64 n)
def endsV : EndsR → Value
  | .hex => .tuple #[.complex .f64 0 0, wrongV 21]
  | .range => .tuple #[.complex .f64 0 0, wrongV 22]
  | .good a b => .tuple #[.complex .f64 (flN a) (flN b), .nilIface]

set_option maxRecDepth 100000 in
set_option maxHeartbeats 2000000 in
theorem ends_one_hex1 (b : Nat) (s : ByteArray) (w : World) {m : Int} (hG : FGlob w m) (hD : Digits w b) (hs : s.size ≤ 1000000) (l1 l2 : List UInt8) (n1 n2 : Nat) (ok1 ok2 : Bool) (_b1 : n1 < 16777216) (_b2 : n2 < 16777216)
    (HC : Hid (cutL s.data.toList (⟨#[46, 46]⟩ : ByteArray).data.toList = (l1, l2, false))) (H1 : Hid (codeV l1 = .tuple #[.int .i64 (n1 : Nat), .bool ok1])) (H2 : Hid (codeV l1 = .tuple #[.int .i64 (n2 : Nat), .bool ok2])) (h1 : ok1 = false) :
    Calls Tryz.prog 47 #[.map (some b), .string s] w fun e w' => e = .returned (endsV .hex) ∧ Below w.heap.size w w' := by
  subst h1
  go_enter Tryz.func47, Tryz.ntmps47
  go_wp2_with fail
  refine (cut_any s _ w hG hs).mono ?_
  rintro e w1 ⟨rfl, d1⟩
  rw [HC.out]
  go_wp2_with fail
  refine (code_any b ⟨l1.toArray⟩ w1 (hD.below d1)).mono ?_
  rintro e w2 ⟨rfl, d2⟩
  rw [show codeV (⟨l1.toArray⟩ : ByteArray).data.toList = _ from H1.out]
  have d12 := d1.trans (d2.mono d1.size)
  go_wp2_with fail
  refine (code_any b ⟨l1.toArray⟩ w2 (hD.below d12)).mono ?_
  rintro e w3 ⟨rfl, d3⟩
  rw [show codeV (⟨l1.toArray⟩ : ByteArray).data.toList = _ from H2.out]
  have d13 := d12.trans (d3.mono d12.size)
  go_wp2
  go_ret2
  exact ⟨rfl, d13⟩
set_option maxRecDepth 100000 in
set_option maxHeartbeats 2000000 in
theorem ends_one_hex2 (b : Nat) (s : ByteArray) (w : World) {m : Int} (hG : FGlob w m) (hD : Digits w b) (hs : s.size ≤ 1000000) (l1 l2 : List UInt8) (n1 n2 : Nat) (ok1 ok2 : Bool) (_b1 : n1 < 16777216) (_b2 : n2 < 16777216)
    (HC : Hid (cutL s.data.toList (⟨#[46, 46]⟩ : ByteArray).data.toList = (l1, l2, false))) (H1 : Hid (codeV l1 = .tuple #[.int .i64 (n1 : Nat), .bool ok1])) (H2 : Hid (codeV l1 = .tuple #[.int .i64 (n2 : Nat), .bool ok2])) (h1 : ok1 = true) (h2 : ok2 = false) :
    Calls Tryz.prog 47 #[.map (some b), .string s] w fun e w' => e = .returned (endsV .hex) ∧ Below w.heap.size w w' := by
  subst h1 h2
  go_enter Tryz.func47, Tryz.ntmps47
  go_wp2_with fail
  refine (cut_any s _ w hG hs).mono ?_
  rintro e w1 ⟨rfl, d1⟩
  rw [HC.out]
  go_wp2_with fail
  refine (code_any b ⟨l1.toArray⟩ w1 (hD.below d1)).mono ?_
  rintro e w2 ⟨rfl, d2⟩
  rw [show codeV (⟨l1.toArray⟩ : ByteArray).data.toList = _ from H1.out]
  have d12 := d1.trans (d2.mono d1.size)
  go_wp2_with fail
  refine (code_any b ⟨l1.toArray⟩ w2 (hD.below d12)).mono ?_
  rintro e w3 ⟨rfl, d3⟩
  rw [show codeV (⟨l1.toArray⟩ : ByteArray).data.toList = _ from H2.out]
  have d13 := d12.trans (d3.mono d12.size)
  go_wp2
  go_ret2
  exact ⟨rfl, d13⟩
set_option maxRecDepth 100000 in
set_option maxHeartbeats 2000000 in
theorem ends_one_less (b : Nat) (s : ByteArray) (w : World) {m : Int} (hG : FGlob w m) (hD : Digits w b) (hs : s.size ≤ 1000000) (l1 l2 : List UInt8) (n1 n2 : Nat) (ok1 ok2 : Bool) (_b1 : n1 < 16777216) (_b2 : n2 < 16777216)
    (HC : Hid (cutL s.data.toList (⟨#[46, 46]⟩ : ByteArray).data.toList = (l1, l2, false))) (H1 : Hid (codeV l1 = .tuple #[.int .i64 (n1 : Nat), .bool ok1])) (H2 : Hid (codeV l1 = .tuple #[.int .i64 (n2 : Nat), .bool ok2])) (h1 : ok1 = true) (h2 : ok2 = true) (h3 : n2 < n1) :
    Calls Tryz.prog 47 #[.map (some b), .string s] w fun e w' => e = .returned (endsV .range) ∧ Below w.heap.size w w' := by
  subst h1 h2
  have q1 : decide (n2 < n1) = true := decide_eq_true h3
  go_enter Tryz.func47, Tryz.ntmps47
  go_wp2_with fail
  refine (cut_any s _ w hG hs).mono ?_
  rintro e w1 ⟨rfl, d1⟩
  rw [HC.out]
  go_wp2_with fail
  refine (code_any b ⟨l1.toArray⟩ w1 (hD.below d1)).mono ?_
  rintro e w2 ⟨rfl, d2⟩
  rw [show codeV (⟨l1.toArray⟩ : ByteArray).data.toList = _ from H1.out]
  have d12 := d1.trans (d2.mono d1.size)
  go_wp2_with fail
  refine (code_any b ⟨l1.toArray⟩ w2 (hD.below d12)).mono ?_
  rintro e w3 ⟨rfl, d3⟩
  rw [show codeV (⟨l1.toArray⟩ : ByteArray).data.toList = _ from H2.out]
  have d13 := d12.trans (d3.mono d12.size)
  go_wp2
  go_ret2
  exact ⟨rfl, d13⟩
set_option maxRecDepth 100000 in
set_option maxHeartbeats 2000000 in
theorem ends_one_more (b : Nat) (s : ByteArray) (w : World) {m : Int} (hG : FGlob w m) (hD : Digits w b) (hs : s.size ≤ 1000000) (l1 l2 : List UInt8) (n1 n2 : Nat) (ok1 ok2 : Bool) (_b1 : n1 < 16777216) (_b2 : n2 < 16777216)
    (HC : Hid (cutL s.data.toList (⟨#[46, 46]⟩ : ByteArray).data.toList = (l1, l2, false))) (H1 : Hid (codeV l1 = .tuple #[.int .i64 (n1 : Nat), .bool ok1])) (H2 : Hid (codeV l1 = .tuple #[.int .i64 (n2 : Nat), .bool ok2])) (h1 : ok1 = true) (h2 : ok2 = true) (h3 : ¬ n2 < n1) (h4 : 1114111 < n2) :
    Calls Tryz.prog 47 #[.map (some b), .string s] w fun e w' => e = .returned (endsV .range) ∧ Below w.heap.size w w' := by
  subst h1 h2
  have q1 : decide (n2 < n1) = false := decide_eq_false h3
  have q2 : decide ((1114111 : Int) < ((n2 : Nat) : Int)) = true := decide_eq_true (by omega)
  go_enter Tryz.func47, Tryz.ntmps47
  go_wp2_with fail
  refine (cut_any s _ w hG hs).mono ?_
  rintro e w1 ⟨rfl, d1⟩
  rw [HC.out]
  go_wp2_with fail
  refine (code_any b ⟨l1.toArray⟩ w1 (hD.below d1)).mono ?_
  rintro e w2 ⟨rfl, d2⟩
  rw [show codeV (⟨l1.toArray⟩ : ByteArray).data.toList = _ from H1.out]
  have d12 := d1.trans (d2.mono d1.size)
  go_wp2_with fail
  refine (code_any b ⟨l1.toArray⟩ w2 (hD.below d12)).mono ?_
  rintro e w3 ⟨rfl, d3⟩
  rw [show codeV (⟨l1.toArray⟩ : ByteArray).data.toList = _ from H2.out]
  have d13 := d12.trans (d3.mono d12.size)
  go_wp2
  go_ret2
  exact ⟨rfl, d13⟩
set_option maxRecDepth 100000 in
set_option maxHeartbeats 2000000 in
theorem ends_one_good (b : Nat) (s : ByteArray) (w : World) {m : Int} (hG : FGlob w m) (hD : Digits w b) (hs : s.size ≤ 1000000) (l1 l2 : List UInt8) (n1 n2 : Nat) (ok1 ok2 : Bool) (_b1 : n1 < 16777216) (_b2 : n2 < 16777216)
    (HC : Hid (cutL s.data.toList (⟨#[46, 46]⟩ : ByteArray).data.toList = (l1, l2, false))) (H1 : Hid (codeV l1 = .tuple #[.int .i64 (n1 : Nat), .bool ok1])) (H2 : Hid (codeV l1 = .tuple #[.int .i64 (n2 : Nat), .bool ok2])) (h1 : ok1 = true) (h2 : ok2 = true) (h3 : ¬ n2 < n1) (h4 : ¬ 1114111 < n2) :
    Calls Tryz.prog 47 #[.map (some b), .string s] w fun e w' => e = .returned (endsV (.good n1 n2)) ∧ Below w.heap.size w w' := by
  subst h1 h2
  have q1 : decide (n2 < n1) = false := decide_eq_false h3
  have q2 : decide ((1114111 : Int) < ((n2 : Nat) : Int)) = false := decide_eq_false (by omega)
  go_enter Tryz.func47, Tryz.ntmps47
  go_wp2_with fail
  refine (cut_any s _ w hG hs).mono ?_
  rintro e w1 ⟨rfl, d1⟩
  rw [HC.out]
  go_wp2_with fail
  refine (code_any b ⟨l1.toArray⟩ w1 (hD.below d1)).mono ?_
  rintro e w2 ⟨rfl, d2⟩
  rw [show codeV (⟨l1.toArray⟩ : ByteArray).data.toList = _ from H1.out]
  have d12 := d1.trans (d2.mono d1.size)
  go_wp2_with fail
  refine (code_any b ⟨l1.toArray⟩ w2 (hD.below d12)).mono ?_
  rintro e w3 ⟨rfl, d3⟩
  rw [show codeV (⟨l1.toArray⟩ : ByteArray).data.toList = _ from H2.out]
  have d13 := d12.trans (d3.mono d12.size)
  go_wp2
  go_ret2
  exact ⟨rfl, d13⟩
set_option maxRecDepth 100000 in
set_option maxHeartbeats 2000000 in
theorem ends_two_hex1 (b : Nat) (s : ByteArray) (w : World) {m : Int} (hG : FGlob w m) (hD : Digits w b) (hs : s.size ≤ 1000000) (l1 l2 : List UInt8) (n1 n2 : Nat) (ok1 ok2 : Bool) (_b1 : n1 < 16777216) (_b2 : n2 < 16777216)
    (HC : Hid (cutL s.data.toList (⟨#[46, 46]⟩ : ByteArray).data.toList = (l1, l2, true))) (H1 : Hid (codeV l1 = .tuple #[.int .i64 (n1 : Nat), .bool ok1])) (H2 : Hid (codeV l2 = .tuple #[.int .i64 (n2 : Nat), .bool ok2])) (h1 : ok1 = false) :
    Calls Tryz.prog 47 #[.map (some b), .string s] w fun e w' => e = .returned (endsV .hex) ∧ Below w.heap.size w w' := by
  subst h1
  go_enter Tryz.func47, Tryz.ntmps47
  go_wp2_with fail
  refine (cut_any s _ w hG hs).mono ?_
  rintro e w1 ⟨rfl, d1⟩
  rw [HC.out]
  go_wp2_with fail
  refine (code_any b ⟨l1.toArray⟩ w1 (hD.below d1)).mono ?_
  rintro e w2 ⟨rfl, d2⟩
  rw [show codeV (⟨l1.toArray⟩ : ByteArray).data.toList = _ from H1.out]
  have d12 := d1.trans (d2.mono d1.size)
  go_wp2_with fail
  refine (code_any b ⟨l2.toArray⟩ w2 (hD.below d12)).mono ?_
  rintro e w3 ⟨rfl, d3⟩
  rw [show codeV (⟨l2.toArray⟩ : ByteArray).data.toList = _ from H2.out]
  have d13 := d12.trans (d3.mono d12.size)
  go_wp2
  go_ret2
  exact ⟨rfl, d13⟩
set_option maxRecDepth 100000 in
set_option maxHeartbeats 2000000 in
theorem ends_two_hex2 (b : Nat) (s : ByteArray) (w : World) {m : Int} (hG : FGlob w m) (hD : Digits w b) (hs : s.size ≤ 1000000) (l1 l2 : List UInt8) (n1 n2 : Nat) (ok1 ok2 : Bool) (_b1 : n1 < 16777216) (_b2 : n2 < 16777216)
    (HC : Hid (cutL s.data.toList (⟨#[46, 46]⟩ : ByteArray).data.toList = (l1, l2, true))) (H1 : Hid (codeV l1 = .tuple #[.int .i64 (n1 : Nat), .bool ok1])) (H2 : Hid (codeV l2 = .tuple #[.int .i64 (n2 : Nat), .bool ok2])) (h1 : ok1 = true) (h2 : ok2 = false) :
    Calls Tryz.prog 47 #[.map (some b), .string s] w fun e w' => e = .returned (endsV .hex) ∧ Below w.heap.size w w' := by
  subst h1 h2
  go_enter Tryz.func47, Tryz.ntmps47
  go_wp2_with fail
  refine (cut_any s _ w hG hs).mono ?_
  rintro e w1 ⟨rfl, d1⟩
  rw [HC.out]
  go_wp2_with fail
  refine (code_any b ⟨l1.toArray⟩ w1 (hD.below d1)).mono ?_
  rintro e w2 ⟨rfl, d2⟩
  rw [show codeV (⟨l1.toArray⟩ : ByteArray).data.toList = _ from H1.out]
  have d12 := d1.trans (d2.mono d1.size)
  go_wp2_with fail
  refine (code_any b ⟨l2.toArray⟩ w2 (hD.below d12)).mono ?_
  rintro e w3 ⟨rfl, d3⟩
  rw [show codeV (⟨l2.toArray⟩ : ByteArray).data.toList = _ from H2.out]
  have d13 := d12.trans (d3.mono d12.size)
  go_wp2
  go_ret2
  exact ⟨rfl, d13⟩
set_option maxRecDepth 100000 in
set_option maxHeartbeats 2000000 in
theorem ends_two_less (b : Nat) (s : ByteArray) (w : World) {m : Int} (hG : FGlob w m) (hD : Digits w b) (hs : s.size ≤ 1000000) (l1 l2 : List UInt8) (n1 n2 : Nat) (ok1 ok2 : Bool) (_b1 : n1 < 16777216) (_b2 : n2 < 16777216)
    (HC : Hid (cutL s.data.toList (⟨#[46, 46]⟩ : ByteArray).data.toList = (l1, l2, true))) (H1 : Hid (codeV l1 = .tuple #[.int .i64 (n1 : Nat), .bool ok1])) (H2 : Hid (codeV l2 = .tuple #[.int .i64 (n2 : Nat), .bool ok2])) (h1 : ok1 = true) (h2 : ok2 = true) (h3 : n2 < n1) :
    Calls Tryz.prog 47 #[.map (some b), .string s] w fun e w' => e = .returned (endsV .range) ∧ Below w.heap.size w w' := by
  subst h1 h2
  have q1 : decide (n2 < n1) = true := decide_eq_true h3
  go_enter Tryz.func47, Tryz.ntmps47
  go_wp2_with fail
  refine (cut_any s _ w hG hs).mono ?_
  rintro e w1 ⟨rfl, d1⟩
  rw [HC.out]
  go_wp2_with fail
  refine (code_any b ⟨l1.toArray⟩ w1 (hD.below d1)).mono ?_
  rintro e w2 ⟨rfl, d2⟩
  rw [show codeV (⟨l1.toArray⟩ : ByteArray).data.toList = _ from H1.out]
  have d12 := d1.trans (d2.mono d1.size)
  go_wp2_with fail
  refine (code_any b ⟨l2.toArray⟩ w2 (hD.below d12)).mono ?_
  rintro e w3 ⟨rfl, d3⟩
  rw [show codeV (⟨l2.toArray⟩ : ByteArray).data.toList = _ from H2.out]
  have d13 := d12.trans (d3.mono d12.size)
  go_wp2
  go_ret2
  exact ⟨rfl, d13⟩
set_option maxRecDepth 100000 in
set_option maxHeartbeats 2000000 in
theorem ends_two_more (b : Nat) (s : ByteArray) (w : World) {m : Int} (hG : FGlob w m) (hD : Digits w b) (hs : s.size ≤ 1000000) (l1 l2 : List UInt8) (n1 n2 : Nat) (ok1 ok2 : Bool) (_b1 : n1 < 16777216) (_b2 : n2 < 16777216)
    (HC : Hid (cutL s.data.toList (⟨#[46, 46]⟩ : ByteArray).data.toList = (l1, l2, true))) (H1 : Hid (codeV l1 = .tuple #[.int .i64 (n1 : Nat), .bool ok1])) (H2 : Hid (codeV l2 = .tuple #[.int .i64 (n2 : Nat), .bool ok2])) (h1 : ok1 = true) (h2 : ok2 = true) (h3 : ¬ n2 < n1) (h4 : 1114111 < n2) :
    Calls Tryz.prog 47 #[.map (some b), .string s] w fun e w' => e = .returned (endsV .range) ∧ Below w.heap.size w w' := by
  subst h1 h2
  have q1 : decide (n2 < n1) = false := decide_eq_false h3
  have q2 : decide ((1114111 : Int) < ((n2 : Nat) : Int)) = true := decide_eq_true (by omega)
  go_enter Tryz.func47, Tryz.ntmps47
  go_wp2_with fail
  refine (cut_any s _ w hG hs).mono ?_
  rintro e w1 ⟨rfl, d1⟩
  rw [HC.out]
  go_wp2_with fail
  refine (code_any b ⟨l1.toArray⟩ w1 (hD.below d1)).mono ?_
  rintro e w2 ⟨rfl, d2⟩
  rw [show codeV (⟨l1.toArray⟩ : ByteArray).data.toList = _ from H1.out]
  have d12 := d1.trans (d2.mono d1.size)
  go_wp2_with fail
  refine (code_any b ⟨l2.toArray⟩ w2 (hD.below d12)).mono ?_
  rintro e w3 ⟨rfl, d3⟩
  rw [show codeV (⟨l2.toArray⟩ : ByteArray).data.toList = _ from H2.out]
  have d13 := d12.trans (d3.mono d12.size)
  go_wp2
  go_ret2
  exact ⟨rfl, d13⟩
set_option maxRecDepth 100000 in
set_option maxHeartbeats 2000000 in
theorem ends_two_good (b : Nat) (s : ByteArray) (w : World) {m : Int} (hG : FGlob w m) (hD : Digits w b) (hs : s.size ≤ 1000000) (l1 l2 : List UInt8) (n1 n2 : Nat) (ok1 ok2 : Bool) (_b1 : n1 < 16777216) (_b2 : n2 < 16777216)
    (HC : Hid (cutL s.data.toList (⟨#[46, 46]⟩ : ByteArray).data.toList = (l1, l2, true))) (H1 : Hid (codeV l1 = .tuple #[.int .i64 (n1 : Nat), .bool ok1])) (H2 : Hid (codeV l2 = .tuple #[.int .i64 (n2 : Nat), .bool ok2])) (h1 : ok1 = true) (h2 : ok2 = true) (h3 : ¬ n2 < n1) (h4 : ¬ 1114111 < n2) :
    Calls Tryz.prog 47 #[.map (some b), .string s] w fun e w' => e = .returned (endsV (.good n1 n2)) ∧ Below w.heap.size w w' := by
  subst h1 h2
  have q1 : decide (n2 < n1) = false := decide_eq_false h3
  have q2 : decide ((1114111 : Int) < ((n2 : Nat) : Int)) = false := decide_eq_false (by omega)
  go_enter Tryz.func47, Tryz.ntmps47
  go_wp2_with fail
  refine (cut_any s _ w hG hs).mono ?_
  rintro e w1 ⟨rfl, d1⟩
  rw [HC.out]
  go_wp2_with fail
  refine (code_any b ⟨l1.toArray⟩ w1 (hD.below d1)).mono ?_
  rintro e w2 ⟨rfl, d2⟩
  rw [show codeV (⟨l1.toArray⟩ : ByteArray).data.toList = _ from H1.out]
  have d12 := d1.trans (d2.mono d1.size)
  go_wp2_with fail
  refine (code_any b ⟨l2.toArray⟩ w2 (hD.below d12)).mono ?_
  rintro e w3 ⟨rfl, d3⟩
  rw [show codeV (⟨l2.toArray⟩ : ByteArray).data.toList = _ from H2.out]
  have d13 := d12.trans (d3.mono d12.size)
  go_wp2
  go_ret2
  exact ⟨rfl, d13⟩
theorem ends_any (b : Nat) (s : ByteArray) (w : World) {m : Int} (hG : FGlob w m) (hD : Digits w b) (hs : s.size ≤ 1000000) :
    Calls Tryz.prog 47 #[.map (some b), .string s] w fun e w' => e = .returned (endsV (endsL s.data.toList)) ∧ Below w.heap.size w w' := by
  obtain ⟨l1, l2, two, hc⟩ : ∃ l1 l2 two, cutL s.data.toList [46, 46] = (l1, l2, two) := ⟨_, _, _, rfl⟩
  have HC : Hid (cutL s.data.toList (⟨#[46, 46]⟩ : ByteArray).data.toList = (l1, l2, two)) := Lib.hid hc
  obtain ⟨lx, hlx⟩ : ∃ lx, (if two then l2 else l1) = lx := ⟨_, rfl⟩
  obtain ⟨n1, ok1, h1, b1, c1, z1⟩ := codeV_form l1
  obtain ⟨n2, ok2, h2, b2, c2, z2⟩ := codeV_form lx
  have H1 := Lib.hid h1
  have H2 := Lib.hid h2
  have hp : pairL s.data.toList = (codeL l1, codeL lx) := by
    unfold pairL; rw [hc, ← hlx]
    cases two <;> rfl
  have he : endsL s.data.toList = match (if ok1 then some n1 else none), (if ok2 then some n2 else none) with | some a, some b => if b < a ∨ 1114111 < b then .range else .good a b | _, _ => .hex := by
    unfold endsL
    rw [hp, c1, c2]
    cases ok1 <;> cases ok2 <;> rfl
  rw [he]
  cases two
  · obtain rfl : l1 = lx := hlx
    cases ok1
    · exact ends_one_hex1 b s w hG hD hs l1 l2 n1 n2 _ ok2 b1 b2 HC H1 H2 rfl
    · cases ok2
      · exact ends_one_hex2 b s w hG hD hs l1 l2 n1 n2 _ _ b1 b2 HC H1 H2 rfl rfl
      · show Calls _ _ _ _ fun e w' => e = .returned (endsV (if n2 < n1 ∨ 1114111 < n2 then .range else .good n1 n2)) ∧ _
        by_cases h3 : n2 < n1
        · rw [if_pos (.inl h3)]; exact ends_one_less b s w hG hD hs l1 l2 n1 n2 _ _ b1 b2 HC H1 H2 rfl rfl h3
        · by_cases h4 : 1114111 < n2
          · rw [if_pos (.inr h4)]; exact ends_one_more b s w hG hD hs l1 l2 n1 n2 _ _ b1 b2 HC H1 H2 rfl rfl h3 h4
          · rw [if_neg (by omega)]; exact ends_one_good b s w hG hD hs l1 l2 n1 n2 _ _ b1 b2 HC H1 H2 rfl rfl h3 h4
  · obtain rfl : l2 = lx := hlx
    cases ok1
    · exact ends_two_hex1 b s w hG hD hs l1 l2 n1 n2 _ ok2 b1 b2 HC H1 H2 rfl
    · cases ok2
      · exact ends_two_hex2 b s w hG hD hs l1 l2 n1 n2 _ _ b1 b2 HC H1 H2 rfl rfl
      · show Calls _ _ _ _ fun e w' => e = .returned (endsV (if n2 < n1 ∨ 1114111 < n2 then .range else .good n1 n2)) ∧ _
        by_cases h3 : n2 < n1
        · rw [if_pos (.inl h3)]; exact ends_two_less b s w hG hD hs l1 l2 n1 n2 _ _ b1 b2 HC H1 H2 rfl rfl h3
        · by_cases h4 : 1114111 < n2
          · rw [if_pos (.inr h4)]; exact ends_two_more b s w hG hD hs l1 l2 n1 n2 _ _ b1 b2 HC H1 H2 rfl rfl h3 h4
          · rw [if_neg (by omega)]; exact ends_two_good b s w hG hD hs l1 l2 n1 n2 _ _ b1 b2 HC H1 H2 rfl rfl h3 h4
end Go.Proofs.YtapbedefahbilaaGreatDoor
