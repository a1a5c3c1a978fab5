/- Small laws on memory that the kit's walk does not bring: a complex number stored; a variable of a struct laid whole. The table of UTF-8 as the code has it, row by row: plain numbers. Row 9 is none. Bits of whole numbers, as sums. The bytes of a scalar, as sums. A scope whose jumps go forth to one label. What bytes are, plainly: does a list fit a row, which scalar do its bytes make, which scalar does a text begin with. Whole numbers below 2^53 are floats exactly, and floats are in the order of the whole numbers that they are made of. -/
import Derived.WalkKit
import Derived.WalkSpells
import Derived.WalkLawsBesides
import Derived.Laws.CopyOwn
import Derived.Lib.Hide
import GoSem.Core.Value
import Derived.Laws.BitsAllLaws
import Derived.Laws.BitsLemmas
import Derived.ScopeJumps
import Derived.Scope
import Derived.Laws.Cover2
namespace Go.Proofs.YthnfekilmiodpaaDoor
open Go.RowKit
section
variable {P : Program} (w : World) (a : Addr) (m : Mode)
@[go_sem] theorem run_store_complex (k : FloatKind) (x y : Nat) : (store a (.complex k x y) m).run P w = stored P w a (.complex k x y) m := run_store P w a _ m rfl
end
/-- The block laid ahead of what came later. -/
theorem later_row {w wr : World} {t : TypeId} {c : Array Value} (hb : Below (w.heap.size + 1) (w.alloc (.cells c t)) wr) : wr.heap[w.heap.size]? = some (.cells c t (0, 0)) :=
  (hb.block _ (by omega)).trans (heap_alloc_new _ _)
end Go.Proofs.YthnfekilmiodpaaDoor

namespace Go.Proofs.YthnfekilmiodpaaDoor
open Go

def lo : Nat → Nat | 0 => 0x0 | 1 => 0x80 | 2 => 0x800 | 3 => 0x1000 | 4 => 0xd000 | 5 => 0xe000 | 6 => 0x10000 | 7 => 0x40000 | 8 => 0x100000 | _ => 0
def hi : Nat → Nat | 0 => 0x7f | 1 => 0x7ff | 2 => 0xfff | 3 => 0xcfff | 4 => 0xd7ff | 5 => 0xffff | 6 => 0x3ffff | 7 => 0xfffff | 8 => 0x10ffff | _ => 0
def sz : Nat → Nat | 0 => 1 | 1 => 2 | 2 => 3 | 3 => 3 | 4 => 3 | 5 => 3 | 6 => 4 | 7 => 4 | 8 => 4 | _ => 0
def fl : Nat → Nat | 0 => 0 | 1 => 0xc2 | 2 => 0xe0 | 3 => 0xe1 | 4 => 0xed | 5 => 0xee | 6 => 0xf0 | 7 => 0xf1 | 8 => 0xf4 | _ => 0
def fh : Nat → Nat | 0 => 0x7f | 1 => 0xdf | 2 => 0xe0 | 3 => 0xec | 4 => 0xed | 5 => 0xef | 6 => 0xf0 | 7 => 0xf3 | 8 => 0xf4 | _ => 0
def sl : Nat → Nat | 0 => 0 | 1 => 0x80 | 2 => 0xa0 | 3 => 0x80 | 4 => 0x80 | 5 => 0x80 | 6 => 0x90 | 7 => 0x80 | 8 => 0x80 | _ => 0
def sh : Nat → Nat | 0 => 0 | 1 => 0xbf | 2 => 0xbf | 3 => 0xbf | 4 => 0x9f | 5 => 0xbf | 6 => 0xbf | 7 => 0xbf | 8 => 0x8f | _ => 0
/-- What is set in a first byte beside the digits. -/
def mk : Nat → Nat | 1 => 0xc0 | 2 => 0xe0 | 3 => 0xe0 | 4 => 0xe0 | 5 => 0xe0 | 6 => 0xf0 | 7 => 0xf0 | 8 => 0xf0 | _ => 0
/-- The words of the floats lo and hi. -/
def lob : Nat → Nat | 1 => 4638707616191610880 | 2 => 4656722014701092864 | 3 => 4661225614328463360 | 4 => 4677551162977681408 | 5 => 4678114112931102720 | 6 => 4679240012837945344 | 7 => 4688247212092686336 | 8 => 4697254411347427328 | _ => 0
def hib : Nat → Nat | 0 => 4638637247447433216 | 1 => 4656717616654581760 | 2 => 4661223415305207808 | 3 => 4677551025538727936 | 4 => 4677832500515438592 | 5 => 4679239875398991872 | 6 => 4688247177732947968 | 7 => 4697254402757492736 | 8 => 4697535882029170688 | _ => 0

/-- Row k as it lies in memory. -/
abbrev rowV (k : Nat) : Value := .agg #[.complex .f64 (lob k) (hib k), .int .i64 (sz k : Nat), .int .u8 (fl k : Nat), .int .u8 (fh k : Nat), .int .u8 (sl k : Nat), .int .u8 (sh k : Nat)]
abbrev zeroV : Value := .agg #[.complex .f64 0 0, .int .i64 0, .int .u8 0, .int .u8 0, .int .u8 0, .int .u8 0]

/-- The row whose first bytes have b. -/
def rowIx (b : Nat) : Nat :=
  if b < 0x80 then 0 else if b < 0xc2 then 9 else if b < 0xe0 then 1 else if b = 0xe0 then 2 else if b < 0xed then 3 else if b = 0xed then 4
  else if b < 0xf0 then 5 else if b = 0xf0 then 6 else if b < 0xf4 then 7 else if b = 0xf4 then 8 else 9
/-- The row that has the scalar r. -/
def rowR (r : Int) : Nat :=
  if r < 0 then 9 else if r < 0x80 then 0 else if r < 0x800 then 1 else if r < 0x1000 then 2 else if r < 0xd000 then 3 else if r < 0xd800 then 4
  else if r < 0xe000 then 9 else if r < 0x10000 then 5 else if r < 0x40000 then 6 else if r < 0x100000 then 7 else if r < 0x110000 then 8 else 9

theorem below9 {k : Nat} (h : k < 9) : k = 0 ∨ k = 1 ∨ k = 2 ∨ k = 3 ∨ k = 4 ∨ k = 5 ∨ k = 6 ∨ k = 7 ∨ k = 8 := by omega
theorem rowIx_cases (b : Nat) : (0 ≤ b ∧ b < 128 ∧ rowIx b = 0) ∨ (128 ≤ b ∧ b < 194 ∧ rowIx b = 9) ∨ (194 ≤ b ∧ b < 224 ∧ rowIx b = 1) ∨ (224 ≤ b ∧ b < 225 ∧ rowIx b = 2) ∨ (225 ≤ b ∧ b < 237 ∧ rowIx b = 3) ∨ (237 ≤ b ∧ b < 238 ∧ rowIx b = 4) ∨ (238 ≤ b ∧ b < 240 ∧ rowIx b = 5) ∨ (240 ≤ b ∧ b < 241 ∧ rowIx b = 6) ∨ (241 ≤ b ∧ b < 244 ∧ rowIx b = 7) ∨ (244 ≤ b ∧ b < 245 ∧ rowIx b = 8) ∨ (245 ≤ b ∧ rowIx b = 9) := by
  unfold rowIx
  repeat' split
  all_goals omega
theorem rowR_cases (r : Int) : (r < 0 ∧ rowR r = 9) ∨ (0 ≤ r ∧ r < 128 ∧ rowR r = 0) ∨ (128 ≤ r ∧ r < 2048 ∧ rowR r = 1) ∨ (2048 ≤ r ∧ r < 4096 ∧ rowR r = 2) ∨ (4096 ≤ r ∧ r < 53248 ∧ rowR r = 3) ∨ (53248 ≤ r ∧ r < 55296 ∧ rowR r = 4) ∨ (55296 ≤ r ∧ r < 57344 ∧ rowR r = 9) ∨ (57344 ≤ r ∧ r < 65536 ∧ rowR r = 5) ∨ (65536 ≤ r ∧ r < 262144 ∧ rowR r = 6) ∨ (262144 ≤ r ∧ r < 1048576 ∧ rowR r = 7) ∨ (1048576 ≤ r ∧ r < 1114112 ∧ rowR r = 8) ∨ (1114112 ≤ r ∧ rowR r = 9) := by
  unfold rowR
  repeat' split
  all_goals omega
theorem rowIx_le (b : Nat) : rowIx b ≤ 9 := by have := rowIx_cases b; omega
theorem rowR_le (r : Int) : rowR r ≤ 9 := by have := rowR_cases r; omega
theorem rowIx_iff {k : Nat} (h : k < 9) (b : Nat) : (fl k ≤ b ∧ b ≤ fh k) ↔ rowIx b = k := by
  rcases below9 h with rfl | rfl | rfl | rfl | rfl | rfl | rfl | rfl | rfl
  · show (0 ≤ b ∧ b ≤ 0x7f) ↔ _; have := rowIx_cases b; omega
  · show (0xc2 ≤ b ∧ b ≤ 0xdf) ↔ _; have := rowIx_cases b; omega
  · show (0xe0 ≤ b ∧ b ≤ 0xe0) ↔ _; have := rowIx_cases b; omega
  · show (0xe1 ≤ b ∧ b ≤ 0xec) ↔ _; have := rowIx_cases b; omega
  · show (0xed ≤ b ∧ b ≤ 0xed) ↔ _; have := rowIx_cases b; omega
  · show (0xee ≤ b ∧ b ≤ 0xef) ↔ _; have := rowIx_cases b; omega
  · show (0xf0 ≤ b ∧ b ≤ 0xf0) ↔ _; have := rowIx_cases b; omega
  · show (0xf1 ≤ b ∧ b ≤ 0xf3) ↔ _; have := rowIx_cases b; omega
  · show (0xf4 ≤ b ∧ b ≤ 0xf4) ↔ _; have := rowIx_cases b; omega
theorem rowR_iff {k : Nat} (h : k < 9) (r : Int) : ((lo k : Nat) ≤ r ∧ r ≤ (hi k : Nat)) ↔ rowR r = k := by
  rcases below9 h with rfl | rfl | rfl | rfl | rfl | rfl | rfl | rfl | rfl
  · show (((0 : Nat) : Int) ≤ r ∧ r ≤ ((0x7f : Nat) : Int)) ↔ _; have := rowR_cases r; omega
  · show (((0x80 : Nat) : Int) ≤ r ∧ r ≤ ((0x7ff : Nat) : Int)) ↔ _; have := rowR_cases r; omega
  · show (((0x800 : Nat) : Int) ≤ r ∧ r ≤ ((0xfff : Nat) : Int)) ↔ _; have := rowR_cases r; omega
  · show (((0x1000 : Nat) : Int) ≤ r ∧ r ≤ ((0xcfff : Nat) : Int)) ↔ _; have := rowR_cases r; omega
  · show (((0xd000 : Nat) : Int) ≤ r ∧ r ≤ ((0xd7ff : Nat) : Int)) ↔ _; have := rowR_cases r; omega
  · show (((0xe000 : Nat) : Int) ≤ r ∧ r ≤ ((0xffff : Nat) : Int)) ↔ _; have := rowR_cases r; omega
  · show (((0x10000 : Nat) : Int) ≤ r ∧ r ≤ ((0x3ffff : Nat) : Int)) ↔ _; have := rowR_cases r; omega
  · show (((0x40000 : Nat) : Int) ≤ r ∧ r ≤ ((0xfffff : Nat) : Int)) ↔ _; have := rowR_cases r; omega
  · show (((0x100000 : Nat) : Int) ≤ r ∧ r ≤ ((0x10ffff : Nat) : Int)) ↔ _; have := rowR_cases r; omega
theorem sz_le (k : Nat) : sz k ≤ 4 := by
  by_cases h : k < 9
  · rcases below9 h with rfl | rfl | rfl | rfl | rfl | rfl | rfl | rfl | rfl <;> decide
  · have : sz k = 0 := by unfold sz; split <;> first | rfl | omega
    omega
theorem sz_pos {k : Nat} (h : k < 9) : 1 ≤ sz k := by
  rcases below9 h with rfl | rfl | rfl | rfl | rfl | rfl | rfl | rfl | rfl <;> decide
theorem row9 : rowV 9 = zeroV := rfl
end Go.Proofs.YthnfekilmiodpaaDoor

namespace Go.Proofs.YthnfekilmiodpaaDoor
open Go
theorem ofInt64 (a : Nat) (ha : a < 2 ^ 63) : (BitVec.ofInt 64 (a : Int)).toNat = a := by
  rw [BitVec.ofInt_natCast, BitVec.toNat_ofNat]
  exact Nat.mod_eq_of_lt (by omega)
/-- Digits behind digits. -/
theorem or_join (q t : Nat) (hq : q < 2 ^ 50) (ht : t < 64) : bits .or .i64 ((q : Int) * 64) (t : Int) = ((q * 64 + t : Nat) : Int) := by
  have e : ((q : Int) * 64) = ((q * 64 : Nat) : Int) := by omega
  have ho : q * 64 ||| t = q * 64 + t := by
    have := Nat.two_pow_add_eq_or_of_lt (i := 6) (b := t) (by omega) q
    rw [show q * 64 = 2 ^ 6 * q from by omega]
    exact this.symm
  rw [e]
  show IntKind.i64.wrap ((BitVec.ofInt 64 ((q * 64 : Nat) : Int) ||| BitVec.ofInt 64 (t : Int)).toNat : Int) = _
  rw [BitVec.toNat_or, ofInt64 _ (by omega), ofInt64 _ (by omega), ho, IntKind.wrap_i64]
  omega
theorem and63 (r : Nat) (hr : r < 2 ^ 62) : bits .and .i64 (r : Int) 63 = ((r % 64 : Nat) : Int) := by
  show IntKind.i64.wrap ((BitVec.ofInt 64 (r : Int) &&& BitVec.ofInt 64 ((63 : Nat) : Int)).toNat : Int) = _
  rw [BitVec.toNat_and, ofInt64 _ (by omega), ofInt64 _ (by omega), show (63 : Nat) = 2 ^ 6 - 1 from rfl, Nat.and_two_pow_sub_one_eq_mod, IntKind.wrap_i64]
  omega
theorem or128 (t : Nat) (ht : t < 64) : bits .or .u8 128 (t : Int) = ((128 + t : Nat) : Int) := by
  have ho : 128 ||| t = 128 + t := by
    have := Nat.two_pow_add_eq_or_of_lt (i := 7) (b := t) (by omega) 1
    simpa using this.symm
  have := u8_or_nat 128 t (by omega) (by omega)
  rw [ho] at this
  exact this
theorem or_mark (i m t : Nat) (hi : i ≤ 7) (hm : 2 ^ i * m < 256) (ht : t < 2 ^ i) : bits .or .u8 ((2 ^ i * m : Nat) : Int) (t : Int) = ((2 ^ i * m + t : Nat) : Int) := by
  have hp : 2 ^ i ≤ 2 ^ 7 := Nat.pow_le_pow_right (by omega) hi
  rw [u8_or_nat _ t hm (by omega), Nat.two_pow_add_eq_or_of_lt ht m]
end Go.Proofs.YthnfekilmiodpaaDoor

namespace Go.Proofs.YthnfekilmiodpaaDoor
open Go
theorem chunk {x : Int} (h0 : 0 ≤ x) (h1 : x < 2 ^ 40) : bits .or .u8 128 (bits .and .i64 x 63 % 256) = 128 + x % 64 := by
  obtain ⟨n, rfl⟩ := Int.eq_ofNat_of_zero_le h0
  rw [and63 n (by omega), show ((n % 64 : Nat) : Int) % 256 = ((n % 64 : Nat) : Int) from by omega, or128 _ (by omega)]
  omega
theorem lead4 {x : Int} (h0 : 0 ≤ x) (h1 : x < 8) : bits .or .u8 240 (x % 256) = 240 + x := by
  obtain ⟨n, rfl⟩ := Int.eq_ofNat_of_zero_le h0
  have := or_mark 3 30 n (by omega) (by omega) (by omega)
  rw [show ((n : Nat) : Int) % 256 = (n : Nat) from by omega]
  exact this
theorem lead3 {x : Int} (h0 : 0 ≤ x) (h1 : x < 16) : bits .or .u8 224 (x % 256) = 224 + x := by
  obtain ⟨n, rfl⟩ := Int.eq_ofNat_of_zero_le h0
  have := or_mark 4 14 n (by omega) (by omega) (by omega)
  rw [show ((n : Nat) : Int) % 256 = (n : Nat) from by omega]
  exact this
theorem lead2 {x : Int} (h0 : 0 ≤ x) (h1 : x < 32) : bits .or .u8 192 (x % 256) = 192 + x := by
  obtain ⟨n, rfl⟩ := Int.eq_ofNat_of_zero_le h0
  have := or_mark 5 6 n (by omega) (by omega) (by omega)
  rw [show ((n : Nat) : Int) % 256 = (n : Nat) from by omega]
  exact this
theorem lead1 {x : Int} (h0 : 0 ≤ x) (h1 : x < 128) : bits .or .u8 0 (x % 256) = x := by
  obtain ⟨n, rfl⟩ := Int.eq_ofNat_of_zero_le h0
  have := or_mark 7 0 n (by omega) (by omega) (by omega)
  rw [show ((n : Nat) : Int) % 256 = (n : Nat) from by omega]
  simpa using this
end Go.Proofs.YthnfekilmiodpaaDoor

namespace Go.Proofs.YthnfekilmiodpaaDoor
open Go
section
variable {P : Program} {a : Act} {w : World} {Q : Exit → Act → World → Prop}
/-- What stands from the label on is walked where the jump is taken. -/
theorem wp_scope_forth {c rest : Code} (l : Nat) (hf : findLabel c l = some rest)
    (h : c.wp P (Exit.jump l (fun a w => rest.wp P (Exit.noGoto Q) a w) Q) a w) : (Code.scope c).wp P Q a w :=
  wp_scope_jumps l _ (fun _ _ => 0) hf h fun a w hJ => wp_mono hJ fun e a' w' q => by
    cases e <;> first | exact q | exact q.elim
end
end Go.Proofs.YthnfekilmiodpaaDoor

namespace Go.Proofs.YthnfekilmiodpaaDoor

/-- May b stand at place i among the bytes of row k? -/
def okB (k : Nat) : Nat → Nat → Bool
  | 0, b => decide (fl k ≤ b ∧ b ≤ fh k)
  | 1, b => decide (sl k ≤ b ∧ b ≤ sh k)
  | _, b => decide (128 ≤ b ∧ b ≤ 191)
def allB (k : Nat) (bs : List UInt8) : Nat → Bool
  | 0 => true
  | n + 1 => allB k bs n && okB k n (bs.getD n 0).toNat
def fitsB (k : Nat) (bs : List UInt8) : Bool := allB k bs bs.length && decide (bs.length = sz k)
/-- The number that the first n bytes make. -/
def joinTo (k : Nat) (bs : List UInt8) : Nat → Nat
  | 0 => 0
  | n + 1 => if n = 0 then (bs.getD 0 0).toNat - mk k else joinTo k bs n * 64 + ((bs.getD n 0).toNat - 128)
def joinB (k : Nat) (bs : List UInt8) : Nat := joinTo k bs bs.length

theorem allB_at {k : Nat} {bs : List UInt8} : ∀ {n i : Nat}, allB k bs n = true → i < n → okB k i (bs.getD i 0).toNat = true
  | n + 1, i, h, hi => by
    simp only [allB, Bool.and_eq_true] at h
    rcases Nat.lt_or_ge i n with hlt | hge
    · exact allB_at h.1 hlt
    · obtain rfl : i = n := by omega
      exact h.2
theorem allB_false {k : Nat} {bs : List UInt8} {i : Nat} (h : okB k i (bs.getD i 0).toNat = false) : ∀ {n : Nat}, i < n → allB k bs n = false
  | n + 1, hi => by
    simp only [allB]
    rcases Nat.lt_or_ge i n with hlt | hge
    · rw [allB_false h hlt]; rfl
    · obtain rfl : i = n := by omega
      rw [h]; simp
theorem okB_more (k i b : Nat) : okB k (i + 2) b = decide (128 ≤ b ∧ b ≤ 191) := rfl
theorem sl_ge {k : Nat} (h : k < 9) : k = 0 ∨ (128 ≤ sl k ∧ sh k ≤ 191) := by
  rcases below9 h with rfl | rfl | rfl | rfl | rfl | rfl | rfl | rfl | rfl <;> decide
theorem mk_le {k : Nat} (h : k < 9) : mk k ≤ fl k ∧ fh k < mk k + 128 := by
  rcases below9 h with rfl | rfl | rfl | rfl | rfl | rfl | rfl | rfl | rfl <;> decide
/-- A byte behind the first one of those that fit has the mark. -/
theorem tail_of_fits {k : Nat} {bs : List UInt8} (hk : k < 9) (h : fitsB k bs = true) {i : Nat} (h0 : 0 < i) (hi : i < bs.length) : 128 ≤ (bs.getD i 0).toNat ∧ (bs.getD i 0).toNat ≤ 191 := by
  simp only [fitsB, Bool.and_eq_true, decide_eq_true_eq] at h
  have ha := allB_at h.1 hi
  match i, h0 with
  | 1, _ =>
    simp only [okB, decide_eq_true_eq] at ha
    rcases sl_ge hk with rfl | hs
    · have : sz 0 = 1 := rfl
      omega
    · omega
  | j + 2, _ =>
    rw [okB_more] at ha
    simpa using ha
theorem head_of_fits {k : Nat} {bs : List UInt8} (h : fitsB k bs = true) (h0 : 0 < bs.length) : fl k ≤ (bs.getD 0 0).toNat ∧ (bs.getD 0 0).toNat ≤ fh k := by
  simp only [fitsB, Bool.and_eq_true, decide_eq_true_eq] at h
  have ha := allB_at h.1 h0
  simpa [okB] using ha
theorem joinTo_lt {k : Nat} {bs : List UInt8} (hk : k < 9) (h : fitsB k bs = true) : ∀ n, n ≤ bs.length → joinTo k bs n < 128 * 64 ^ n
  | 0, _ => by simp [joinTo]
  | n + 1, hn => by
    have ih := joinTo_lt hk h n (by omega)
    unfold joinTo
    split
    · rename_i h0
      subst h0
      have := head_of_fits h (by omega)
      have := mk_le hk
      omega
    · have ht := tail_of_fits hk h (i := n) (by omega) (by omega)
      have : 64 ^ (n + 1) = 64 ^ n * 64 := Nat.pow_succ 64 n
      omega

/-- The scalar whose bytes l begins with, and how many these are. -/
def decL : List UInt8 → Option (Nat × Nat)
  | [] => none
  | b :: t =>
    let k := rowIx b.toNat
    let bs := (b :: t).take (sz k)
    if k < 9 ∧ fitsB k bs = true then some (joinB k bs, sz k) else none
end Go.Proofs.YthnfekilmiodpaaDoor

namespace Go.Proofs.YthnfekilmiodpaaDoor
open Ieee

/-- d is the whole number n, written with a place that is not above 0. -/
def IsInt (d : Datum) (n : Int) : Prop := ∃ s m i, d = .number s m i ∧ i ≤ 0 ∧ signed s m 0 = n * 2 ^ (-i).toNat
/-- d is a number at least 2^53 away from 0, of the sign s. -/
def IsFar (d : Datum) (s : Bool) : Prop := ∃ m i, d = .number s m i ∧ 1 ≤ i ∧ 2 ^ 52 ≤ m

theorem signed_shift (s : Bool) (m k : Nat) : signed s m k = signed s m 0 * 2 ^ k := by
  unfold signed
  cases s <;> simp [Nat.shiftLeft_eq, Int.neg_mul]

theorem order_int {d e : Datum} {a b : Int} (hd : IsInt d a) (he : IsInt e b) : d.order e = some (compare a b) := by
  obtain ⟨s, m, i, rfl, hi, hm⟩ := hd
  obtain ⟨t, n, j, rfl, hj, hn⟩ := he
  simp only [Datum.order]
  rw [signed_shift s, signed_shift t, hm, hn, Int.mul_assoc, Int.mul_assoc, ← Int.pow_add, ← Int.pow_add]
  have e1 : (-i).toNat + (i - min i j).toNat = (- min i j).toNat := by omega
  have e2 : (-j).toNat + (j - min i j).toNat = (- min i j).toNat := by omega
  rw [e1, e2]
  have hp : (0 : Int) < 2 ^ (- min i j).toNat := Int.pow_pos (by omega)
  congr 1
  simp only [compare, compareOfLessAndEq]
  have h1 : (a * 2 ^ (- min i j).toNat < b * 2 ^ (- min i j).toNat) ↔ a < b := Int.mul_lt_mul_right hp
  have h2 : (a * 2 ^ (- min i j).toNat = b * 2 ^ (- min i j).toNat) ↔ a = b := ⟨fun h => Int.eq_of_mul_eq_mul_right (by omega) h, fun h => by rw [h]⟩
  simp only [h1, h2]

theorem pow52_le (k : Nat) : 1 ≤ 2 ^ k := Nat.one_le_two_pow

theorem order_far {d e : Datum} {a : Int} {s : Bool} (hd : IsInt d a) (he : IsFar e s) (h1 : -(2 ^ 53) < a) (h2 : a < 2 ^ 53) : d.order e = some (if s then .gt else .lt) := by
  obtain ⟨t, m, i, rfl, hi, hm⟩ := hd
  obtain ⟨n, j, rfl, hj, hn⟩ := he
  simp only [Datum.order]
  have hb : min i j = i := by omega
  rw [hb, signed_shift t, signed_shift s, hm]
  have e0 : (i - i).toNat = 0 := by omega
  rw [e0, Int.pow_zero, Int.mul_one]
  obtain ⟨k, hk⟩ : ∃ k : Nat, (j - i).toNat = (-i).toNat + 1 + k := ⟨(j - i).toNat - (-i).toNat - 1, by omega⟩
  rw [hk]
  generalize (-i).toNat = q
  have hq : (0 : Int) < 2 ^ q := Int.pow_pos (by omega)
  have hkk : (1 : Int) ≤ 2 ^ k := by have := pow52_le k; exact_mod_cast this
  have hbig : (2 : Int) ^ 53 * 2 ^ q ≤ (n : Int) * 2 ^ (q + 1 + k) := by
    have e : (2 : Int) ^ (q + 1 + k) = 2 * 2 ^ k * 2 ^ q := by rw [Int.pow_add, Int.pow_add]; simp [Int.mul_comm, Int.mul_left_comm, Int.mul_assoc]
    rw [e, ← Int.mul_assoc]
    refine Int.mul_le_mul_of_nonneg_right ?_ (by omega)
    have hn' : (2 : Int) ^ 52 ≤ n := by exact_mod_cast hn
    calc (2 : Int) ^ 53 = 2 ^ 52 * (2 * 1) := by decide
      _ ≤ (n : Int) * (2 * 2 ^ k) := Int.mul_le_mul hn' (by omega) (by omega) (by omega)
  have ha1 : a * 2 ^ q < 2 ^ 53 * 2 ^ q := Int.mul_lt_mul_of_pos_right h2 hq
  have ha2 : -(2 ^ 53 * 2 ^ q) < a * 2 ^ q := by rw [← Int.neg_mul]; exact Int.mul_lt_mul_of_pos_right h1 hq
  congr 1
  cases s
  · simp only [signed, Bool.false_eq_true, if_false, Nat.shiftLeft_zero, compare, compareOfLessAndEq]
    rw [if_pos (by omega)]
  · simp only [signed, if_true, Nat.shiftLeft_zero, compare, compareOfLessAndEq, Int.neg_mul]
    rw [if_neg (by omega), if_neg (by omega)]

theorem cut_none (neg : Bool) (n : Nat) : Toward.even.cut neg n 0 = n := by
  simp [Toward.cut, Nat.mod_one]

/-- What a word stands for whose rung is e binades up. -/
theorem read_normal (e f : Nat) (s : Bool) (he1 : 1 ≤ e) (he2 : e < 2047) (hf : f < 2 ^ 52) :
    double.read (double.word s (e * 2 ^ 52 + f)) = .number s (2 ^ 52 + f) ((e : Int) - 1075) := by
  have hr : e * 2 ^ 52 + f < 2 ^ 63 := by omega
  have hmod : (double.word s (e * 2 ^ 52 + f)) % double.signWeight = e * 2 ^ 52 + f := by
    cases s <;> simp [Format.word, Format.signWeight, double] <;> omega
  have hdiv : (double.word s (e * 2 ^ 52 + f)) / double.signWeight % 2 = s.toNat := by
    cases s <;> simp [Format.word, Format.signWeight, double] <;> omega
  unfold Format.read
  simp only [hmod, hdiv]
  have hb : double.binade = 2 ^ 52 := rfl
  have hi : double.infRung = 2047 * 2 ^ 52 := rfl
  have hl : double.leastPlace = -1074 := by decide
  rw [hb, hi, hl, if_neg (by omega), if_pos (by omega)]
  have h1 : (e * 2 ^ 52 + f) % 2 ^ 52 = f := by omega
  have h2 : (e * 2 ^ 52 + f) / 2 ^ 52 = e := by omega
  rw [h1, h2]
  have h3 : (-1074 : Int) + ((e - 1 : Nat) : Int) = (e : Int) - 1075 := by omega
  rw [h3]
  cases s <;> rfl

theorem rung_eq (B L v f : Nat) (hv : v = B + f) (hf : f < B) (hL : L + 1024 ≤ 2047) : min ((L + 1022) * B + v) (2047 * B) = (L + 1023) * B + f := by
  have e1 : (L + 1023) * B = (L + 1022) * B + B := by rw [show L + 1023 = (L + 1022) + 1 from rfl, Nat.add_mul (L + 1022), Nat.one_mul]
  have e2 : (L + 1024) * B ≤ 2047 * B := Nat.mul_le_mul_right _ hL
  have e3 : (L + 1024) * B = (L + 1023) * B + B := by rw [show L + 1024 = (L + 1023) + 1 from rfl, Nat.add_mul (L + 1023), Nat.one_mul]
  generalize (L + 1022) * B = X at *
  generalize (L + 1023) * B = Y at *
  generalize (L + 1024) * B = Z at *
  generalize 2047 * B = W at *
  omega

theorem log2_bounds (n : Nat) (h : 0 < n) : 2 ^ n.log2 ≤ n ∧ n < 2 ^ (n.log2 + 1) :=
  ⟨Nat.log2_self_le (by omega), Nat.lt_log2_self⟩

/-- The float nearest to a whole number below 2^53 is that number. -/
theorem nearest_int (s : Bool) (n : Nat) (h : n < 2 ^ 53) : IsInt (double.read (double.nearest s n 0)) (if s then -(n : Int) else n) := by
  by_cases h0 : n = 0
  · subst h0
    cases s
    · have h0 : ∀ z : Int, signed false 0 0 = 0 * z := fun z => by rw [Int.zero_mul]; rfl
      exact ⟨false, 0, -1074, by decide, by omega, h0 _⟩
    · have h0 : ∀ z : Int, signed true 0 0 = -((0 : Nat) : Int) * z := fun z => by rw [show (-((0 : Nat) : Int)) = 0 from rfl, Int.zero_mul]; rfl
      exact ⟨true, 0, -1074, by decide, by omega, h0 _⟩
  · obtain ⟨hl1, hl2⟩ := log2_bounds n (by omega)
    have hL : n.log2 ≤ 52 := by
      have := (Nat.log2_lt (by omega : n ≠ 0)).2 h
      omega
    have hlast : max ((0 : Int) + n.log2 - double.fractionBits) double.leastPlace = (n.log2 : Int) - 52 := by
      have : double.leastPlace = -1074 := by decide
      have h2 : (double.fractionBits : Int) = 52 := rfl
      rw [this, h2]; omega
    unfold Format.nearest
    rw [if_neg h0, hlast]
    generalize n.log2 = L at *
    have hk : ((L : Int) - 52 - 0).toNat = 0 := by omega
    have hs : (0 - ((L : Int) - 52)).toNat = 52 - L := by omega
    have hm : ((L : Int) - 52 - double.leastPlace).toNat = L + 1022 := by
      have : double.leastPlace = -1074 := by decide
      rw [this]; omega
    dsimp only
    rw [hk, hs, cut_none, hm, Nat.shiftLeft_eq]
    have hb : double.binade = 2 ^ 52 := rfl
    have hi : double.infRung = 2047 * 2 ^ 52 := rfl
    rw [hb, hi]
    have hlo : 2 ^ 52 ≤ n * 2 ^ (52 - L) := by
      calc 2 ^ 52 = 2 ^ L * 2 ^ (52 - L) := by rw [← Nat.pow_add]; congr 1; omega
        _ ≤ n * 2 ^ (52 - L) := Nat.mul_le_mul_right _ hl1
    have hhi : n * 2 ^ (52 - L) < 2 ^ 53 := by
      calc n * 2 ^ (52 - L) < 2 ^ (L + 1) * 2 ^ (52 - L) := Nat.mul_lt_mul_of_pos_right hl2 (Nat.two_pow_pos _)
        _ = 2 ^ 53 := by rw [← Nat.pow_add]; congr 1; omega
    obtain ⟨f, hf⟩ : ∃ f, n * 2 ^ (52 - L) = 2 ^ 52 + f := ⟨n * 2 ^ (52 - L) - 2 ^ 52, by omega⟩
    have hf52 : f < 2 ^ 52 := by omega
    rw [rung_eq (2 ^ 52) L _ f hf hf52 (by omega), read_normal _ _ _ (by omega) (by omega) hf52, ← hf]
    clear hf hf52 hlo hhi
    refine ⟨s, _, _, rfl, by omega, ?_⟩
    have hp : (-(((L + 1023 : Nat) : Int) - 1075)).toNat = 52 - L := by omega
    rw [hp]
    unfold signed
    cases s <;> simp [Int.neg_mul]

/-- The float nearest to a greater one of 64 bits is far from 0. -/
theorem nearest_far (s : Bool) (n : Nat) (h : 2 ^ 53 ≤ n) (h2 : n < 2 ^ 64) : IsFar (double.read (double.nearest s n 0)) s := by
  obtain ⟨hl1, hl2⟩ := log2_bounds n (by omega)
  have hL : 53 ≤ n.log2 := by
    have := (Nat.le_log2 (by omega : n ≠ 0)).2 h
    omega
  have hL2 : n.log2 ≤ 63 := by
    have := (Nat.log2_lt (by omega : n ≠ 0)).2 h2
    omega
  have hlast : max ((0 : Int) + n.log2 - double.fractionBits) double.leastPlace = (n.log2 : Int) - 52 := by
    have : double.leastPlace = -1074 := by decide
    have h2 : (double.fractionBits : Int) = 52 := rfl
    rw [this, h2]; omega
  unfold Format.nearest
  rw [if_neg (by omega), hlast]
  generalize hLL : n.log2 = L at *
  have hk : ((L : Int) - 52 - 0).toNat = L - 52 := by omega
  have hs : (0 - ((L : Int) - 52)).toNat = 0 := by omega
  have hm : ((L : Int) - 52 - double.leastPlace).toNat = L + 1022 := by
    have : double.leastPlace = -1074 := by decide
    rw [this]; omega
  dsimp only
  rw [hk, hs, hm, Nat.shiftLeft_zero]
  have hb : double.binade = 2 ^ 52 := rfl
  have hi : double.infRung = 2047 * 2 ^ 52 := rfl
  rw [hb, hi]
  have hlow : 2 ^ 52 ≤ n / 2 ^ (L - 52) := by
    rw [Nat.le_div_iff_mul_le (Nat.two_pow_pos _), ← Nat.pow_add]
    calc 2 ^ (52 + (L - 52)) = 2 ^ L := by congr 1; omega
      _ ≤ n := hl1
  have hlow2 : n / 2 ^ (L - 52) < 2 ^ 53 := by
    rw [Nat.div_lt_iff_lt_mul (Nat.two_pow_pos _), ← Nat.pow_add]
    calc n < 2 ^ (L + 1) := hl2
      _ = 2 ^ (53 + (L - 52)) := by congr 1; omega
  have hcut : ∃ c, Toward.even.cut s n (L - 52) = n / 2 ^ (L - 52) + c ∧ c ≤ 1 := by
    unfold Toward.cut
    have hmin : min (L - 52) (n.log2 + 2) = L - 52 := by omega
    simp only [hmin, Nat.shiftLeft_eq, Nat.one_mul]
    exact ⟨_, rfl, Bool.toNat_le _⟩
  obtain ⟨c, hc, hc1⟩ := hcut
  rw [hc]
  generalize n / 2 ^ (L - 52) = q at *
  by_cases hq : q + c = 2 ^ 53
  · have hq2 : q + c = 2 ^ 52 + 2 ^ 52 := by omega
    have hrung : min ((L + 1022) * 2 ^ 52 + (q + c)) (2047 * 2 ^ 52) = (L + 1024) * 2 ^ 52 + 0 := by
      rw [hq2]
      generalize 2 ^ 52 = B
      have e1 : (L + 1024) * B = (L + 1022) * B + (B + B) := by rw [show L + 1024 = (L + 1022) + 2 from rfl, Nat.add_mul (L + 1022), Nat.two_mul]
      have e2 : (L + 1024) * B ≤ 2047 * B := Nat.mul_le_mul_right _ (by omega)
      generalize (L + 1022) * B = X at *
      generalize (L + 1024) * B = Z at *
      generalize 2047 * B = W at *
      omega
    rw [hrung, read_normal _ _ _ (by omega) (by omega) (Nat.two_pow_pos _)]
    exact ⟨_, _, rfl, by omega, Nat.le_add_right _ _⟩
  · obtain ⟨f, hf⟩ : ∃ f, q + c = 2 ^ 52 + f := ⟨q + c - 2 ^ 52, by omega⟩
    have hf52 : f < 2 ^ 52 := by omega
    rw [rung_eq (2 ^ 52) L _ f hf hf52 (by omega), read_normal _ _ _ (by omega) (by omega) hf52]
    exact ⟨_, _, rfl, by omega, Nat.le_add_right _ _⟩

theorem order_far' {d e : Datum} {a : Int} {s : Bool} (hd : IsFar d s) (he : IsInt e a) (h1 : -(2 ^ 53) < a) (h2 : a < 2 ^ 53) : d.order e = some (if s then .lt else .gt) := by
  have h := order_far he hd h1 h2
  obtain ⟨t, m, i, rfl, hi, hm⟩ := he
  obtain ⟨n, j, rfl, hj, hn⟩ := hd
  simp only [Datum.order] at h ⊢
  rw [show min j i = min i j from by omega]
  generalize signed t m (i - min i j).toNat = x at *
  generalize signed s n (j - min i j).toNat = y at *
  simp only [compare, compareOfLessAndEq, Option.some.injEq] at h ⊢
  cases s
  · simp only [Bool.false_eq_true, if_false] at h ⊢
    split at h
    · rw [if_neg (by omega), if_neg (by omega)]
    · split at h <;> cases h
  · simp only [if_true] at h ⊢
    split at h
    · cases h
    · split at h
      · cases h
      · rw [if_pos (by omega)]

/-- A word that is the whole number c, held against the float nearest to an int of 64 bits. -/
theorem order_nearest {bits : Nat} {c n : Int} (hb : IsInt (double.read bits) c) (h1 : -(2 ^ 53) < c) (h2 : c < 2 ^ 53) (hn1 : -(2 ^ 63) ≤ n) (hn2 : n < 2 ^ 63) :
    FloatKind.f64.format.order bits (floatOfInt .f64 n) = some (compare c n) := by
  have hf : FloatKind.f64.format = double := rfl
  have hfl : floatOfInt .f64 n = double.nearest (decide (n < 0)) n.natAbs 0 := rfl
  rw [hf, hfl]
  unfold Format.order
  by_cases hsm : n.natAbs < 2 ^ 53
  · have h := nearest_int (decide (n < 0)) n.natAbs hsm
    have hv : (if decide (n < 0) = true then -((n.natAbs : Nat) : Int) else n.natAbs) = n := by
      by_cases hneg : n < 0 <;> simp [hneg] <;> omega
    rw [hv] at h
    exact order_int hb h
  · have h := nearest_far (decide (n < 0)) n.natAbs (by omega) (by omega)
    rw [order_far hb h h1 h2]
    congr 1
    by_cases hneg : n < 0
    · simp only [hneg, decide_true, if_true, compare, compareOfLessAndEq]
      rw [if_neg (by omega), if_neg (by omega)]
    · simp only [hneg, decide_false, Bool.false_eq_true, if_false, compare, compareOfLessAndEq]
      rw [if_pos (by omega)]
theorem nearest_order {bits : Nat} {c n : Int} (hb : IsInt (double.read bits) c) (h1 : -(2 ^ 53) < c) (h2 : c < 2 ^ 53) (hn1 : -(2 ^ 63) ≤ n) (hn2 : n < 2 ^ 63) :
    FloatKind.f64.format.order (floatOfInt .f64 n) bits = some (compare n c) := by
  have hf : FloatKind.f64.format = double := rfl
  have hfl : floatOfInt .f64 n = double.nearest (decide (n < 0)) n.natAbs 0 := rfl
  rw [hf, hfl]
  unfold Format.order
  by_cases hsm : n.natAbs < 2 ^ 53
  · have h := nearest_int (decide (n < 0)) n.natAbs hsm
    have hv : (if decide (n < 0) = true then -((n.natAbs : Nat) : Int) else n.natAbs) = n := by
      by_cases hneg : n < 0 <;> simp [hneg] <;> omega
    rw [hv] at h
    exact order_int h hb
  · have h := nearest_far (decide (n < 0)) n.natAbs (by omega) (by omega)
    rw [order_far' h hb h1 h2]
    congr 1
    by_cases hneg : n < 0
    · simp only [hneg, decide_true, if_true, compare, compareOfLessAndEq]
      rw [if_pos (by omega)]
    · simp only [hneg, decide_false, Bool.false_eq_true, if_false, compare, compareOfLessAndEq]
      rw [if_neg (by omega), if_neg (by omega)]
end Go.Proofs.YthnfekilmiodpaaDoor

