/- The table of UTF-8 as the code has it, row by row: plain numbers. Row 9 is none. -/
import GoSem.Core.Value
namespace Go.Proofs.YtcdgmamlmapbcaaDoor
open Go

def lo : Nat → Nat | 0 => 0x0 | 1 => 0x80 | 2 => 0x800 | 3 => 0x1000 | 4 => 0xd000 | 5 => 0xe000 | 6 => 0x10000 | 7 => 0x40000 | 8 => 0x100000 | _ => 0
def hi : Nat → Nat | 0 => 0x7f | 1 => 0x7ff | 2 => 0xfff | 3 => 0xcfff | 4 => 0xd7ff | 5 => 0xffff | 6 => 0x3ffff | 7 => 0xfffff | 8 => 0x10ffff | _ => 0
def sz : Nat → Nat | 0 => 1 | 1 => 2 | 2 => 3 | 3 => 3 | 4 => 3 | 5 => 3 | 6 => 4 | 7 => 4 | 8 => 4 | _ => 0
def fl : Nat → Nat | 0 => 0 | 1 => 0xc2 | 2 => 0xe0 | 3 => 0xe1 | 4 => 0xed | 5 => 0xee | 6 => 0xf0 | 7 => 0xf1 | 8 => 0xf4 | _ => 0
def fh : Nat → Nat | 0 => 0x7f | 1 => 0xdf | 2 => 0xe0 | 3 => 0xec | 4 => 0xed | 5 => 0xef | 6 => 0xf0 | 7 => 0xf3 | 8 => 0xf4 | _ => 0
def sl : Nat → Nat | 0 => 0 | 1 => 0x80 | 2 => 0xa0 | 3 => 0x80 | 4 => 0x80 | 5 => 0x80 | 6 => 0x90 | 7 => 0x80 | 8 => 0x80 | _ => 0
def sh : Nat → Nat | 0 => 0 | 1 => 0xbf | 2 => 0xbf | 3 => 0xbf | 4 => 0x9f | 5 => 0xbf | 6 => 0xbf | 7 => 0xbf | 8 => 0x8f | _ => 0
/-- What is set in a first byte beside the digits. -/
def mk : Nat → Nat | 1 => 0xc0 | 2 => 0xe0 | 3 => 0xe0 | 4 => 0xe0 | 5 => 0xe0 | 6 => 0xf0 | 7 => 0xf0 | 8 => 0xf0 | _ => 0
/-- The words of the floats lo and hi. -/
def lob : Nat → Nat | 1 => 4638707616191610880 | 2 => 4656722014701092864 | 3 => 4661225614328463360 | 4 => 4677551162977681408 | 5 => 4678114112931102720 | 6 => 4679240012837945344 | 7 => 4688247212092686336 | 8 => 4697254411347427328 | _ => 0
def hib : Nat → Nat | 0 => 4638637247447433216 | 1 => 4656717616654581760 | 2 => 4661223415305207808 | 3 => 4677551025538727936 | 4 => 4677832500515438592 | 5 => 4679239875398991872 | 6 => 4688247177732947968 | 7 => 4697254402757492736 | 8 => 4697535882029170688 | _ => 0

/-- Row k as it lies in memory. -/
abbrev rowV (k : Nat) : Value := .agg #[.complex .f64 (lob k) (hib k), .int .i64 (sz k : Nat), .int .u8 (fl k : Nat), .int .u8 (fh k : Nat), .int .u8 (sl k : Nat), .int .u8 (sh k : Nat)]
abbrev zeroV : Value := .agg #[.complex .f64 0 0, .int .i64 0, .int .u8 0, .int .u8 0, .int .u8 0, .int .u8 0]

/-- The row whose first bytes have b. -/
def rowIx (b : Nat) : Nat :=
  if b < 0x80 then 0 else if b < 0xc2 then 9 else if b < 0xe0 then 1 else if b = 0xe0 then 2 else if b < 0xed then 3 else if b = 0xed then 4
  else if b < 0xf0 then 5 else if b = 0xf0 then 6 else if b < 0xf4 then 7 else if b = 0xf4 then 8 else 9
/-- The row that has the scalar r. -/
def rowR (r : Int) : Nat :=
  if r < 0 then 9 else if r < 0x80 then 0 else if r < 0x800 then 1 else if r < 0x1000 then 2 else if r < 0xd000 then 3 else if r < 0xd800 then 4
  else if r < 0xe000 then 9 else if r < 0x10000 then 5 else if r < 0x40000 then 6 else if r < 0x100000 then 7 else if r < 0x110000 then 8 else 9

theorem below9 {k : Nat} (h : k < 9) : k = 0 ∨ k = 1 ∨ k = 2 ∨ k = 3 ∨ k = 4 ∨ k = 5 ∨ k = 6 ∨ k = 7 ∨ k = 8 := by omega
theorem rowIx_cases (b : Nat) : (0 ≤ b ∧ b < 128 ∧ rowIx b = 0) ∨ (128 ≤ b ∧ b < 194 ∧ rowIx b = 9) ∨ (194 ≤ b ∧ b < 224 ∧ rowIx b = 1) ∨ (224 ≤ b ∧ b < 225 ∧ rowIx b = 2) ∨ (225 ≤ b ∧ b < 237 ∧ rowIx b = 3) ∨ (237 ≤ b ∧ b < 238 ∧ rowIx b = 4) ∨ (238 ≤ b ∧ b < 240 ∧ rowIx b = 5) ∨ (240 ≤ b ∧ b < 241 ∧ rowIx b = 6) ∨ (241 ≤ b ∧ b < 244 ∧ rowIx b = 7) ∨ (244 ≤ b ∧ b < 245 ∧ rowIx b = 8) ∨ (245 ≤ b ∧ rowIx b = 9) := by
  unfold rowIx
  repeat' split
  all_goals omega
theorem rowR_cases (r : Int) : (r < 0 ∧ rowR r = 9) ∨ (0 ≤ r ∧ r < 128 ∧ rowR r = 0) ∨ (128 ≤ r ∧ r < 2048 ∧ rowR r = 1) ∨ (2048 ≤ r ∧ r < 4096 ∧ rowR r = 2) ∨ (4096 ≤ r ∧ r < 53248 ∧ rowR r = 3) ∨ (53248 ≤ r ∧ r < 55296 ∧ rowR r = 4) ∨ (55296 ≤ r ∧ r < 57344 ∧ rowR r = 9) ∨ (57344 ≤ r ∧ r < 65536 ∧ rowR r = 5) ∨ (65536 ≤ r ∧ r < 262144 ∧ rowR r = 6) ∨ (262144 ≤ r ∧ r < 1048576 ∧ rowR r = 7) ∨ (1048576 ≤ r ∧ r < 1114112 ∧ rowR r = 8) ∨ (1114112 ≤ r ∧ rowR r = 9) := by
  unfold rowR
  repeat' split
  all_goals omega
theorem rowIx_le (b : Nat) : rowIx b ≤ 9 := by have := rowIx_cases b; omega
theorem rowR_le (r : Int) : rowR r ≤ 9 := by have := rowR_cases r; omega
theorem rowIx_iff {k : Nat} (h : k < 9) (b : Nat) : (fl k ≤ b ∧ b ≤ fh k) ↔ rowIx b = k := by
  rcases below9 h with rfl | rfl | rfl | rfl | rfl | rfl | rfl | rfl | rfl
  · show (0 ≤ b ∧ b ≤ 0x7f) ↔ _; have := rowIx_cases b; omega
  · show (0xc2 ≤ b ∧ b ≤ 0xdf) ↔ _; have := rowIx_cases b; omega
  · show (0xe0 ≤ b ∧ b ≤ 0xe0) ↔ _; have := rowIx_cases b; omega
  · show (0xe1 ≤ b ∧ b ≤ 0xec) ↔ _; have := rowIx_cases b; omega
  · show (0xed ≤ b ∧ b ≤ 0xed) ↔ _; have := rowIx_cases b; omega
  · show (0xee ≤ b ∧ b ≤ 0xef) ↔ _; have := rowIx_cases b; omega
  · show (0xf0 ≤ b ∧ b ≤ 0xf0) ↔ _; have := rowIx_cases b; omega
  · show (0xf1 ≤ b ∧ b ≤ 0xf3) ↔ _; have := rowIx_cases b; omega
  · show (0xf4 ≤ b ∧ b ≤ 0xf4) ↔ _; have := rowIx_cases b; omega
theorem rowR_iff {k : Nat} (h : k < 9) (r : Int) : ((lo k : Nat) ≤ r ∧ r ≤ (hi k : Nat)) ↔ rowR r = k := by
  rcases below9 h with rfl | rfl | rfl | rfl | rfl | rfl | rfl | rfl | rfl
  · show (((0 : Nat) : Int) ≤ r ∧ r ≤ ((0x7f : Nat) : Int)) ↔ _; have := rowR_cases r; omega
  · show (((0x80 : Nat) : Int) ≤ r ∧ r ≤ ((0x7ff : Nat) : Int)) ↔ _; have := rowR_cases r; omega
  · show (((0x800 : Nat) : Int) ≤ r ∧ r ≤ ((0xfff : Nat) : Int)) ↔ _; have := rowR_cases r; omega
  · show (((0x1000 : Nat) : Int) ≤ r ∧ r ≤ ((0xcfff : Nat) : Int)) ↔ _; have := rowR_cases r; omega
  · show (((0xd000 : Nat) : Int) ≤ r ∧ r ≤ ((0xd7ff : Nat) : Int)) ↔ _; have := rowR_cases r; omega
  · show (((0xe000 : Nat) : Int) ≤ r ∧ r ≤ ((0xffff : Nat) : Int)) ↔ _; have := rowR_cases r; omega
  · show (((0x10000 : Nat) : Int) ≤ r ∧ r ≤ ((0x3ffff : Nat) : Int)) ↔ _; have := rowR_cases r; omega
  · show (((0x40000 : Nat) : Int) ≤ r ∧ r ≤ ((0xfffff : Nat) : Int)) ↔ _; have := rowR_cases r; omega
  · show (((0x100000 : Nat) : Int) ≤ r ∧ r ≤ ((0x10ffff : Nat) : Int)) ↔ _; have := rowR_cases r; omega
theorem sz_le (k : Nat) : sz k ≤ 4 := by
  by_cases h : k < 9
  · rcases below9 h with rfl | rfl | rfl | rfl | rfl | rfl | rfl | rfl | rfl <;> decide
  · have : sz k = 0 := by unfold sz; split <;> first | rfl | omega
    omega
theorem sz_pos {k : Nat} (h : k < 9) : 1 ≤ sz k := by
  rcases below9 h with rfl | rfl | rfl | rfl | rfl | rfl | rfl | rfl | rfl <;> decide
theorem row9 : rowV 9 = zeroV := rfl
end Go.Proofs.YtcdgmamlmapbcaaDoor
