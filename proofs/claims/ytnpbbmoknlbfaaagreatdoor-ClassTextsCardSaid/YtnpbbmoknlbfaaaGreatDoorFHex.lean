/- hex, the map of digits. -/
import Derived.Test.YtnpbbmoknlbfaaaGreatDoorFPure
import Derived.Test.YtnpbbmoknlbfaaaGreatDoorProg
import Derived.Maps.OwnSet
import Derived.Maps.OwnOps
import Derived.Maps.Views
import Derived.Lib.OthersKept
namespace Go.Proofs.YtnpbbmoknlbfaaaGreatDoor
open Go.RowKit Go.Maps

theorem keyRune : Keyed Tryz.prog 21 := int_keyed Tryz.underlying21
theorem zeroInt (w : World) : (zeroValue 3).run Tryz.prog w = .ok (.int .i64 0) w := by kernel_rfl
theorem wf32 {n : Nat} (h : n ≤ 2147483647) : (Lit.int .i32 (n : Nat)).wf = true := by
  have e1 : IntKind.i32.min = -2147483648 := by decide
  have e2 : IntKind.i32.max = 2147483647 := by decide
  simp only [Lit.wf, Bool.and_eq_true, decide_eq_true_eq, e1, e2]
  omega
theorem wf64 {n : Nat} (h : n < 1000000) : (Lit.int .i64 (n : Nat)).wf = true := by
  have e1 : IntKind.i64.min = -9223372036854775808 := by decide
  have e2 : IntKind.i64.max = 9223372036854775807 := by decide
  simp only [Lit.wf, Bool.and_eq_true, decide_eq_true_eq, e1, e2]
  omega
abbrev hexS : ByteArray := ⟨#[48, 49, 50, 51, 52, 53, 54, 55, 56, 57, 97, 98, 99, 100, 101, 102]⟩
abbrev capS : ByteArray := ⟨#[65, 66, 67, 68, 69, 70]⟩
def hexM : Nat → DataW Unit
  | 0 => .map []
  | j + 1 => (hexM j).put (.int .i32 ((hexS.data.getD j 0).toNat : Nat)) (.lit (.int .i64 (j : Nat)))
def capM : Nat → DataW Unit
  | 0 => hexM 16
  | j + 1 => (capM j).put (.int .i32 ((capS.data.getD j 0).toNat : Nat)) (.lit (.int .i64 ((10 : Int) + (j : Nat))))
theorem ascii_hex : ∀ j (h : j < hexS.size), (hexS[j]'h).toNat < 128 := by decide
theorem ascii_cap : ∀ j (h : j < capS.size), (capS[j]'h).toNat < 128 := by decide

theorem grownBy_iterAt (w : World) (k : Nat) (s : ByteArray) (pos : Nat) : w.grownBy (w.iterAt k s pos) (some k) :=
  ⟨rfl, rfl, rfl, by rw [Lib.iterAt_size]; exact Nat.le_refl _, fun j _ hj => Lib.iterAt_other w k j s pos (fun e => hj (by rw [e]))⟩

theorem getD_at (s : ByteArray) (j : Nat) (h : j < s.size) : s.data.getD j 0 = s[j]'h := by
  simp only [Array.getD]
  rw [dif_pos (show j < s.data.size from h)]
  rfl
theorem wfI {n : Int} (h0 : 0 ≤ n) (h : n < 1000000) : (Lit.int .i64 n).wf = true := by
  obtain ⟨m, rfl⟩ := Int.eq_ofNat_of_zero_le h0
  exact wf64 (by omega)
/-- What holds between two rounds: the map so far, and where the text's iterator stands. -/
structure Laid (w wr : World) (it : Nat) (s : ByteArray) (j : Nat) (n : Nat) (D : DataW Unit) : Prop where
  hit : wr.heap[it]? = some (.stringIter s j)
  own : wr.ownsMap Tryz.prog 21 (plainElem Tryz.prog 3) w.heap.size n D
  below : Below w.heap.size w wr
  lt : w.heap.size < it
theorem Laid.next {w wr : World} {it : Nat} {s : ByteArray} {j n : Nat} {D : DataW Unit} (h : Laid w wr it s j n D) : Laid w (wr.iterAt it s (j + 1)) it s (j + 1) n D :=
  ⟨Lib.iterAt_heap wr it s j (j + 1) h.hit, h.own.kept (grownBy_iterAt wr it s (j + 1)) (by simp; have := h.lt; omega), Lib.below_iterAt h.below (by have := h.lt; omega) s (j + 1), h.lt⟩
theorem Laid.put {w wr w1 : World} {it : Nat} {s : ByteArray} {j n m : Nat} {D D' : DataW Unit} (h : Laid w wr it s j n D) (ho : w1.ownsMap Tryz.prog 21 (plainElem Tryz.prog 3) w.heap.size m D') (hg : wr.grownBy w1 (some w.heap.size)) : Laid w w1 it s j m D' :=
  ⟨(hg.block it (Array.getElem?_eq_some_iff.1 h.hit).1 (by simp; have := h.lt; omega)).trans h.hit, ho, h.below.grown hg h.below.size (fun k e => by cases e; exact Nat.le_refl _), h.lt⟩

end Go.Proofs.YtnpbbmoknlbfaaaGreatDoor
