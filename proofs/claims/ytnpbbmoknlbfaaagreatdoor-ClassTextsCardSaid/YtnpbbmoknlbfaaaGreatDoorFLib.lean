/- trim, counted: what of a line counts; the library's by the shelf's contracts. -/
import Derived.Test.YtnpbbmoknlbfaaaGreatDoorFCode
import Derived.Test.YtnpbbmoknlbfaaaGreatDoorShelf
import Derived.Shelf.Strings.SlTrimAscii
namespace Go.Proofs.YtnpbbmoknlbfaaaGreatDoor
open Go.RowKit Go.Shelf

/-- What the library's variables hold that the calls look at. -/
structure FGlob (w : World) (m : Int) : Prop where
  mx : w.cell? ⟨4, 0, none⟩ = some (.int .i64 m)
  et : w.cell? ⟨2, 0, none⟩ = some (.iface 170 (.agg #[.pointer (some ⟨9, 65, none⟩)]))
  tz : w.cell? ⟨6, 15, none⟩ = some (.int .u8 4)
theorem cell_keep {w w' : World} {a : Addr} {v : Value} (hb : Below w.heap.size w w') (h : w.cell? a = some v) : w'.cell? a = some v :=
  (hb.cell (World.block_lt_of_cell? w _ h)).trans h
theorem FGlob.below {w w' : World} {m : Int} (h : FGlob w m) (hb : Below w.heap.size w w') : FGlob w' m :=
  ⟨cell_keep hb h.mx, cell_keep hb h.et, cell_keep hb h.tz⟩
theorem FGlob.pos {w : World} {m : Int} (h : FGlob w m) : 4 < w.heap.size ∧ 2 < w.heap.size ∧ 6 < w.heap.size :=
  ⟨World.block_lt_of_cell? w _ h.mx, World.block_lt_of_cell? w _ h.et, World.block_lt_of_cell? w _ h.tz⟩

def blanksL : List UInt8 := [32, 9, 13]
def trimL (l : List UInt8) : List UInt8 := Lib.trimS l blanksL
abbrev strV (l : List UInt8) : Value := .string ⟨l.toArray⟩
theorem below_drewN (w : World) (n : Nat) : Below w.heap.size w (w.drewN n) := by
  induction n with
  | zero => exact Below.refl _ _
  | succ n ih => exact ih.drew

/-- What stands ahead of a mark, and behind it. -/
def cutL (l sep : List UInt8) : List UInt8 × List UInt8 × Bool := Lib.cut l sep
def countedL (l : List UInt8) : List UInt8 := trimL (cutL l [35]).1
theorem cutL_le (l sep : List UInt8) : (cutL l sep).1.length ≤ l.length ∧ (cutL l sep).2.1.length ≤ l.length := by
  unfold cutL Lib.cut
  split
  · exact ⟨by rw [List.length_take]; omega, by rw [List.length_drop]; omega⟩
  · exact ⟨Nat.le_refl _, Nat.zero_le _⟩
end Go.Proofs.YtnpbbmoknlbfaaaGreatDoor
