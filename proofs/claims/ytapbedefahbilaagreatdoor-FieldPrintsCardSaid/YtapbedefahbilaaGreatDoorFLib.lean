/- trim, counted: what of a line counts; the library's by the shelf's contracts. -/
import Derived.Test.YtapbedefahbilaaGreatDoorFCode
import Derived.Test.YtapbedefahbilaaGreatDoorShelf
import Derived.Shelf.Strings.SlTrimAscii
namespace Go.Proofs.YtapbedefahbilaaGreatDoor
open Go.RowKit Go.Shelf

/-- What the library's variables hold that the calls look at. -/
structure FGlob (w : World) (m : Int) : Prop where
  mx : w.cell? ⟨3, 0, none⟩ = some (.int .i64 m)
  et : w.cell? ⟨0, 0, none⟩ = some (.iface 123 (.agg #[.pointer (some ⟨8, 51, none⟩)]))
  tz : w.cell? ⟨7, 15, none⟩ = some (.int .u8 4)
theorem cell_keep {w w' : World} {a : Addr} {v : Value} (hb : Below w.heap.size w w') (h : w.cell? a = some v) : w'.cell? a = some v :=
  (hb.cell (World.block_lt_of_cell? w _ h)).trans h
theorem FGlob.below {w w' : World} {m : Int} (h : FGlob w m) (hb : Below w.heap.size w w') : FGlob w' m :=
  ⟨cell_keep hb h.mx, cell_keep hb h.et, cell_keep hb h.tz⟩
theorem FGlob.pos {w : World} {m : Int} (h : FGlob w m) : 3 < w.heap.size ∧ 0 < w.heap.size ∧ 7 < w.heap.size :=
  ⟨World.block_lt_of_cell? w _ h.mx, World.block_lt_of_cell? w _ h.et, World.block_lt_of_cell? w _ h.tz⟩

def blanksL : List UInt8 := [32, 9, 13]
def trimL (l : List UInt8) : List UInt8 := Lib.trimS l blanksL
abbrev strV (l : List UInt8) : Value := .string ⟨l.toArray⟩
theorem below_drewN (w : World) (n : Nat) : Below w.heap.size w (w.drewN n) := by
  induction n with
  | zero => exact Below.refl _ _
  | succ n ih => exact ih.drew

set_option maxHeartbeats 1000000 in
theorem trim_any (s : ByteArray) (w : World) (hs : s.size ≤ 1000000) :
    Calls Tryz.prog 48 #[.string s] w fun e w' => e = .returned (strV (trimL s.data.toList)) ∧ Below w.heap.size w w' := by
  have hcon := Any.strings_Trim_laid Tryz.lays160 (by kernel_rfl) s ⟨#[32, 9, 13]⟩ w (by omega) (by decide) (ascii_of_all (by decide))
  change Calls Tryz.prog 60 _ _ (fun e w' => e = .returned (strV (trimL s.data.toList)) ∧ Below w.heap.size w w') at hcon
  generalize strV (trimL s.data.toList) = r at hcon ⊢
  go_enter Tryz.func48, Tryz.ntmps48
  go_wp2_with fail
  refine hcon.mono ?_
  rintro e w' ⟨rfl, hB⟩
  go_wp2
  go_ret
  exact ⟨rfl, hB⟩

/-- What stands ahead of a mark, and behind it. -/
def cutL (l sep : List UInt8) : List UInt8 × List UInt8 × Bool := Lib.cut l sep
def countedL (l : List UInt8) : List UInt8 := trimL (cutL l [35]).1
theorem cut_any (s sep : ByteArray) (w : World) {m : Int} (hG : FGlob w m) (hs : s.size ≤ 1000000) :
    Calls Tryz.prog 58 #[.string s, .string sep] w fun e w' => e = .returned (.tuple #[strV (cutL s.data.toList sep.data.toList).1, strV (cutL s.data.toList sep.data.toList).2.1, .bool (cutL s.data.toList sep.data.toList).2.2]) ∧ Below w.heap.size w w' := by
  refine (Tryz.strings_Cut s sep m w (by omega) hG.mx).mono ?_
  rintro e w' ⟨rfl, n, rfl⟩
  exact ⟨rfl, below_drewN w n⟩
theorem cutL_le (l sep : List UInt8) : (cutL l sep).1.length ≤ l.length ∧ (cutL l sep).2.1.length ≤ l.length := by
  unfold cutL Lib.cut
  split
  · exact ⟨by rw [List.length_take]; omega, by rw [List.length_drop]; omega⟩
  · exact ⟨Nat.le_refl _, Nat.zero_le _⟩
end Go.Proofs.YtapbedefahbilaaGreatDoor
