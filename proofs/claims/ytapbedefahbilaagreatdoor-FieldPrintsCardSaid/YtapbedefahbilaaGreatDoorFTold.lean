/- told: the line and the number of what is wrong. -/
import Derived.Test.YtapbedefahbilaaGreatDoorFAs
namespace Go.Proofs.YtapbedefahbilaaGreatDoor
open Go.RowKit Go.Shelf

theorem two_allocs {w w' : World} {A B : Obj} (h : Below ((w.alloc A).alloc B).heap.size ((w.alloc A).alloc B) w') : Below w.heap.size w w' :=
  (((Below.refl _ _).alloc (Nat.le_refl _) _).alloc (by simp) _).trans (h.mono (by simp; omega))
theorem row_two {w : World} {A B o : Obj} {g : Nat} (h : w.heap[g]? = some o) : ((w.alloc A).alloc B).heap[g]? = some o := by
  have hg := (Array.getElem?_eq_some_iff.1 h).1
  rw [Below.heap_alloc _ _ _ (by simp; omega), Below.heap_alloc _ _ _ hg]
  exact h
theorem asL_miss (n : Int) (g : Nat) (w : World) {m : Int} (hG : FGlob w m) :
    Calls Tryz.prog 50 #[wrongV n, .iface 83 (.pointer (some ⟨g, 0, none⟩))] w fun e w' => e = .returned (.bool false) ∧ Below w.heap.size w w' :=
  as_frontL (wrongV n) 81 ⟨_, rfl⟩ g w hG.et false (Below w.heap.size w) ((as_missW n g w.heap.size _).mono fun _ _ ⟨h1, h2⟩ => ⟨h1, two_allocs h2⟩)
theorem asW_hit (n : Int) (g : Nat) (old : Value) (w : World) {m : Int} (hG : FGlob w m) (ht : w.heap[g]? = some (.cells #[old] 81 (0, 0))) :
    Calls Tryz.prog 50 #[wrongV n, .iface 84 (.pointer (some ⟨g, 0, none⟩))] w fun e w' => e = .returned (.bool true) ∧ Below w.heap.size (w.setCell ⟨g, 0, none⟩ (.int .i64 n)) w' :=
  as_frontW (wrongV n) 81 ⟨_, rfl⟩ g w hG.et true (Below w.heap.size (w.setCell ⟨g, 0, none⟩ (.int .i64 n)))
    ((as_hitW n g w.heap.size old _ (by simp) (row_two ht)).mono fun _ _ ⟨h1, h2⟩ => ⟨h1, (below_setCell2 (((Below.refl w.heap.size w).alloc (Nat.le_refl _) _).alloc (by simp) _) _ _).trans (h2.mono (by simp; omega))⟩)
theorem asL_hit (l n : Int) (g : Nat) (x y : Value) (w : World) {m : Int} (hG : FGlob w m) (ht : w.heap[g]? = some (.cells #[x, y] 80 (0, 0))) :
    Calls Tryz.prog 50 #[.iface 80 (.agg #[.int .i64 l, wrongV n]), .iface 83 (.pointer (some ⟨g, 0, none⟩))] w fun e w' => e = .returned (.bool true) ∧ Below w.heap.size (w.setRow g #[.int .i64 l, wrongV n]) w' :=
  as_frontL _ 80 ⟨_, rfl⟩ g w hG.et true (Below w.heap.size (w.setRow g #[.int .i64 l, wrongV n]))
    ((as_hitL l n g w.heap.size x y _ (by simp) (row_two ht)).mono fun _ _ ⟨h1, h2⟩ => ⟨h1, (below_setRow2 (((Below.refl w.heap.size w).alloc (Nat.le_refl _) _).alloc (by simp) _) _).trans (h2.mono (by simp; omega))⟩)
theorem asW_through (l n : Int) (g : Nat) (old : Value) (w : World) {m : Int} (hG : FGlob w m) (ht : w.heap[g]? = some (.cells #[old] 81 (0, 0))) :
    Calls Tryz.prog 50 #[.iface 80 (.agg #[.int .i64 l, wrongV n]), .iface 84 (.pointer (some ⟨g, 0, none⟩))] w fun e w' => e = .returned (.bool true) ∧ Below w.heap.size (w.setCell ⟨g, 0, none⟩ (.int .i64 n)) w' :=
  as_frontW _ 80 ⟨_, rfl⟩ g w hG.et true (Below w.heap.size (w.setCell ⟨g, 0, none⟩ (.int .i64 n)))
    ((as_through l n g w.heap.size old _ (by simp) (row_two ht)).mono fun _ _ ⟨h1, h2⟩ => ⟨h1, (below_setCell2 (((Below.refl w.heap.size w).alloc (Nat.le_refl _) _).alloc (by simp) _) _ _).trans (h2.mono (by simp; omega))⟩)

abbrev atO (l : Int) (x : Value) : Obj := .cells #[.int .i64 l, x] 80 (0, 0)
abbrev whatO (n : Int) : Obj := .cells #[.int .i64 n] 81 (0, 0)
set_option maxHeartbeats 1000000 in
theorem told_nil (w : World) : Calls Tryz.prog 32 #[.nilIface] w fun e w' => e = .returned (.tuple #[.int .i64 0, .int .i64 0]) ∧ Below w.heap.size w w' := by
  go_enter Tryz.func32, Tryz.ntmps32
  go_wp2_with fail
  refine (as_nil _ _).mono ?_
  rintro e w' ⟨rfl, rfl⟩
  go_wp2_with fail
  refine (as_nil _ _).mono ?_
  rintro e w' ⟨rfl, rfl⟩
  go_wp2
  go_region
  all_goals
    go_wp2
    go_ret2
    exact ⟨rfl, (((Below.refl _ _).alloc (Nat.le_refl _) _).alloc (by simp) _).drew⟩
/-- The end of told, both variables known. -/
theorem told_rows {w w2 : World} {l n : Int} {x : Value} (h0 : w2.heap[w.heap.size]? = some (atO l x)) (h1 : w2.heap[w.heap.size + 1]? = some (whatO n)) :
    w2.cell? ⟨w.heap.size, 0, none⟩ = some (.int .i64 l) ∧ w2.cell? ⟨w.heap.size + 1, 0, none⟩ = some (.int .i64 n) := by
  constructor
  · rw [cell_of_row _ _ 0 _ _ _ h0]; rfl
  · rw [cell_of_row _ _ 0 _ _ _ h1]; rfl
set_option maxHeartbeats 1000000 in
theorem told_file (n : Int) (w : World) {m : Int} (hG : FGlob w m) : Calls Tryz.prog 32 #[wrongV n] w fun e w' => e = .returned (.tuple #[.int .i64 0, .int .i64 n]) ∧ Below w.heap.size w w' := by
  have A0 : Below w.heap.size w ((w.alloc (atO 0 .nilIface)).alloc (whatO 0)) := ((Below.refl _ _).alloc (Nat.le_refl _) _).alloc (by simp) _
  have hG0 := hG.below A0
  have r0 : ((w.alloc (atO 0 .nilIface)).alloc (whatO 0)).heap[w.heap.size]? = some (atO 0 .nilIface) := by rw [Below.heap_alloc _ _ _ (by simp)]; exact heap_alloc_new _ _
  have r1 : ((w.alloc (atO 0 .nilIface)).alloc (whatO 0)).heap[w.heap.size + 1]? = some (whatO 0) := by have := heap_alloc_new (w.alloc (atO 0 .nilIface)) (whatO 0); rwa [World.size_alloc] at this
  have HA0 := Lib.hid A0
  have R0 := Lib.hid r0
  have R1 := Lib.hid r1
  clear A0 r0 r1
  go_enter Tryz.func32, Tryz.ntmps32
  go_wp2_with fail
  refine (asL_miss n w.heap.size _ hG0).mono ?_
  rintro e w1 ⟨rfl, b1⟩
  have hG1 := hG0.below b1
  have r0 := row_below R0.out b1
  have r1 := row_below R1.out b1
  have B1 := Lib.hid (HA0.out.trans (b1.mono HA0.out.size))
  clear b1
  go_wp2_with fail
  refine (asW_hit n (w.heap.size + 1) _ w1 hG1 r1).mono ?_
  rintro e w2 ⟨rfl, b2⟩
  have lt1 := (Array.getElem?_eq_some_iff.1 r1).1
  have q0 : w2.heap[w.heap.size]? = some (atO 0 .nilIface) := (b2.block _ (by omega)).trans ((Below.heap_setCell w1 ⟨w.heap.size + 1, 0, none⟩ _ w.heap.size (by simp)).trans r0)
  have q1 : w2.heap[w.heap.size + 1]? = some (whatO n) := (b2.block _ lt1).trans (set_heap _ r1)
  obtain ⟨c0, c1⟩ := told_rows q0 q1
  have B2 := Lib.hid ((B1.out.setCell (p := ⟨w.heap.size + 1, 0, none⟩) (by simp) (.int .i64 n)).trans (b2.mono B1.out.size))
  clear r0 r1 b2 q0 q1
  go_wp2
  go_region
  all_goals
    go_wp2
    go_ret2
    exact ⟨rfl, B2.out.drew⟩
set_option maxHeartbeats 1000000 in
theorem told_line (l n : Int) (w : World) {m : Int} (hG : FGlob w m) : Calls Tryz.prog 32 #[.iface 80 (.agg #[.int .i64 l, wrongV n])] w fun e w' => e = .returned (.tuple #[.int .i64 l, .int .i64 n]) ∧ Below w.heap.size w w' := by
  have A0 : Below w.heap.size w ((w.alloc (atO 0 .nilIface)).alloc (whatO 0)) := ((Below.refl _ _).alloc (Nat.le_refl _) _).alloc (by simp) _
  have hG0 := hG.below A0
  have r0 : ((w.alloc (atO 0 .nilIface)).alloc (whatO 0)).heap[w.heap.size]? = some (atO 0 .nilIface) := by rw [Below.heap_alloc _ _ _ (by simp)]; exact heap_alloc_new _ _
  have r1 : ((w.alloc (atO 0 .nilIface)).alloc (whatO 0)).heap[w.heap.size + 1]? = some (whatO 0) := by have := heap_alloc_new (w.alloc (atO 0 .nilIface)) (whatO 0); rwa [World.size_alloc] at this
  have HA0 := Lib.hid A0
  have R0 := Lib.hid r0
  have R1 := Lib.hid r1
  clear A0 r0 r1
  go_enter Tryz.func32, Tryz.ntmps32
  go_wp2_with fail
  refine (asL_hit l n w.heap.size _ _ _ hG0 R0.out).mono ?_
  rintro e w1 ⟨rfl, b1⟩
  have hz := (Array.getElem?_eq_some_iff.1 R1.out).1
  have r0 : w1.heap[w.heap.size]? = some (atO l (wrongV n)) := (b1.block _ (by omega)).trans (setRow_heap _ _ _ _ _ _ R0.out)
  have r1 : w1.heap[w.heap.size + 1]? = some (whatO 0) := (b1.block _ hz).trans ((setRow_other _ _ _ _ (by omega)).trans R1.out)
  have B1 := Lib.hid ((below_setRow HA0.out (Nat.le_refl _) #[.int .i64 l, wrongV n]).trans (b1.mono HA0.out.size))
  have hG1 := hG.below B1.out
  clear b1
  go_wp2_with fail
  refine (asW_through l n (w.heap.size + 1) _ w1 hG1 r1).mono ?_
  rintro e w2 ⟨rfl, b2⟩
  have lt1 := (Array.getElem?_eq_some_iff.1 r1).1
  have q0 : w2.heap[w.heap.size]? = some (atO l (wrongV n)) := (b2.block _ (by omega)).trans ((Below.heap_setCell w1 ⟨w.heap.size + 1, 0, none⟩ _ w.heap.size (by simp)).trans r0)
  have q1 : w2.heap[w.heap.size + 1]? = some (whatO n) := (b2.block _ lt1).trans (set_heap _ r1)
  obtain ⟨c0, c1⟩ := told_rows q0 q1
  have B2 := Lib.hid ((B1.out.setCell (p := ⟨w.heap.size + 1, 0, none⟩) (by simp) (.int .i64 n)).trans (b2.mono B1.out.size))
  clear r0 r1 b2 q0 q1 hz
  go_wp2
  go_region
  all_goals
    go_wp2
    go_ret2
    exact ⟨rfl, B2.out.drew⟩
theorem told_any (R : ErrR) (w : World) {m : Int} (hG : FGlob w m) : Calls Tryz.prog 32 #[errRV R] w fun e w' => e = .returned (toldV R) ∧ Below w.heap.size w w' := by
  cases R with
  | none => exact told_nil w
  | file n => exact told_file n w hG
  | line l n => exact told_line l n w hG
end Go.Proofs.YtapbedefahbilaaGreatDoor
