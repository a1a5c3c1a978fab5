/- Line: the record of a text taken as one line. -/
import Derived.Test.YtapbedefahbilaaGreatDoorFLine
import Derived.Test.YtapbedefahbilaaGreatDoorFTold
namespace Go.Proofs.YtapbedefahbilaaGreatDoor
open Go.RowKit Go.Shelf

def LinePost (R : LineR) (w : World) (e : Ending) (w' : World) : Prop := match R with
  | .nothing => e = .returned (.tuple #[recV 0 0 0 (.slice none 0 0), .bool false, .int .i64 0]) ∧ Below w.heap.size w w'
  | .bad n => e = .returned (.tuple #[recV 0 0 0 (.slice none 0 0), .bool false, .int .i64 (n : Nat)]) ∧ Below w.heap.size w w'
  | .good a b fs => ∃ v, e = .returned (.tuple #[recV 0 (a : Nat) (b : Nat) v, .bool true, .int .i64 0]) ∧ w'.ownsRow w.heap.size 9 1 v fs.length (fs.map strV) ∧ Below w.heap.size w w'
/-- What record answers, in one form. -/
theorem rec_form {R : LineR} {w : World} {e : Ending} {w' : World} (h : RecPost R w e w') : ∃ (a b : Nat) (o : Option Addr) (n cap : Nat) (c : Bool) (E : Nat) (Er : ErrR), e = .returned (.tuple #[recV 0 (a : Nat) (b : Nat) (.slice o n cap), .bool c, errRV Er]) ∧ toldV Er = .tuple #[.int .i64 0, .int .i64 (E : Nat)] ∧ Below w.heap.size w w' ∧
    (∃ xs, w'.ownsRow w.heap.size 9 1 (.slice o n cap) n xs) ∧
    ∀ (w0 : World) (w'' : World), w0.heap.size ≤ w.heap.size → Below w0.heap.size w0 w'' → (∀ xs, w'.ownsRow w.heap.size 9 1 (.slice o n cap) n xs → w''.ownsRow w0.heap.size 9 1 (.slice o n cap) n xs) → LinePost R w0 (.returned (.tuple #[recV 0 (a : Nat) (b : Nat) (.slice o n cap), .bool c, .int .i64 (E : Nat)])) w'' := by
  cases R with
  | nothing =>
    obtain ⟨rfl, hb⟩ := h
    exact ⟨0, 0, none, 0, 0, false, 0, .none, rfl, rfl, hb, ⟨[], World.ownsRow_nil _ _ _ _⟩, fun w0 w'' _ hb' _ => ⟨rfl, hb'⟩⟩
  | bad n =>
    obtain ⟨rfl, hb⟩ := h
    exact ⟨0, 0, none, 0, 0, false, n, .file n, rfl, rfl, hb, ⟨[], World.ownsRow_nil _ _ _ _⟩, fun w0 w'' _ hb' _ => ⟨rfl, hb'⟩⟩
  | good a b fs =>
    obtain ⟨v, rfl, ho, hb⟩ := h
    obtain ⟨o, cap, rfl⟩ := own_form ho
    exact ⟨a, b, o, fs.length, cap, true, 0, .none, rfl, rfl, hb, ⟨_, ho⟩, fun w0 w'' _ hb' hk => ⟨_, rfl, hk _ ho, hb'⟩⟩

set_option maxRecDepth 100000 in
set_option maxHeartbeats 1000000 in
theorem line_go (R : LineR) (s : ByteArray) (w : World) {m : Int} (hG : FGlob w m) (hrec : ∀ (b : Nat) (W : World), FGlob W m → Digits W b → Calls Tryz.prog 31 #[.map (some b), .string s] W (RecPost R W)) :
    Calls Tryz.prog 16 #[.string s] w (LinePost R w) := by
  have A0 : Below w.heap.size w (w.alloc (recO 0 0 0 (.slice none 0 0))) := (Below.refl _ _).alloc (Nat.le_refl _) _
  have r0 : (w.alloc (recO 0 0 0 (.slice none 0 0))).heap[w.heap.size]? = some (recO 0 0 0 (.slice none 0 0)) := heap_alloc_new _ _
  have A0' := Lib.hid A0
  have R0 := Lib.hid r0
  have HG := Lib.hid hG
  have HREC := Lib.hid hrec
  clear A0 r0 hG hrec
  go_enter Tryz.func16, Tryz.ntmps16
  go_wp2_with fail
  refine (hex_any _).mono ?_
  rintro e w1 ⟨rfl, o1, b1⟩
  have D1 : Digits w1 (w.heap.size + 1) := by have := digits_of_hex o1; rwa [World.size_alloc] at this
  have r1 := row_below R0.out b1
  have B1 := A0'.out.trans (b1.mono A0'.out.size)
  have hG1 := HG.out.below B1
  clear o1 b1
  go_wp2_with fail
  refine (HREC.out _ w1 hG1 D1).mono ?_
  rintro e w2 h2
  obtain ⟨a, b, o, n, cap, c, E, Er, rfl, htold, b2, ⟨xs, ho⟩, hfin⟩ := rec_form h2
  have r2 := row_below r1 b2
  have B2 := B1.trans (b2.mono B1.size)
  have hz1 := B1.size
  have hlt := (Array.getElem?_eq_some_iff.1 r1).1
  obtain ⟨w3, hw3⟩ : ∃ w3, (w2.alloc (recO 0 0 0 (.slice none 0 0))).setRow w2.heap.size (recC 0 (a : Nat) (b : Nat) (.slice o n cap)) = w3 := ⟨_, rfl⟩
  have b3 : Below w2.heap.size w2 w3 := by rw [← hw3]; exact below_setRow ((Below.refl _ _).alloc (Nat.le_refl _) _) (Nat.le_refl _) _
  have q3 : w3.heap[w2.heap.size]? = some (recO 0 (a : Nat) (b : Nat) (.slice o n cap)) := by rw [← hw3]; exact setRow_heap _ _ _ _ _ _ (heap_alloc_new _ _)
  have n2 : (w2.alloc (recO 0 0 0 (.slice none 0 0))).heap[w2.heap.size]? = some (recO 0 0 0 (.slice none 0 0)) := heap_alloc_new _ _
  have r3 := row_below r2 b3
  have B3 := B2.trans (b3.mono B2.size)
  have hG3 := HG.out.below B3
  have N2 := Lib.hid n2
  have HW3 := Lib.hid hw3
  have HF := Lib.hid hfin
  have HT := Lib.hid htold
  have R3 := Lib.hid r3
  have BB := Lib.hid B3
  have H23 := Lib.hid b3
  have hlt2 := (Array.getElem?_eq_some_iff.1 r2).1
  have hne : ¬ w2.heap.size = w.heap.size := by omega
  clear n2 hw3 hfin htold r1 r2 r3 B1 B2 B3 b3 hG1 D1 h2
  obtain ⟨V, hV⟩ : ∃ V, errRV Er = V := ⟨_, rfl⟩
  rw [hV]
  have hto := fun W hG => told_any Er W (m := m) hG
  rw [hV] at hto
  go_wp2_with (first | (refine store_rec rfl (.tmp 5) (.tmp 14) rfl w2.heap.size (recC 0 (a : Nat) (b : Nat) (.slice o n cap)) rfl rfl _ N2.out ⟨rfl, rfl⟩ (by simp [Value.oneCell']) HW3.out ?_) | fail)
  refine (hto w3 hG3).mono ?_
  rintro e w4 ⟨rfl, b4⟩
  rw [HT.out]
  have q4 := row_below q3 b4
  have r4 := row_below R3.out b4
  have B4 := BB.out.trans (b4.mono BB.out.size)
  obtain ⟨k0, k1, k2, k3, k4⟩ := rec_cells q4
  have R4 := Lib.hid r4
  have hz3 := b2.size
  have ho4 : w4.ownsRow w1.heap.size 9 1 (.slice o n cap) n xs := own_below ho (H23.out.trans (b4.mono H23.out.size))
  have hlt4 : w.heap.size < w1.heap.size := hlt
  have HP : Hid (LinePost R w (.returned (.tuple #[recV 0 (a : Nat) (b : Nat) (.slice o n cap), .bool c, .int .i64 (E : Nat)])) (w4.setRow w.heap.size (recC 0 (a : Nat) (b : Nat) (.slice o n cap)))) :=
    Lib.hid (HF.out w _ (by omega) (below_setRow B4 (Nat.le_refl _) _) fun ys hy => own_base (own_setRow (own_below hy (H23.out.trans (b4.mono H23.out.size))) hlt4) (by omega))
  clear q4 r4 B4 ho4 q3 b4 b2 ho hto hV
  go_wp2_with (refine wpList_store_row rfl 31 (.tmp 2) (.tmp 22) rfl w.heap.size (recC 0 (a : Nat) (b : Nat) (.slice o n cap)) rfl rfl 31 _ R4.out (by kernel_rfl) rfl (by simp [Value.oneCell']) ?_)
  refine bodyPost_ret (v := .tuple #[recV 0 (a : Nat) (b : Nat) (.slice o n cap), .bool c, .int .i64 (E : Nat)]) ?_ rfl HP.out
  exact results_cell_tmps rfl _ _ w.heap.size 31 (recC 0 (a : Nat) (b : Nat) (.slice o n cap)) (0, 0) _ _ _ rfl rfl rfl (setRow_heap _ _ _ _ _ _ R4.out) Tryz.underlying31 rfl (by kernel_rfl)
theorem line_any (s : ByteArray) (w : World) {m : Int} (hG : FGlob w m) (hs : s.size ≤ 1000000) :
    Calls Tryz.prog 16 #[.string s] w (LinePost (lineL s.data.toList) w) :=
  line_go (lineL s.data.toList) s w hG fun b W hG' hD => record_any b s W hG' hD hs
end Go.Proofs.YtapbedefahbilaaGreatDoor
