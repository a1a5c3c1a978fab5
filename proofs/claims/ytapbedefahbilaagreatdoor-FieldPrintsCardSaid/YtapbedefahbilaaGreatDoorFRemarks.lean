/- FieldRemarks: what stands behind a first # in a line counts for nothing, nor do blanks at its ends. -/
import Derived.Test.YtapbedefahbilaaGreatDoorFCase
namespace Go.Proofs.YtapbedefahbilaaGreatDoor
open Go.RowKit Go.Shelf Go.Maps

/-- A line's record, whether it counts, what is wrong. -/
def lineX : LineR → RecX × Bool × Nat
  | .nothing => ((0, 0, 0, []), false, 0)
  | .bad n => ((0, 0, 0, []), false, n)
  | .good a b fs => ((0, (a : Nat), (b : Nat), fs.map bytes1), true, 0)
theorem line_form {R : LineR} {w : World} {e : Ending} {w' : World} (h : LinePost R w e w') : ∃ o cap, e = .returned (.tuple #[recV 0 (lineX R).1.2.1 (lineX R).1.2.2.1 (.slice o (lineX R).1.2.2.2.length cap), .bool (lineX R).2.1, .int .i64 ((lineX R).2.2 : Nat)]) ∧ FieldsG w' o (lineX R).1.2.2.2 ∧ Below w.heap.size w w' := by
  cases R with
  | nothing =>
    obtain ⟨rfl, hb⟩ := h
    exact ⟨none, 0, rfl, fun h => absurd h (Nat.not_lt_zero _), hb⟩
  | bad n =>
    obtain ⟨rfl, hb⟩ := h
    exact ⟨none, 0, rfl, fun h => absurd h (Nat.not_lt_zero _), hb⟩
  | good a b fs =>
    obtain ⟨v, rfl, ho, hb⟩ := h
    obtain ⟨o, cap, rfl, hF⟩ := fields_own ho
    exact ⟨o, cap, rfl, hF, hb⟩
theorem lineX_in (l : List UInt8) : (lineX (lineL l)).1.2.2.2.length ≤ 1000000 ∧ (lineX (lineL l)).1.1 = 0 := by
  cases h : lineL l with
  | nothing => exact ⟨Nat.zero_le _, rfl⟩
  | bad n => exact ⟨Nat.zero_le _, rfl⟩
  | good a b fs =>
    have g := good_of h
    refine ⟨?_, rfl⟩
    show (fs.map bytes1).length ≤ _
    rw [List.length_map]
    have := g.many
    omega
theorem remark_bytes (S T : ByteArray) : ((⟨#[32]⟩ : ByteArray) ++ S ++ (⟨#[9, 35]⟩ : ByteArray) ++ T).data.toList = 32 :: S.data.toList ++ 9 :: 35 :: T.data.toList := by simp
theorem rec_form2 (w : World) (c : Array Value) (hc : c.size = 4) : (w.alloc (.cells c 31)).ownsRow w.heap.size 31 4 (.slice (some ⟨w.heap.size, 0, none⟩) 1 1) 1 c.toList :=
  World.ownsRow_lit (base := w.heap.size) (e := 31) (size := 4) w c 1 (Nat.le_refl _) (by unfold maxLen; omega) hc
set_option maxRecDepth 100000 in
set_option maxHeartbeats 2000000 in
theorem remarks_any (s t : ByteArray) (w : World) {m : Int} (hG : FGlob w m) :
    Calls Tryz.prog 7 #[.string s, .string t] w fun e w' => e = .returned (.bool true) ∧ Below w.heap.size w w' := by
  have hS := cut_min s 300
  have hT := cut_min t 300
  obtain ⟨S, hE⟩ : ∃ S, s.extract 0 (min (s.size : Int) ((300 : Nat) : Int)).toNat = S := ⟨_, rfl⟩
  obtain ⟨T, hF⟩ : ∃ T, t.extract 0 (min (t.size : Int) ((300 : Nat) : Int)).toNat = T := ⟨_, rfl⟩
  rw [hE] at hS
  rw [hF] at hT
  have hQd := remark_bytes S T
  have hz : ((⟨#[32]⟩ : ByteArray) ++ S ++ (⟨#[9, 35]⟩ : ByteArray) ++ T).size ≤ 1000000 := by
    rw [ByteArray.size_append, ByteArray.size_append, ByteArray.size_append]
    have : (⟨#[32]⟩ : ByteArray).size = 1 := rfl
    have : (⟨#[9, 35]⟩ : ByteArray).size = 2 := rfl
    omega
  obtain ⟨hlen, h0⟩ := lineX_in S.data.toList
  obtain ⟨X, hX⟩ : ∃ X, lineX (lineL S.data.toList) = X := ⟨_, rfl⟩
  have hA : ∀ W, FGlob W m → Calls Tryz.prog 16 #[.string S] W fun e w' => ∃ o cap, e = .returned (.tuple #[recV 0 X.1.2.1 X.1.2.2.1 (.slice o X.1.2.2.2.length cap), .bool X.2.1, .int .i64 (X.2.2 : Nat)]) ∧ FieldsG w' o X.1.2.2.2 ∧ Below W.heap.size W w' := by
    intro W h
    rw [← hX]
    exact (line_any S W h (by omega)).mono fun e w' h => line_form h
  have hB : ∀ W, FGlob W m → Calls Tryz.prog 16 #[.string (⟨#[32]⟩ ++ S ++ ⟨#[9, 35]⟩ ++ T)] W fun e w' => ∃ o cap, e = .returned (.tuple #[recV 0 X.1.2.1 X.1.2.2.1 (.slice o X.1.2.2.2.length cap), .bool X.2.1, .int .i64 (X.2.2 : Nat)]) ∧ FieldsG w' o X.1.2.2.2 ∧ Below W.heap.size W w' := by
    obtain ⟨Q, hQ⟩ : ∃ Q, (⟨#[32]⟩ : ByteArray) ++ S ++ (⟨#[9, 35]⟩ : ByteArray) ++ T = Q := ⟨_, rfl⟩
    rw [hQ] at hz hQd ⊢
    intro W h
    have := line_any Q W h hz
    rw [hQd, lineL_remark] at this
    rw [← hX]
    exact this.mono fun e w' h => line_form h
  rw [hX] at hlen h0
  clear hX hQd hz
  obtain ⟨⟨l, a, b, fs⟩, c, E⟩ := X
  simp only at hA hB hlen h0
  subst h0
  have HA := Lib.hid hA
  have HB := Lib.hid hB
  have HE : Hid (s.extract 0 (min (s.size : Int) 300).toNat = S) := Lib.hid hE
  have HF : Hid (t.extract 0 (min (t.size : Int) 300).toNat = T) := Lib.hid hF
  clear hE hF hA hB
  go_enter Tryz.func7, Tryz.ntmps7
  go_wp2_with fail
  refine (shown_any w hG).mono ?_
  rintro e w1 ⟨rfl, b1⟩
  have hG1 := hG.below b1
  go_wp2_with fail
  rw [HE.out, HF.out]
  refine (HA.out w1 hG1).mono ?_
  rintro e w2 ⟨o, cap, rfl, hF1, b2⟩
  have hG2 := hG1.below b2
  obtain ⟨n, hn⟩ : ∃ n, fs.length = n := ⟨_, rfl⟩
  have HN := Lib.hid hn
  rw [hn]
  have n2 : (w2.alloc (recO 0 0 0 (.slice none 0 0))).heap[w2.heap.size]? = some (recO 0 0 0 (.slice none 0 0)) := heap_alloc_new _ _
  obtain ⟨w3, hw3⟩ : ∃ w3, (w2.alloc (recO 0 0 0 (.slice none 0 0))).setRow w2.heap.size (recC 0 a b (.slice o n cap)) = w3 := ⟨_, rfl⟩
  have b3 : Below w2.heap.size w2 w3 := by rw [← hw3]; exact below_setRow ((Below.refl _ _).alloc (Nat.le_refl _) _) (Nat.le_refl _) _
  have q3 : w3.heap[w2.heap.size]? = some (recO 0 a b (.slice o n cap)) := by rw [← hw3]; exact setRow_heap _ _ _ _ _ _ (heap_alloc_new _ _)
  have B2 := b1.trans (b2.mono b1.size)
  have B3 := Lib.hid (B2.trans (b3.mono B2.size))
  have HF3 := Lib.hid (hF1.below b3)
  have hG3 := hG2.below b3
  have N2 := Lib.hid n2
  have HW3 := Lib.hid hw3
  have Q3 := Lib.hid q3
  clear n2 hw3 q3 b3 hF1 b2 B2 hn
  go_wp2_with (first | (refine store_rec rfl (.tmp 6) (.tmp 26) rfl w2.heap.size (recC 0 a b (.slice o n cap)) rfl rfl _ N2.out ⟨rfl, rfl⟩ (by simp [Value.oneCell']) HW3.out ?_) | fail)
  refine (HB.out w3 hG3).mono ?_
  rintro e w4 ⟨o', cap', rfl, hF4, b4⟩
  have hG4 := hG3.below b4
  rw [HN.out]
  have n4 : (w4.alloc (recO 0 0 0 (.slice none 0 0))).heap[w4.heap.size]? = some (recO 0 0 0 (.slice none 0 0)) := heap_alloc_new _ _
  obtain ⟨w5, hw5⟩ : ∃ w5, (w4.alloc (recO 0 0 0 (.slice none 0 0))).setRow w4.heap.size (recC 0 a b (.slice o' n cap')) = w5 := ⟨_, rfl⟩
  have b5 : Below w4.heap.size w4 w5 := by rw [← hw5]; exact below_setRow ((Below.refl _ _).alloc (Nat.le_refl _) _) (Nat.le_refl _) _
  have q5 : w5.heap[w4.heap.size]? = some (recO 0 a b (.slice o' n cap')) := by rw [← hw5]; exact setRow_heap _ _ _ _ _ _ (heap_alloc_new _ _)
  have c5 := b4.trans (b5.mono b4.size)
  have B5 := Lib.hid (B3.out.trans (c5.mono B3.out.size))
  have q5' := row_below Q3.out c5
  have HF5 := Lib.hid (HF3.out.below c5)
  have HF5' := Lib.hid (hF4.below b5)
  have N4 := Lib.hid n4
  have HW5 := Lib.hid hw5
  obtain ⟨k0, k1, k2, k3, k4⟩ := rec_cells q5'
  obtain ⟨j0, j1, j2, j3, j4⟩ := rec_cells q5
  have lt1 := (Array.getElem?_eq_some_iff.1 q5').1
  have lt2 := (Array.getElem?_eq_some_iff.1 q5).1
  clear n4 hw5 q5 q5' b5 c5 hF4 b4
  go_wp2_with (first | (refine store_rec rfl (.tmp 9) (.tmp 36) rfl w4.heap.size (recC 0 a b (.slice o' n cap')) rfl rfl _ N4.out ⟨rfl, rfl⟩ (by simp [Value.oneCell']) HW5.out ?_) | fail)
  obtain ⟨Y, hY⟩ : ∃ Y, w5.alloc (.cells (recC 0 a b (.slice o n cap)) 31) = Y := ⟨_, rfl⟩
  have aY : Below w5.heap.size w5 Y := by rw [← hY]; exact (Below.refl _ _).alloc (Nat.le_refl _) _
  have sY : Y.heap.size = w5.heap.size + 1 := by rw [← hY]; simp
  have oY : Y.ownsRow w5.heap.size 31 4 (.slice (some ⟨w5.heap.size, 0, none⟩) 1 1) 1 (recC 0 a b (.slice o n cap)).toList := by rw [← hY]; exact rec_form2 w5 _ rfl
  have oZ := rec_form2 Y (recC 0 a b (.slice o' n cap')) rfl
  have aZ : Below Y.heap.size Y (Y.alloc (.cells (recC 0 a b (.slice o' n cap')) 31)) := (Below.refl _ _).alloc (Nat.le_refl _) _
  have aYZ := aY.trans (aZ.mono aY.size)
  have f1 := HF5.out.below aYZ
  have f2 := HF5'.out.below aYZ
  have g1 : RecsG (Y.alloc (.cells (recC 0 a b (.slice o' n cap')) 31)) [(0, a, b, fs)] (recC 0 a b (.slice o n cap)).toList := ⟨o, cap, [], by rw [HN.out], f1, rfl⟩
  have g2 : RecsG (Y.alloc (.cells (recC 0 a b (.slice o' n cap')) 31)) [(0, a, b, fs)] (recC 0 a b (.slice o' n cap')).toList := ⟨o', cap', [], by rw [HN.out], f2, rfl⟩
  have hsame := same_f_any [(0, a, b, fs)] [(0, a, b, fs)] (by intro x hx; rw [List.mem_singleton.1 hx]; exact hlen) (by intro x hx; rw [List.mem_singleton.1 hx]; exact hlen) _ _ _ _ 1 1 _ _ _ (own_below oY aZ) oZ
    g1 g2 (by simp)
  rw [decide_eq_true rfl] at hsame
  have HSM : Hid (Calls Tryz.prog 25 #[.slice (some ⟨w5.heap.size, 0, none⟩) 1 1, .slice (some ⟨w5.heap.size + 1, 0, none⟩) 1 1] (Y.alloc (.cells (recC 0 a b (.slice o' n cap')) 31)) fun e w' => e = .returned (.bool true) ∧ Below w5.heap.size w5 w') := by
    rw [← sY]
    exact Lib.hid (hsame.mono fun e w' h => ⟨h.1, aYZ.trans (h.2.mono aYZ.size)⟩)
  rw [← hY] at HSM
  refine HSM.out.mono ?_
  rintro e w6 ⟨rfl, b6⟩
  have B6 := B5.out.trans (b6.mono B5.out.size)
  clear hY aY sY oY oZ aZ aYZ f1 f2 g1 g2 hsame k0 k1 k2 k3 k4 j0 j1 j2 j3 j4 b6
  go_wp2
  go_ret
  exact ⟨rfl, B6⟩
end Go.Proofs.YtapbedefahbilaaGreatDoor
