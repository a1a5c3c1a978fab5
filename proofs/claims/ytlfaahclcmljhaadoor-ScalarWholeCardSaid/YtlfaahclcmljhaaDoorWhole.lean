/- ScalarWhole: the walk. -/
import Derived.Test.YtlfaahclcmljhaaDoorWhole0
namespace Go.Proofs.YtlfaahclcmljhaaDoor
open Go.RowKit

theorem text_of {s : ByteArray} {xs : List Int} (h1 : bytesL xs = s.data.toList) (h2 : goodL xs = true) : textV xs = .tuple #[.string s, .int .i64 0] := by
  unfold textV
  rw [if_pos h2, h1]
theorem textV_good {xs : List Int} (h : goodL xs = true) : textV xs = .tuple #[.string ⟨(bytesL xs).toArray⟩, .int .i64 0] := by unfold textV; rw [if_pos h]
theorem textV_bad {xs : List Int} (h : goodL xs = false) : textV xs = .tuple #[.string ⟨#[]⟩, .int .i64 10] := by unfold textV; rw [h]; rfl
theorem textV_none {ns : List Nat} (h : ns = []) : textV (toI ns) = .tuple #[.string ⟨#[]⟩, .int .i64 0] := by subst h; rfl
theorem in64_none {ns : List Nat} (h : ns = []) : ∀ r ∈ toI ns, In64 r := by subst h; intro r hr; cases hr
theorem in64_scL {l : List UInt8} (h : validL l = true) : ∀ r ∈ toI (scL l), In64 r := by
  obtain ⟨_, hg, _⟩ := text_scL _ l (Nat.le_refl _) h
  intro r hr
  unfold goodL at hg
  rw [List.all_eq_true] at hg
  have := hg r hr
  rw [decide_eq_true_eq] at this
  have := scalar_lt this
  exact in64_of (by omega)

set_option maxRecDepth 100000 in
set_option maxHeartbeats 2000000 in
theorem whole_yes_yes (s : ByteArray) (l v : Value) (xs : List Int) (hx : ∀ r ∈ xs, In64 r) (hlen : xs.length ≤ 100) (w : World) (hl : IsInts w v xs) (hf : ∀ W, Calls Tryd.prog 19 #[l] W fun e W' => e = .returned v ∧ W = W') (aU aS : Addr) (hG : Glob w aU aS)
    (hs : validL (cutS s).data.toList = true) (hg : goodL xs = true) :
    Calls Tryd.prog 6 #[.string s, l] w fun e w' => e = .returned (.bool true) ∧ Below w.heap.size w w' := by
  have hz : (cutS s).size ≤ 300 := cutS_size s
  have HS := Lib.hid hs
  obtain ⟨t1, t2, t3⟩ := text_scL _ (cutS s).data.toList (Nat.le_refl _) hs
  have hn3 : (toI (scL (cutS s).data.toList)).length ≤ 100000 := by rw [List.length_map]; have : (cutS s).data.toList.length = (cutS s).size := by simp
                                                                    omega
  have HT := Lib.hid (text_of t1 t2)
  have HI := Lib.hid (in64_scL hs)
  clear t1 t2 t3
  obtain ⟨u1, u2⟩ := scL_text xs hg
  have HU := Lib.hid (textV_good hg)
  have hub : (⟨(bytesL xs).toArray⟩ : ByteArray).size ≤ 1000000 := by have := bytesL_length xs; show (bytesL xs).toArray.size ≤ _; simp; omega
  have HV := Lib.hid u1
  have HX := Lib.hid u2
  have hx10 : xs.length ≤ 1000000 := by omega
  clear u1 u2
  clear hs hg
  go_enter Tryd.func6, Tryd.ntmps6
  go_wp2_with fail
  refine (shown_any w aU aS hG).mono ?_
  rintro e w1 ⟨rfl, b1⟩
  have g1 := hG.below b1
  go_wp2_with fail
  refine (cut_any s w1).mono ?_
  rintro e w2 ⟨rfl, rfl⟩
  go_wp2_with fail
  refine (hf w1).mono ?_
  rintro e w2 ⟨rfl, rfl⟩
  go_wp2_with fail
  refine (scalars_f_any (cutS s) (by omega) w1 aU aS g1).mono ?_
  rintro e w2 ⟨va, rfl, oa, c2⟩
  have g2 := g1.below c2
  have b2 := b1.trans (c2.mono b1.size)
  obtain ⟨ia, po, pc, rfl⟩ := ints_own oa
  rw [HS.out]
  simp only [if_true]
  go_wp2_with fail
  refine (text_any _ HI.out hn3 _ w2 ia aU aS g2).mono ?_
  rintro e w3 ⟨rfl, c3⟩
  have g3 := g2.below c3
  have b3 := b2.trans (c3.mono b2.size)
  rw [HT.out]
  go_wp2_with fail
  refine (text_any xs hx (by omega) v w3 (hl.below b3) aU aS g3).mono ?_
  rintro e w4 ⟨rfl, c4⟩
  have g4 := g3.below c4
  have b4 := b3.trans (c4.mono b3.size)
  rw [HU.out]
  go_wp2_with fail
  refine (scalars_f_any ⟨(bytesL xs).toArray⟩ hub w4 aU aS g4).mono ?_
  rintro e w5 ⟨vb, rfl, ob, c5⟩
  have g5 := g4.below c5
  have b5 := b4.trans (c5.mono b4.size)
  obtain ⟨ib, qo, qc, rfl⟩ := ints_own ob
  rw [show validL (⟨(bytesL xs).toArray⟩ : ByteArray).data.toList = true from HV.out]
  simp only [if_true]
  go_wp2_with fail
  refine (valid_any (cutS s) w5 aU aS g5).mono ?_
  rintro e w6 ⟨rfl, c6⟩
  have g6 := g5.below c6
  have b6 := b5.trans (c6.mono b5.size)
  rw [HS.out]
  go_wp2_with fail
  refine (ints_any xs hx10 _ v w6 (by have := ib.below c6; rwa [show toI (scL (⟨(bytesL xs).toArray⟩ : ByteArray).data.toList) = xs from HX.out] at this) (hl.below b6)).mono ?_
  rintro e w7 ⟨rfl, c7⟩
  have g7 := g6.below c7
  have b7 := b6.trans (c7.mono b6.size)
  go_wp2_with fail
  refine (valid_any _ w7 aU aS g7).mono ?_
  rintro e w8 ⟨rfl, c8⟩
  have b8 := b7.trans (c8.mono b7.size)
  rw [show validL (⟨(bytesL xs).toArray⟩ : ByteArray).data.toList = true from HV.out]
  go_wp2
  go_ret
  exact ⟨rfl, b8⟩
set_option maxRecDepth 100000 in
set_option maxHeartbeats 2000000 in
theorem whole_yes_no (s : ByteArray) (l v : Value) (xs : List Int) (hx : ∀ r ∈ xs, In64 r) (hlen : xs.length ≤ 100) (w : World) (hl : IsInts w v xs) (hf : ∀ W, Calls Tryd.prog 19 #[l] W fun e W' => e = .returned v ∧ W = W') (aU aS : Addr) (hG : Glob w aU aS)
    (hs : validL (cutS s).data.toList = true) (hg : goodL xs = false) :
    Calls Tryd.prog 6 #[.string s, l] w fun e w' => e = .returned (.bool true) ∧ Below w.heap.size w w' := by
  have hz : (cutS s).size ≤ 300 := cutS_size s
  have HS := Lib.hid hs
  obtain ⟨t1, t2, t3⟩ := text_scL _ (cutS s).data.toList (Nat.le_refl _) hs
  have hn3 : (toI (scL (cutS s).data.toList)).length ≤ 100000 := by rw [List.length_map]; have : (cutS s).data.toList.length = (cutS s).size := by simp
                                                                    omega
  have HT := Lib.hid (text_of t1 t2)
  have HI := Lib.hid (in64_scL hs)
  clear t1 t2 t3
  have HU := Lib.hid (textV_bad hg)
  have hub : (⟨#[]⟩ : ByteArray).size ≤ 1000000 := Nat.zero_le _
  clear hs hg
  go_enter Tryd.func6, Tryd.ntmps6
  go_wp2_with fail
  refine (shown_any w aU aS hG).mono ?_
  rintro e w1 ⟨rfl, b1⟩
  have g1 := hG.below b1
  go_wp2_with fail
  refine (cut_any s w1).mono ?_
  rintro e w2 ⟨rfl, rfl⟩
  go_wp2_with fail
  refine (hf w1).mono ?_
  rintro e w2 ⟨rfl, rfl⟩
  go_wp2_with fail
  refine (scalars_f_any (cutS s) (by omega) w1 aU aS g1).mono ?_
  rintro e w2 ⟨va, rfl, oa, c2⟩
  have g2 := g1.below c2
  have b2 := b1.trans (c2.mono b1.size)
  obtain ⟨ia, po, pc, rfl⟩ := ints_own oa
  rw [HS.out]
  simp only [if_true]
  go_wp2_with fail
  refine (text_any _ HI.out hn3 _ w2 ia aU aS g2).mono ?_
  rintro e w3 ⟨rfl, c3⟩
  have g3 := g2.below c3
  have b3 := b2.trans (c3.mono b2.size)
  rw [HT.out]
  go_wp2_with fail
  refine (text_any xs hx (by omega) v w3 (hl.below b3) aU aS g3).mono ?_
  rintro e w4 ⟨rfl, c4⟩
  have g4 := g3.below c4
  have b4 := b3.trans (c4.mono b3.size)
  rw [HU.out]
  go_wp2_with fail
  refine (scalars_f_any ⟨#[]⟩ hub w4 aU aS g4).mono ?_
  rintro e w5 ⟨vb, rfl, ob, c5⟩
  have g5 := g4.below c5
  have b5 := b4.trans (c5.mono b4.size)
  obtain ⟨ib, qo, qc, rfl⟩ := ints_own ob
  rw [show validL (⟨#[]⟩ : ByteArray).data.toList = true from validL_nil]
  simp only [if_true]
  go_wp2_with fail
  refine (valid_any (cutS s) w5 aU aS g5).mono ?_
  rintro e w6 ⟨rfl, c6⟩
  have g6 := g5.below c6
  have b6 := b5.trans (c6.mono b5.size)
  rw [HS.out]
  go_wp2
  go_ret
  exact ⟨rfl, b6⟩
set_option maxRecDepth 100000 in
set_option maxHeartbeats 2000000 in
theorem whole_no_yes (s : ByteArray) (l v : Value) (xs : List Int) (hx : ∀ r ∈ xs, In64 r) (hlen : xs.length ≤ 100) (w : World) (hl : IsInts w v xs) (hf : ∀ W, Calls Tryd.prog 19 #[l] W fun e W' => e = .returned v ∧ W = W') (aU aS : Addr) (hG : Glob w aU aS)
    (hs : validL (cutS s).data.toList = false) (hg : goodL xs = true) :
    Calls Tryd.prog 6 #[.string s, l] w fun e w' => e = .returned (.bool true) ∧ Below w.heap.size w w' := by
  have hz : (cutS s).size ≤ 300 := cutS_size s
  have HS := Lib.hid hs
  have hsc := scL_bad hs
  have HT := Lib.hid (textV_none hsc)
  have hn3 : (toI (scL (cutS s).data.toList)).length ≤ 100000 := by rw [hsc]; exact Nat.zero_le _
  have h00 : (scL (cutS s).data.toList).length = 0 := by rw [hsc]; rfl
  have HI := Lib.hid (in64_none hsc)
  clear hsc
  obtain ⟨u1, u2⟩ := scL_text xs hg
  have HU := Lib.hid (textV_good hg)
  have hub : (⟨(bytesL xs).toArray⟩ : ByteArray).size ≤ 1000000 := by have := bytesL_length xs; show (bytesL xs).toArray.size ≤ _; simp; omega
  have HV := Lib.hid u1
  have HX := Lib.hid u2
  have hx10 : xs.length ≤ 1000000 := by omega
  clear u1 u2
  clear hs hg
  go_enter Tryd.func6, Tryd.ntmps6
  go_wp2_with fail
  refine (shown_any w aU aS hG).mono ?_
  rintro e w1 ⟨rfl, b1⟩
  have g1 := hG.below b1
  go_wp2_with fail
  refine (cut_any s w1).mono ?_
  rintro e w2 ⟨rfl, rfl⟩
  go_wp2_with fail
  refine (hf w1).mono ?_
  rintro e w2 ⟨rfl, rfl⟩
  go_wp2_with fail
  refine (scalars_f_any (cutS s) (by omega) w1 aU aS g1).mono ?_
  rintro e w2 ⟨va, rfl, oa, c2⟩
  have g2 := g1.below c2
  have b2 := b1.trans (c2.mono b1.size)
  obtain ⟨ia, po, pc, rfl⟩ := ints_own oa
  rw [h00] at ia ⊢
  clear h00 oa
  rw [HS.out]
  simp only [Bool.false_eq_true, if_false]
  go_wp2_with fail
  refine (text_any _ HI.out hn3 _ w2 ia aU aS g2).mono ?_
  rintro e w3 ⟨rfl, c3⟩
  have g3 := g2.below c3
  have b3 := b2.trans (c3.mono b2.size)
  rw [HT.out]
  go_wp2_with fail
  refine (text_any xs hx (by omega) v w3 (hl.below b3) aU aS g3).mono ?_
  rintro e w4 ⟨rfl, c4⟩
  have g4 := g3.below c4
  have b4 := b3.trans (c4.mono b3.size)
  rw [HU.out]
  go_wp2_with fail
  refine (scalars_f_any ⟨(bytesL xs).toArray⟩ hub w4 aU aS g4).mono ?_
  rintro e w5 ⟨vb, rfl, ob, c5⟩
  have g5 := g4.below c5
  have b5 := b4.trans (c5.mono b4.size)
  obtain ⟨ib, qo, qc, rfl⟩ := ints_own ob
  rw [show validL (⟨(bytesL xs).toArray⟩ : ByteArray).data.toList = true from HV.out]
  simp only [if_true]
  go_wp2_with fail
  refine (valid_any (cutS s) w5 aU aS g5).mono ?_
  rintro e w6 ⟨rfl, c6⟩
  have g6 := g5.below c6
  have b6 := b5.trans (c6.mono b5.size)
  rw [HS.out]
  go_wp2_with fail
  refine (ints_any xs hx10 _ v w6 (by have := ib.below c6; rwa [show toI (scL (⟨(bytesL xs).toArray⟩ : ByteArray).data.toList) = xs from HX.out] at this) (hl.below b6)).mono ?_
  rintro e w7 ⟨rfl, c7⟩
  have g7 := g6.below c7
  have b7 := b6.trans (c7.mono b6.size)
  go_wp2_with fail
  refine (valid_any _ w7 aU aS g7).mono ?_
  rintro e w8 ⟨rfl, c8⟩
  have b8 := b7.trans (c8.mono b7.size)
  rw [show validL (⟨(bytesL xs).toArray⟩ : ByteArray).data.toList = true from HV.out]
  go_wp2
  go_ret
  exact ⟨rfl, b8⟩
set_option maxRecDepth 100000 in
set_option maxHeartbeats 2000000 in
theorem whole_no_no (s : ByteArray) (l v : Value) (xs : List Int) (hx : ∀ r ∈ xs, In64 r) (hlen : xs.length ≤ 100) (w : World) (hl : IsInts w v xs) (hf : ∀ W, Calls Tryd.prog 19 #[l] W fun e W' => e = .returned v ∧ W = W') (aU aS : Addr) (hG : Glob w aU aS)
    (hs : validL (cutS s).data.toList = false) (hg : goodL xs = false) :
    Calls Tryd.prog 6 #[.string s, l] w fun e w' => e = .returned (.bool true) ∧ Below w.heap.size w w' := by
  have hz : (cutS s).size ≤ 300 := cutS_size s
  have HS := Lib.hid hs
  have hsc := scL_bad hs
  have HT := Lib.hid (textV_none hsc)
  have hn3 : (toI (scL (cutS s).data.toList)).length ≤ 100000 := by rw [hsc]; exact Nat.zero_le _
  have h00 : (scL (cutS s).data.toList).length = 0 := by rw [hsc]; rfl
  have HI := Lib.hid (in64_none hsc)
  clear hsc
  have HU := Lib.hid (textV_bad hg)
  have hub : (⟨#[]⟩ : ByteArray).size ≤ 1000000 := Nat.zero_le _
  clear hs hg
  go_enter Tryd.func6, Tryd.ntmps6
  go_wp2_with fail
  refine (shown_any w aU aS hG).mono ?_
  rintro e w1 ⟨rfl, b1⟩
  have g1 := hG.below b1
  go_wp2_with fail
  refine (cut_any s w1).mono ?_
  rintro e w2 ⟨rfl, rfl⟩
  go_wp2_with fail
  refine (hf w1).mono ?_
  rintro e w2 ⟨rfl, rfl⟩
  go_wp2_with fail
  refine (scalars_f_any (cutS s) (by omega) w1 aU aS g1).mono ?_
  rintro e w2 ⟨va, rfl, oa, c2⟩
  have g2 := g1.below c2
  have b2 := b1.trans (c2.mono b1.size)
  obtain ⟨ia, po, pc, rfl⟩ := ints_own oa
  rw [h00] at ia ⊢
  clear h00 oa
  rw [HS.out]
  simp only [Bool.false_eq_true, if_false]
  go_wp2_with fail
  refine (text_any _ HI.out hn3 _ w2 ia aU aS g2).mono ?_
  rintro e w3 ⟨rfl, c3⟩
  have g3 := g2.below c3
  have b3 := b2.trans (c3.mono b2.size)
  rw [HT.out]
  go_wp2_with fail
  refine (text_any xs hx (by omega) v w3 (hl.below b3) aU aS g3).mono ?_
  rintro e w4 ⟨rfl, c4⟩
  have g4 := g3.below c4
  have b4 := b3.trans (c4.mono b3.size)
  rw [HU.out]
  go_wp2_with fail
  refine (scalars_f_any ⟨#[]⟩ hub w4 aU aS g4).mono ?_
  rintro e w5 ⟨vb, rfl, ob, c5⟩
  have g5 := g4.below c5
  have b5 := b4.trans (c5.mono b4.size)
  obtain ⟨ib, qo, qc, rfl⟩ := ints_own ob
  rw [show validL (⟨#[]⟩ : ByteArray).data.toList = true from validL_nil]
  simp only [if_true]
  go_wp2_with fail
  refine (valid_any (cutS s) w5 aU aS g5).mono ?_
  rintro e w6 ⟨rfl, c6⟩
  have g6 := g5.below c6
  have b6 := b5.trans (c6.mono b5.size)
  rw [HS.out]
  go_wp2
  go_ret
  exact ⟨rfl, b6⟩
theorem whole_any (s : ByteArray) (l v : Value) (xs : List Int) (hx : ∀ r ∈ xs, In64 r) (hlen : xs.length ≤ 100) (w : World) (hl : IsInts w v xs) (hf : ∀ W, Calls Tryd.prog 19 #[l] W fun e W' => e = .returned v ∧ W = W') (aU aS : Addr) (hG : Glob w aU aS) :
    Calls Tryd.prog 6 #[.string s, l] w fun e w' => e = .returned (.bool true) ∧ Below w.heap.size w w' := by
  cases hs : validL (cutS s).data.toList with
  | true =>
    cases hg : goodL xs with
    | true => exact whole_yes_yes s l v xs hx hlen w hl hf aU aS hG hs hg
    | false => exact whole_yes_no s l v xs hx hlen w hl hf aU aS hG hs hg
  | false =>
    cases hg : goodL xs with
    | true => exact whole_no_yes s l v xs hx hlen w hl hf aU aS hG hs hg
    | false => exact whole_no_no s l v xs hx hlen w hl hf aU aS hG hs hg
end Go.Proofs.YtlfaahclcmljhaaDoor
