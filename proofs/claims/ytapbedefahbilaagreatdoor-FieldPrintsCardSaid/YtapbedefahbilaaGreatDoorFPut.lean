/- putCode: a number's code behind what there is. -/
import Derived.Test.YtapbedefahbilaaGreatDoorFFmt
import Derived.Test.YtapbedefahbilaaGreatDoorFParse
namespace Go.Proofs.YtapbedefahbilaaGreatDoor
open Go.RowKit Go.Shelf
attribute [local go_sem ↓] app_hide

/-- No block has turned but rows of bytes. -/
def KeepB (w w' : World) : Prop := Moves (fun k => ∃ c fr, w.heap[k]? = some (.cells c 5 fr)) w w'
theorem KeepB.trans {a b c : World} (h : KeepB a b) (k : KeepB b c) : KeepB a c := by
  refine ⟨k.os.trans h.os, k.tape.trans h.tape, k.output.trans h.output, Nat.le_trans h.size k.size, fun j hj hn => ?_⟩
  have h1 := h.block j hj hn
  refine (k.block j (Nat.lt_of_lt_of_le hj h.size) fun hx => hn ?_).trans h1
  obtain ⟨c, fr, hx⟩ := hx
  exact ⟨c, fr, h1.symm.trans hx⟩
theorem KeepB.below {w w' : World} (h : Below w.heap.size w w') : KeepB w w' := Moves.of_below h
theorem KeepB.grown {w w' : World} {base n : Nat} {v : Value} {xs : List Value} (ho : w.ownsRow base 5 1 v n xs) (h : w.grownBy w' v.ownBlock) : KeepB w w' :=
  ⟨h.os, h.tape, h.output, h.size, fun j hj hn => h.block j hj fun e => hn (own_block_lt ho e.symm).2.2⟩
theorem KeepB.row {w w' : World} {k : Nat} {c : Array Value} {t : TypeId} {fr : Nat × Nat} (h : KeepB w w') (hr : w.heap[k]? = some (.cells c t fr)) (ht : t ≠ 5) : w'.heap[k]? = some (.cells c t fr) :=
  row_keep hr h (by rintro ⟨c', fr', hx⟩; rw [hr] at hx; cases hx; exact ht rfl)
theorem byte_own {W : World} {base k : Nat} {v : Value} {xs : List Value} (c : UInt8) (ho : W.ownsRow base 5 1 v k xs) (hk : k ≤ 1000000000) (hbase : base ≤ W.heap.size) :
    ∃ o cap w6, (appSem #[44, 44] 44 #[v, .slice (some ⟨W.heap.size, 0, none⟩) 1 1]).run Tryz.prog (W.alloc (.cells #[.int .u8 (c.toNat : Nat)] 5)) = .ok (.slice o (k + 1) cap) w6 ∧
      w6.ownsRow base 5 1 (.slice o (k + 1) cap) (k + 1) (xs ++ byteCells [c]) ∧ Below base W w6 ∧ KeepB W w6 := by
  obtain ⟨i0, hi, hz0, hz1, hz2⟩ := info_parts infoByte
  have hb : Below W.heap.size W (W.alloc (.cells #[.int .u8 (c.toNat : Nat)] 5)) := (Below.refl _ _).alloc (Nat.le_refl _) _
  obtain ⟨v', w6, hr, h2, h3, h4⟩ := run_append_own (P := Tryz.prog) _ base 44 44 5 i0 (.int .u8 0) 1 1 Tryz.underlying44 hi hz0 hz1 hz2 rfl (by decide) v k xs (own_below ho hb) ⟨W.heap.size, 0, none⟩ 1 1 [.int .u8 (c.toNat : Nat)] rfl
    (cell_one_new _ _ _) (by simp [Value.oneCell']) (by unfold maxLen; omega) (by omega) (by simp; omega)
  obtain ⟨o, cap, rfl⟩ := own_form h2
  exact ⟨o, cap, w6, hr, h2, Below.grown (hb.mono hbase) h3 (by have := hb.size; omega) (fun g hg => own_ge ho hg), (KeepB.below hb).trans (KeepB.grown (own_below ho hb) h3)⟩
theorem text_own {W : World} {base k : Nat} {v : Value} {xs : List Value} (s : ByteArray) (ho : W.ownsRow base 5 1 v k xs) (hk : k + s.size ≤ 1000000000) (hbase : base ≤ W.heap.size) :
    ∃ o cap w6, (appSem #[44, 9] 44 #[v, .string s]).run Tryz.prog W = .ok (.slice o (k + s.size) cap) w6 ∧
      w6.ownsRow base 5 1 (.slice o (k + s.size) cap) (k + s.size) (xs ++ byteCells s.data.toList) ∧ Below base W w6 ∧ KeepB W w6 := by
  obtain ⟨i0, hi, hz0, hz1, hz2⟩ := info_parts infoByte
  obtain ⟨v', w6, hr, h2, h3, h4⟩ := Lib.run_append_own_string (P := Tryz.prog) W base 44 9 44 5 i0 Tryz.underlying44 Tryz.underlying9 hi hz0 hz1 hz2 v k xs ho s (by unfold maxLen; omega) (by omega) hbase
  obtain ⟨o, cap, rfl⟩ := own_form h2
  exact ⟨o, cap, w6, hr, h2, Below.grown (Below.refl _ _) h3 hbase (fun g hg => own_ge ho hg), KeepB.grown ho h3⟩

/-- The digits of a number not below 0, four at least. -/
def padL (l : List UInt8) : List UInt8 := List.replicate (4 - l.length) 48 ++ l
def upL (m : Nat) : List UInt8 := Lib.toUpperA (digitsL m)
def magN (n : Int) : Nat := if n = -9223372036854775808 then 0 else n.natAbs
def putL (n : Int) : List UInt8 := (if n < 0 then [45] else []) ++ padL (upL (magN n))
theorem digits_len : ∀ (s m : Nat), m < 16 ^ s → 1 ≤ (digitsL m).length ∧ (digitsL m).length ≤ max 1 s
  | 0, m, h => by
    have : m = 0 := by simpa using h
    rw [digitsL_small (by omega)]
    simp
  | s + 1, m, h => by
    rcases Nat.lt_or_ge m 16 with h1 | h1
    · rw [digitsL_small h1]; simp
    · rw [digitsL_big h1, List.length_append, List.length_singleton]
      have h2 : m / 16 < 16 ^ s := by rw [Nat.pow_succ] at h; omega
      have hs : 1 ≤ s := by
        cases s with
        | zero => simp at h; omega
        | succ s => omega
      have := digits_len s (m / 16) h2
      omega
theorem up_len {m : Nat} (h : m < 9223372036854775808) : 1 ≤ (upL m).length ∧ (upL m).length ≤ 16 := by
  unfold upL Lib.toUpperA
  rw [List.length_map]
  have h1 : (9223372036854775808 : Nat) ≤ 16 ^ 16 := by decide
  have := digits_len 16 m (by omega)
  omega
theorem digB_ascii {d : Nat} (h : d < 16) : (digB d).toNat < 128 := by
  have : ∀ q : Fin 16, (digB q.val).toNat < 128 := by decide
  exact this ⟨d, h⟩
theorem digits_ascii : ∀ (s m : Nat), m ≤ s → ∀ b ∈ digitsL m, b.toNat < 128
  | 0, m, h, b, hb => by
    rw [digitsL_small (by omega)] at hb
    rw [List.mem_singleton.1 hb]
    exact digB_ascii (by omega)
  | s + 1, m, h, b, hb => by
    rcases Nat.lt_or_ge m 16 with h1 | h1
    · rw [digitsL_small h1] at hb
      rw [List.mem_singleton.1 hb]
      exact digB_ascii h1
    · rw [digitsL_big h1] at hb
      rcases List.mem_append.1 hb with hb | hb
      · exact digits_ascii s (m / 16) (by omega) b hb
      · rw [List.mem_singleton.1 hb]
        exact digB_ascii (by omega)
theorem upper_any (m : Nat) (h : m < 9223372036854775808) (w : World) : Calls Tryz.prog 68 #[strV (digitsL m)] w fun e w' => e = .returned (strV (upL m)) ∧ Below w.heap.size w w' := by
  have hl := digits_len 16 m (by have h1 : (9223372036854775808 : Nat) ≤ 16 ^ 16 := by decide
                                 omega)
  exact Tryz.strings_ToUpper_ascii ⟨(digitsL m).toArray⟩ w (by show (digitsL m).toArray.size ≤ _; rw [List.size_toArray]; omega) (fun j b hj => digits_ascii m m (Nat.le_refl _) b (List.mem_of_getElem? hj))
theorem unsigned_any (n : Int) (h : n < 0) (h2 : -9223372036854775808 ≤ n) (w : World) : Calls Tryz.prog 67 #[.int .i64 n] w fun e w' => e = .returned (.int .i64 (magN n : Nat)) ∧ w = w' := by
  by_cases hm : n = -9223372036854775808
  · subst hm
    go_enter Tryz.func67, Tryz.ntmps67
    go_wp2
    go_ret
    exact ⟨rfl, rfl⟩
  · have hb : (n == -9223372036854775808) = false := by simp [hm]
    have hw : IntKind.i64.wrap (-n) = -n := by rw [IntKind.wrap_i64]; omega
    have hv : ((magN n : Nat) : Int) = -n := by unfold magN; rw [if_neg hm]; omega
    have HV := Lib.hid hv
    clear hv
    go_enter Tryz.func67, Tryz.ntmps67
    go_wp2
    go_ret
    exact ⟨by rw [HV.out]; rfl, rfl⟩

/-- A function that lays a text behind what there is. -/
def Puts (K : Nat) (f : Nat) (args : Array Value) (l : List UInt8) (w : World) : Prop :=
  ∀ (W : World) (base k : Nat) (v : Value) (xs : List Value), Below w.heap.size w W → W.ownsRow base 5 1 v k xs → base ≤ W.heap.size → w.heap.size ≤ base → k ≤ K →
    Calls Tryz.prog f (#[v] ++ args) W fun e W' => ∃ v', e = .returned v' ∧ W'.ownsRow base 5 1 v' (k + l.length) (xs ++ byteCells l) ∧ Below base W W' ∧ KeepB W W'
theorem pad_loop_cells (j : Nat) : byteCells (List.replicate j 48) ++ byteCells [48] = byteCells (List.replicate (j + 1) 48) := by
  unfold byteCells
  rw [← List.map_append, List.replicate_succ']
set_option maxRecDepth 100000 in
set_option maxHeartbeats 2000000 in
theorem putCode_pos (n : Nat) (hn : n < 9223372036854775808) (w : World) {m : Int} (hG : FGlob w m) : Puts 100000000 53 #[.int .i64 (n : Nat)] (padL (upL n)) w := by
  intro W base k v xs hB ho hbase hwb hk
  have hl := up_len hn
  have hneg : decide (((n : Nat) : Int) < 0) = false := decide_eq_false (by omega)
  have HGW := Lib.hid (hG.below hB)
  have HO := Lib.hid ho
  obtain ⟨o, cap, rfl⟩ := own_form ho
  clear hG ho hB
  go_enter Tryz.func53, Tryz.ntmps53
  go_wp2_with fail
  refine (formatInt_any n hn W HGW.out).mono ?_
  rintro e w1 ⟨rfl, b1⟩
  go_wp2_with fail
  refine (upper_any n hn w1).mono ?_
  rintro e w2 ⟨rfl, b2⟩
  have BW := b1.trans (b2.mono b1.size)
  have ho2 := own_below HO.out BW
  have hz2 := BW.size
  obtain ⟨U, hU⟩ : ∃ U : ByteArray, (⟨(upL n).toArray⟩ : ByteArray) = U := ⟨_, rfl⟩
  have hUs : U.size = (upL n).length := by rw [← hU]; show (upL n).toArray.size = _; simp
  have hUl : U.data.toList = upL n := by rw [← hU]
  have hsv : strV (upL n) = .string U := by rw [← hU]
  rw [hsv]
  rw [← hUs] at hl
  have HU := Lib.hid hUl
  have HUS := Lib.hid hUs
  have B2 : Hid (Below base W w2 ∧ KeepB W w2) := Lib.hid ⟨BW.mono hbase, KeepB.below BW⟩
  clear hU hUs hUl hsv b1 b2 BW
  go_wp2_with fail
  go_loopg [0, 19] (4 - U.size) (fun c v0 v19 wr => ∃ j : Nat, v19 = .int .i64 (j : Nat) ∧ j ≤ 4 - U.size ∧ c = 4 - U.size - j ∧ wr.ownsRow base 5 1 v0 (k + j) (xs ++ byteCells (List.replicate j 48)) ∧ Hid (Below base W wr ∧ KeepB W wr))
  case atStart => exact ⟨0, rfl, Nat.zero_le _, rfl, by simpa [byteCells] using ho2, B2⟩
  case round =>
    obtain ⟨j, rfl, hj, rfl, hor, hbr⟩ := hrel
    have hzr := hbr.out.1.size
    rcases Nat.lt_or_ge j (4 - U.size) with hlt | hge
    · have hd : decide (((j : Nat) : Int) < 4 - (U.size : Nat)) = true := decide_eq_true (by omega)
      obtain ⟨o', cap', w6, hrun, hown', hb6⟩ := byte_own 48 hor (by omega) (by omega)
      rw [show (((48 : UInt8).toNat : Nat) : Int) = 48 from rfl] at hrun
      have HOWN := Lib.hid hown'
      have HB6 := Lib.hid hb6
      obtain ⟨o, cap, rfl⟩ := own_form hor
      clear hown' hb6 hor
      go_wp2
      go_roundg (4 - U.size - (j + 1))
      case measure => omega
      case rel =>
        refine ⟨j + 1, by simp, by omega, rfl, ?_, Lib.hid ⟨hbr.out.1.trans HB6.out.1, hbr.out.2.trans HB6.out.2⟩⟩
        have := HOWN.out
        rw [List.append_assoc, pad_loop_cells] at this
        exact this
    · have hd : decide (((j : Nat) : Int) < 4 - (U.size : Nat)) = false := decide_eq_false (by omega)
      obtain rfl : j = 4 - U.size := by omega
      obtain ⟨o', cap', w6, hrun, hown', hb6⟩ := text_own U hor (by omega) (by omega)
      have HOWN := Lib.hid hown'
      have HB6 := Lib.hid hb6
      obtain ⟨o, cap, rfl⟩ := own_form hor
      clear hown' hb6 hor
      go_wp2
      go_ret
      refine ⟨_, rfl, ?_, hbr.out.1.trans HB6.out.1, hbr.out.2.trans HB6.out.2⟩
      have h := HOWN.out
      have e1 : (padL (upL n)).length = 4 - U.size + U.size := by unfold padL; rw [HUS.out]; simp
      have e2 : byteCells (padL (upL n)) = byteCells (List.replicate (4 - U.size) 48) ++ byteCells U.data.toList := by unfold padL byteCells; rw [HU.out, HUS.out, List.map_append]
      rw [e1, e2, ← Nat.add_assoc, ← List.append_assoc]
      exact h
set_option maxRecDepth 100000 in
set_option maxHeartbeats 2000000 in
theorem putCode_neg (z : Int) (hz0 : z < 0) (hz1 : -9223372036854775808 ≤ z) (w : World) {m : Int} (hG : FGlob w m) : Puts 100000000 53 #[.int .i64 z] (45 :: padL (upL (magN z))) w := by
  intro W base k0 v xs0 hB ho hbase hwb hk0
  obtain ⟨n, hn0⟩ : ∃ n, magN z = n := ⟨_, rfl⟩
  have hn : n < 9223372036854775808 := by rw [← hn0]; unfold magN; split <;> omega
  have huns := unsigned_any z hz0 hz1
  rw [hn0] at huns ⊢
  have HUNS := Lib.hid huns
  have hl := up_len hn
  have hneg : decide (z < 0) = true := decide_eq_true hz0
  obtain ⟨o1, cap1, wA, hrunA, howA, hbA⟩ := byte_own 45 ho (by omega) hbase
  rw [show (((45 : UInt8).toNat : Nat) : Int) = 45 from rfl] at hrunA
  obtain ⟨k, hk⟩ : ∃ k, k0 + 1 = k := ⟨_, rfl⟩
  obtain ⟨xs, hxs⟩ : ∃ xs, xs0 ++ byteCells [45] = xs := ⟨_, rfl⟩
  rw [hk] at hrunA howA
  rw [hxs] at howA
  have HBA := Lib.hid hbA
  have hzA := hbA.1.size
  have HGA := Lib.hid (hG.below (hB.trans (hbA.1.mono hwb)))
  have HO := Lib.hid howA
  obtain ⟨o, cap, rfl⟩ := own_form ho
  clear hG ho hB howA hbA huns hn0
  go_enter Tryz.func53, Tryz.ntmps53
  go_wp2_with fail
  refine (HUNS.out wA).mono ?_
  rintro e wB ⟨rfl, rfl⟩
  go_wp2_with fail
  refine (formatInt_any n hn wA HGA.out).mono ?_
  rintro e w1 ⟨rfl, b1⟩
  go_wp2_with fail
  refine (upper_any n hn w1).mono ?_
  rintro e w2 ⟨rfl, b2⟩
  have BW := b1.trans (b2.mono b1.size)
  have ho2 := own_below HO.out BW
  have hz2 : W.heap.size ≤ w2.heap.size := by have := BW.size; omega
  obtain ⟨U, hU⟩ : ∃ U : ByteArray, (⟨(upL n).toArray⟩ : ByteArray) = U := ⟨_, rfl⟩
  have hUs : U.size = (upL n).length := by rw [← hU]; show (upL n).toArray.size = _; simp
  have hUl : U.data.toList = upL n := by rw [← hU]
  have hsv : strV (upL n) = .string U := by rw [← hU]
  rw [hsv]
  rw [← hUs] at hl
  have HU := Lib.hid hUl
  have HUS := Lib.hid hUs
  have B2 : Hid (Below base W w2 ∧ KeepB W w2) := Lib.hid ⟨HBA.out.1.trans (BW.mono (by omega)), HBA.out.2.trans (KeepB.below BW)⟩
  clear hU hUs hUl hsv b1 b2 BW
  go_wp2_with fail
  go_loopg [0, 19] (4 - U.size) (fun c v0 v19 wr => ∃ j : Nat, v19 = .int .i64 (j : Nat) ∧ j ≤ 4 - U.size ∧ c = 4 - U.size - j ∧ wr.ownsRow base 5 1 v0 (k + j) (xs ++ byteCells (List.replicate j 48)) ∧ Hid (Below base W wr ∧ KeepB W wr))
  case atStart => exact ⟨0, rfl, Nat.zero_le _, rfl, by simpa [byteCells] using ho2, B2⟩
  case round =>
    obtain ⟨j, rfl, hj, rfl, hor, hbr⟩ := hrel
    have hzr := hbr.out.1.size
    rcases Nat.lt_or_ge j (4 - U.size) with hlt | hge
    · have hd : decide (((j : Nat) : Int) < 4 - (U.size : Nat)) = true := decide_eq_true (by omega)
      obtain ⟨o', cap', w6, hrun, hown', hb6⟩ := byte_own 48 hor (by omega) (by omega)
      rw [show (((48 : UInt8).toNat : Nat) : Int) = 48 from rfl] at hrun
      have HOWN := Lib.hid hown'
      have HB6 := Lib.hid hb6
      obtain ⟨o, cap, rfl⟩ := own_form hor
      clear hown' hb6 hor
      go_wp2
      go_roundg (4 - U.size - (j + 1))
      case measure => omega
      case rel =>
        refine ⟨j + 1, by simp, by omega, rfl, ?_, Lib.hid ⟨hbr.out.1.trans HB6.out.1, hbr.out.2.trans HB6.out.2⟩⟩
        have := HOWN.out
        rw [List.append_assoc, pad_loop_cells] at this
        exact this
    · have hd : decide (((j : Nat) : Int) < 4 - (U.size : Nat)) = false := decide_eq_false (by omega)
      obtain rfl : j = 4 - U.size := by omega
      obtain ⟨o', cap', w6, hrun, hown', hb6⟩ := text_own U hor (by omega) (by omega)
      have HOWN := Lib.hid hown'
      have HB6 := Lib.hid hb6
      obtain ⟨o, cap, rfl⟩ := own_form hor
      clear hown' hb6 hor
      go_wp2
      go_ret
      refine ⟨_, rfl, ?_, hbr.out.1.trans HB6.out.1, hbr.out.2.trans HB6.out.2⟩
      have h := HOWN.out
      have e1 : (padL (upL n)).length = 4 - U.size + U.size := by unfold padL; rw [HUS.out]; simp
      have e3 : k0 + ((padL (upL n)).length + 1) = k + (4 - U.size) + U.size := by omega
      have e2 : xs0 ++ byteCells (45 :: padL (upL n)) = xs ++ byteCells (List.replicate (4 - U.size) 48) ++ byteCells U.data.toList := by
        rw [← hxs]; unfold padL byteCells; rw [HU.out, HUS.out, List.map_cons, List.map_append, List.append_assoc, List.append_assoc]; rfl
      show w6.ownsRow base 5 1 _ (k0 + ((padL (upL n)).length + 1)) _
      rw [e3, e2]
      exact h
theorem putL_len {n : Int} (h : In64 n) : (putL n).length ≤ 1000 := by
  unfold In64 at h
  have e63 : (2 : Int) ^ 63 = 9223372036854775808 := by decide
  rw [e63] at h
  have hm : magN n < 9223372036854775808 := by unfold magN; split <;> omega
  have hu := up_len hm
  unfold putL padL
  split <;> simp <;> omega
theorem putCode_any (n : Int) (h : In64 n) (w : World) {m : Int} (hG : FGlob w m) : Puts 100000000 53 #[.int .i64 n] (putL n) w := by
  have hb := h
  unfold In64 at hb
  have e63 : (2 : Int) ^ 63 = 9223372036854775808 := by decide
  rw [e63] at hb
  unfold putL
  by_cases hn : n < 0
  · rw [if_pos hn]
    show Puts _ _ _ (45 :: padL (upL (magN n))) w
    exact putCode_neg n hn hb.1 w hG
  · rw [if_neg hn, List.nil_append]
    obtain ⟨k, rfl⟩ := Int.eq_ofNat_of_zero_le (by omega : 0 ≤ n)
    have hm : magN (k : Nat) = k := by unfold magN; rw [if_neg (by omega)]; omega
    rw [hm]
    exact putCode_pos k (by omega) w hG
end Go.Proofs.YtapbedefahbilaaGreatDoor
