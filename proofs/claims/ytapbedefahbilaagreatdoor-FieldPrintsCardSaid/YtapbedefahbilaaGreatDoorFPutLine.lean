/- putLine: the line that says a record; Print. -/
import Derived.Test.YtapbedefahbilaaGreatDoorFPut
namespace Go.Proofs.YtapbedefahbilaaGreatDoor
open Go.RowKit Go.Shelf
attribute [local go_sem ↓] app_hide

def flatB (fs : List ByteArray) : List UInt8 := fs.flatMap fun f => 59 :: f.data.toList
def headB (a b : Int) : List UInt8 := putL a ++ (if b = a then [] else [46, 46] ++ putL b)
def lineB (a b : Int) (fs : List ByteArray) : List UInt8 := headB a b ++ flatB fs ++ [10]
theorem flat_take {fs : List ByteArray} {j : Nat} (h : j < fs.length) : flatB (fs.take (j + 1)) = flatB (fs.take j) ++ 59 :: (fs.getD j ByteArray.empty).data.toList := by
  unfold flatB
  rw [take_snoc' fs h, List.flatMap_append, List.getD_eq_getElem?_getD, List.getElem?_eq_getElem h]
  simp
theorem flat_le (fs : List ByteArray) (j : Nat) : (flatB (fs.take j)).length ≤ (flatB fs).length := by
  have h : flatB fs = flatB (fs.take j) ++ flatB (fs.drop j) := by unfold flatB; rw [← List.flatMap_append, List.take_append_drop]
  rw [h, List.length_append]
  omega
theorem flat_count : ∀ fs : List ByteArray, fs.length ≤ (flatB fs).length
  | [] => by simp
  | f :: r => by
    have := flat_count r
    unfold flatB at *
    rw [List.flatMap_cons, List.length_append, List.length_cons, List.length_cons]
    omega
/-- Where a record's fields stand. -/
def FieldsAt (w : World) (o : Option Addr) (fs : List ByteArray) : Prop := ∀ j, j < fs.length → ∃ ad, o = some ad ∧ w.cell? (ad.add j) = some (.string (fs.getD j ByteArray.empty))

set_option maxRecDepth 100000 in
set_option maxHeartbeats 4000000 in
theorem putLine_any (line a b : Int) (ha : In64 a) (hb : In64 b) (o : Option Addr) (fs : List ByteArray) (cap : Nat) (w : World) {m : Int} (hG : FGlob w m) (hF : FieldsAt w o fs) (hT : (flatB fs).length ≤ 1000000) :
    Puts 50000000 38 #[recV line a b (.slice o fs.length cap)] (lineB a b fs) w := by
  intro W base k v xs hB ho hbase hwb hk
  have A0 : Below W.heap.size W (W.alloc (recO line a b (.slice o fs.length cap))) := (Below.refl _ _).alloc (Nat.le_refl _) _
  have r0 : (W.alloc (recO line a b (.slice o fs.length cap))).heap[W.heap.size]? = some (recO line a b (.slice o fs.length cap)) := heap_alloc_new _ _
  have hp1 := putCode_any a ha w hG _ base k v xs (hB.trans (A0.mono hB.size)) (own_below ho A0) (by have := A0.size; omega) hwb (by omega)
  have HP1 := Lib.hid hp1
  have HP2 := Lib.hid (putCode_any b hb w hG)
  have R0 := Lib.hid r0
  have HA := Lib.hid A0
  obtain ⟨k0, k1, k2, k3, k4⟩ := rec_cells r0
  have hlp1 : (putL a).length ≤ 1000 := putL_len ha
  have hlp2 : (putL b).length ≤ 1000 := putL_len hb
  obtain ⟨ov, capv, rfl⟩ := own_form ho
  replace hB := Lib.hid hB
  have hbe : W.heap.size < (W.alloc (recO line a b (.slice o fs.length cap))).heap.size := by simp
  clear hp1 r0 A0 ho hG
  go_enter Tryz.func38, Tryz.ntmps38
  go_wp2_with fail
  refine HP1.out.mono ?_
  rintro e w1 ⟨v1, rfl, ho1, b1, kb1⟩
  have r1 := kb1.row R0.out (by decide)
  have BK1 : Hid (Below base W w1 ∧ KeepB W w1) := Lib.hid ⟨(HA.out.mono hbase).trans b1, (KeepB.below HA.out).trans kb1⟩
  have hz1 := BK1.out.1.size
  clear b1 kb1 k0 k1 k2 k3 k4
  obtain ⟨d0, d1, d2, d3, d4⟩ := rec_cells r1
  by_cases hab : b = a
  · subst hab
    obtain ⟨k2, hk2⟩ : ∃ k2, k + (putL b).length = k2 := ⟨_, rfl⟩
    obtain ⟨xs2, hxs2⟩ : ∃ xs2, xs ++ byteCells (putL b) = xs2 := ⟨_, rfl⟩
    rw [hk2, hxs2] at ho1
    have ho2 := ho1
    have BK := BK1
    have r2 := r1
    clear d0 d1 d2 d3 d4
    have HLEN : Hid (k + (lineB b b fs).length = k2 + (flatB fs).length + 1) := Lib.hid (by unfold lineB headB; simp; omega)
    have HCEL : Hid (xs ++ byteCells (lineB b b fs) = xs2 ++ byteCells (flatB fs) ++ byteCells (⟨#[10]⟩ : ByteArray).data.toList) := Lib.hid (by rw [← hxs2]; unfold lineB headB byteCells; simp)
    obtain ⟨c0, c1, c2, c3, c4⟩ := rec_cells r2
    have HB2 := Lib.hid r2
    clear r2
    go_wp2_with fail
    go_loopg [0, 25] (fs.length) (fun c v0 v25 wr => ∃ j : Nat, v25 = .int .i64 (j : Nat) ∧ j ≤ fs.length ∧ c = fs.length - j ∧ Hid (wr.ownsRow base 5 1 v0 (k2 + (flatB (fs.take j)).length) (xs2 ++ byteCells (flatB (fs.take j)))) ∧ Hid (Below base W wr ∧ KeepB W wr))
    case atStart => exact ⟨0, rfl, Nat.zero_le _, rfl, Lib.hid (by simpa [byteCells, flatB] using ho2), BK⟩
    case round =>
      obtain ⟨j, rfl, hj, rfl, hor, hbr⟩ := hrel
      have hzr := hbr.out.1.size
      have hle := flat_le fs j
      obtain ⟨K, hK⟩ : ∃ K, k2 + (flatB (fs.take j)).length = K := ⟨_, rfl⟩
      rw [hK] at hor
      rcases Nat.lt_or_ge j fs.length with hlt | hge
      · have hj1 : j < 1000000 := by have := flat_count fs; omega
        obtain ⟨ad, hoad, hcw⟩ := hF j hlt
        have hcell := cell_keep (hB.out.trans (hbr.out.1.mono hwb)) hcw
        obtain ⟨s, hs⟩ : ∃ s, fs.getD j ByteArray.empty = s := ⟨_, rfl⟩
        rw [hs] at hcell
        have hfl := flat_take hlt
        rw [hs] at hfl
        have hle2 := flat_le fs (j + 1)
        rw [hfl, List.length_append, List.length_cons] at hle2
        have hsl : s.data.toList.length = s.size := by simp
        obtain ⟨o6, cap6, w6, hrun6, hown6, hb6, kb6⟩ := text_own ⟨#[59]⟩ hor.out (by show K + 1 ≤ _; omega) (by omega)
        replace hrun6 : (appSem #[44, 9] 44 #[_, .string ⟨#[59]⟩]).run Tryz.prog wr = .ok (.slice o6 (K + 1) cap6) w6 := hrun6
        replace hown6 : w6.ownsRow base 5 1 (.slice o6 (K + 1) cap6) (K + 1) _ := hown6
        obtain ⟨o7, cap7, w7, hrun7, hown7, hb7, kb7⟩ := text_own s hown6 (by omega) (by have := hb6.size; omega)
        have HOWN := Lib.hid hown7
        have HBK : Hid (Below base W w7 ∧ KeepB W w7) := Lib.hid ⟨(hbr.out.1.trans hb6).trans hb7, (hbr.out.2.trans kb6).trans kb7⟩
        have HFL := Lib.hid hfl
        have HKK := Lib.hid hK
        obtain ⟨ov, capv, rfl⟩ := own_form hor.out
        subst hoad
        clear hown6 hown7 hb6 hb7 kb6 kb7 hfl hor hbr hle hle2 hcw hs
        go_wp2
        go_roundg (fs.length - (j + 1))
        case measure => omega
        case rel =>
          refine ⟨j + 1, by simp, by omega, rfl, Lib.hid ?_, HBK⟩
          have h := HOWN.out
          have e1 : k2 + (flatB (fs.take (j + 1))).length = K + 1 + s.size := by rw [HFL.out, List.length_append, List.length_cons, ← HKK.out, hsl]; omega
          have e2 : byteCells (flatB (fs.take (j + 1))) = byteCells (flatB (fs.take j)) ++ byteCells (⟨#[59]⟩ : ByteArray).data.toList ++ byteCells s.data.toList := by rw [HFL.out]; unfold byteCells; rw [List.map_append, List.append_assoc]; rfl
          rw [e1, e2, ← List.append_assoc, ← List.append_assoc]
          exact h
      · obtain rfl : j = fs.length := by omega
        have hall : fs.take fs.length = fs := List.take_of_length_le (Nat.le_refl _)
        rw [hall] at hK hor hle
        obtain ⟨o6, cap6, w6, hrun6, hown6, hb6, kb6⟩ := text_own ⟨#[10]⟩ hor.out (by show K + 1 ≤ _; omega) (by omega)
        replace hrun6 : (appSem #[44, 9] 44 #[_, .string ⟨#[10]⟩]).run Tryz.prog wr = .ok (.slice o6 (K + 1) cap6) w6 := hrun6
        replace hown6 : w6.ownsRow base 5 1 (.slice o6 (K + 1) cap6) (K + 1) _ := hown6
        have HOWN := Lib.hid hown6
        have HBK : Hid (Below base W w6 ∧ KeepB W w6) := Lib.hid ⟨hbr.out.1.trans hb6, hbr.out.2.trans kb6⟩
        have HKK := Lib.hid hK
        obtain ⟨ov, capv, rfl⟩ := own_form hor.out
        clear hown6 hb6 kb6 hor hbr hle
        go_wp2
        go_ret
        refine ⟨_, rfl, ?_, HBK.out.1, HBK.out.2⟩
        have h := HOWN.out
        have e1 : k + (lineB b b fs).length = K + 1 := by have := HLEN.out; omega
        have e2 : xs ++ byteCells (lineB b b fs) = xs2 ++ byteCells (flatB fs) ++ byteCells (⟨#[10]⟩ : ByteArray).data.toList := HCEL.out
        rw [e1, e2]
        exact h
  · have hne : (b == a) = false := by simpa using hab
    obtain ⟨K1, hK1⟩ : ∃ K1, k + (putL a).length = K1 := ⟨_, rfl⟩
    obtain ⟨xs1, hxs1⟩ : ∃ xs1, xs ++ byteCells (putL a) = xs1 := ⟨_, rfl⟩
    rw [hK1, hxs1] at ho1
    obtain ⟨o6, cap6, w6, hrun6, hown6, hb6, kb6⟩ := text_own ⟨#[46, 46]⟩ ho1 (by show K1 + 2 ≤ _; omega) (by omega)
    replace hrun6 : (appSem #[44, 9] 44 #[_, .string ⟨#[46, 46]⟩]).run Tryz.prog w1 = .ok (.slice o6 (K1 + 2) cap6) w6 := hrun6
    replace hown6 : w6.ownsRow base 5 1 (.slice o6 (K1 + 2) cap6) (K1 + 2) _ := hown6
    have r6 := kb6.row r1 (by decide)
    obtain ⟨e0, e1, e2, e3, e4⟩ := rec_cells r6
    have BK6 : Hid (Below base W w6 ∧ KeepB W w6) := Lib.hid ⟨BK1.out.1.trans hb6, BK1.out.2.trans kb6⟩
    have hz6 := BK6.out.1.size
    have HP := Lib.hid (HP2.out w6 base _ _ _ (hB.out.trans (BK6.out.1.mono hwb)) hown6 (by omega) hwb (by omega))
    have R6 := Lib.hid r6
    obtain ⟨ov1, capv1, rfl⟩ := own_form ho1
    clear hown6 hb6 kb6 ho1 r6 r1
    go_wp2_with fail
    refine HP.out.mono ?_
    rintro e w2 ⟨v2, rfl, ho2, b2, kb2⟩
    have r2 := kb2.row R6.out (by decide)
    have BK : Hid (Below base W w2 ∧ KeepB W w2) := Lib.hid ⟨BK6.out.1.trans b2, BK6.out.2.trans kb2⟩
    have HLEN : Hid (k + (lineB a b fs).length = K1 + 2 + (putL b).length + (flatB fs).length + 1) := Lib.hid (by unfold lineB headB; rw [if_neg hab]; simp; omega)
    have HCEL : Hid (xs ++ byteCells (lineB a b fs) = xs1 ++ byteCells (⟨#[46, 46]⟩ : ByteArray).data.toList ++ byteCells (putL b) ++ byteCells (flatB fs) ++ byteCells (⟨#[10]⟩ : ByteArray).data.toList) := Lib.hid (by rw [← hxs1]; unfold lineB headB byteCells; rw [if_neg hab]; simp)
    obtain ⟨k2, hk2⟩ : ∃ k2, K1 + 2 + (putL b).length = k2 := ⟨_, rfl⟩
    obtain ⟨xs2, hxs2⟩ : ∃ xs2, xs1 ++ byteCells (⟨#[46, 46]⟩ : ByteArray).data.toList ++ byteCells (putL b) = xs2 := ⟨_, rfl⟩
    rw [hk2] at ho2 HLEN
    rw [hxs2] at ho2 HCEL
    clear b2 kb2 HP e0 e1 e2 e3 e4 d0 d1 d2 d3 d4 hrun6
    obtain ⟨c0, c1, c2, c3, c4⟩ := rec_cells r2
    have HB2 := Lib.hid r2
    clear r2
    go_wp2_with fail
    go_loopg [0, 25] (fs.length) (fun c v0 v25 wr => ∃ j : Nat, v25 = .int .i64 (j : Nat) ∧ j ≤ fs.length ∧ c = fs.length - j ∧ Hid (wr.ownsRow base 5 1 v0 (k2 + (flatB (fs.take j)).length) (xs2 ++ byteCells (flatB (fs.take j)))) ∧ Hid (Below base W wr ∧ KeepB W wr))
    case atStart => exact ⟨0, rfl, Nat.zero_le _, rfl, Lib.hid (by simpa [byteCells, flatB] using ho2), BK⟩
    case round =>
      obtain ⟨j, rfl, hj, rfl, hor, hbr⟩ := hrel
      have hzr := hbr.out.1.size
      have hle := flat_le fs j
      obtain ⟨K, hK⟩ : ∃ K, k2 + (flatB (fs.take j)).length = K := ⟨_, rfl⟩
      rw [hK] at hor
      rcases Nat.lt_or_ge j fs.length with hlt | hge
      · have hj1 : j < 1000000 := by have := flat_count fs; omega
        obtain ⟨ad, hoad, hcw⟩ := hF j hlt
        have hcell := cell_keep (hB.out.trans (hbr.out.1.mono hwb)) hcw
        obtain ⟨s, hs⟩ : ∃ s, fs.getD j ByteArray.empty = s := ⟨_, rfl⟩
        rw [hs] at hcell
        have hfl := flat_take hlt
        rw [hs] at hfl
        have hle2 := flat_le fs (j + 1)
        rw [hfl, List.length_append, List.length_cons] at hle2
        have hsl : s.data.toList.length = s.size := by simp
        obtain ⟨o6, cap6, w6, hrun6, hown6, hb6, kb6⟩ := text_own ⟨#[59]⟩ hor.out (by show K + 1 ≤ _; omega) (by omega)
        replace hrun6 : (appSem #[44, 9] 44 #[_, .string ⟨#[59]⟩]).run Tryz.prog wr = .ok (.slice o6 (K + 1) cap6) w6 := hrun6
        replace hown6 : w6.ownsRow base 5 1 (.slice o6 (K + 1) cap6) (K + 1) _ := hown6
        obtain ⟨o7, cap7, w7, hrun7, hown7, hb7, kb7⟩ := text_own s hown6 (by omega) (by have := hb6.size; omega)
        have HOWN := Lib.hid hown7
        have HBK : Hid (Below base W w7 ∧ KeepB W w7) := Lib.hid ⟨(hbr.out.1.trans hb6).trans hb7, (hbr.out.2.trans kb6).trans kb7⟩
        have HFL := Lib.hid hfl
        have HKK := Lib.hid hK
        obtain ⟨ov, capv, rfl⟩ := own_form hor.out
        subst hoad
        clear hown6 hown7 hb6 hb7 kb6 kb7 hfl hor hbr hle hle2 hcw hs
        go_wp2
        go_roundg (fs.length - (j + 1))
        case measure => omega
        case rel =>
          refine ⟨j + 1, by simp, by omega, rfl, Lib.hid ?_, HBK⟩
          have h := HOWN.out
          have e1 : k2 + (flatB (fs.take (j + 1))).length = K + 1 + s.size := by rw [HFL.out, List.length_append, List.length_cons, ← HKK.out, hsl]; omega
          have e2 : byteCells (flatB (fs.take (j + 1))) = byteCells (flatB (fs.take j)) ++ byteCells (⟨#[59]⟩ : ByteArray).data.toList ++ byteCells s.data.toList := by rw [HFL.out]; unfold byteCells; rw [List.map_append, List.append_assoc]; rfl
          rw [e1, e2, ← List.append_assoc, ← List.append_assoc]
          exact h
      · obtain rfl : j = fs.length := by omega
        have hall : fs.take fs.length = fs := List.take_of_length_le (Nat.le_refl _)
        rw [hall] at hK hor hle
        obtain ⟨o6, cap6, w6, hrun6, hown6, hb6, kb6⟩ := text_own ⟨#[10]⟩ hor.out (by show K + 1 ≤ _; omega) (by omega)
        replace hrun6 : (appSem #[44, 9] 44 #[_, .string ⟨#[10]⟩]).run Tryz.prog wr = .ok (.slice o6 (K + 1) cap6) w6 := hrun6
        replace hown6 : w6.ownsRow base 5 1 (.slice o6 (K + 1) cap6) (K + 1) _ := hown6
        have HOWN := Lib.hid hown6
        have HBK : Hid (Below base W w6 ∧ KeepB W w6) := Lib.hid ⟨hbr.out.1.trans hb6, hbr.out.2.trans kb6⟩
        have HKK := Lib.hid hK
        obtain ⟨ov, capv, rfl⟩ := own_form hor.out
        clear hown6 hb6 kb6 hor hbr hle
        go_wp2
        go_ret
        refine ⟨_, rfl, ?_, HBK.out.1, HBK.out.2⟩
        have h := HOWN.out
        have e1 : k + (lineB a b fs).length = K + 1 := by have := HLEN.out; omega
        have e2 : xs ++ byteCells (lineB a b fs) = xs2 ++ byteCells (flatB fs) ++ byteCells (⟨#[10]⟩ : ByteArray).data.toList := HCEL.out
        rw [e1, e2]
        exact h
end Go.Proofs.YtapbedefahbilaaGreatDoor
