/- A unit as the code lays it: a complex number of its place and its length; there and back. has, isTail, begins, badSize, unit. -/
import Derived.Test.YthnfekilmiodpaaDoorBunNext
import Derived.Laws.FloatArith
import Derived.Deep.RegionWith
import Derived.IntWalk
import Derived.Test.YthnfekilmiodpaaDoorBunUnit
namespace Go.Proofs.YthnfekilmiodpaaDoor
open Ieee Go.RowKit

theorem toInt_of_isInt {d : Datum} {n : Nat} (h : IsInt d n) : d.toInt .zero = some (n : Int) := by
  obtain ⟨s, m, i, rfl, hi, hm⟩ := h
  have e0 : i.toNat = 0 := by omega
  have hz : n * 2 ^ (-i).toNat = m ∨ (m = 0 ∧ n = 0) := by
    cases s
    · left
      have h1 : signed false m 0 = (m : Int) := by simp [signed]
      rw [h1] at hm
      have : ((n * 2 ^ (-i).toNat : Nat) : Int) = (m : Int) := by rw [hm]; simp
      exact_mod_cast this
    · right
      have h1 : signed true m 0 = -(m : Int) := by simp [signed]
      rw [h1] at hm
      have hp : (0 : Int) < 2 ^ (-i).toNat := Int.pow_pos (by omega)
      have h2 : (0 : Int) ≤ (n : Int) * 2 ^ (-i).toNat := Int.mul_nonneg (by omega) (by omega)
      have hm0 : m = 0 := by omega
      refine ⟨hm0, ?_⟩
      have h3 : (n : Int) * 2 ^ (-i).toNat = 0 := by omega
      rcases Int.mul_eq_zero.1 h3 with h | h <;> omega
  have hcut : Toward.zero.cut s m (-i).toNat = n := by
    unfold Toward.cut
    simp only [Bool.toNat_false, Nat.add_zero]
    rcases hz with h | ⟨h1, h2⟩
    · rcases Nat.eq_zero_or_pos n with h0 | h0
      · subst h0
        rw [Nat.zero_mul] at h
        rw [← h, Nat.zero_div]
      · have hpow : 2 ^ (-i).toNat ≤ m := by rw [← h]; exact Nat.le_mul_of_pos_left _ h0
        have hm0 : m ≠ 0 := by have := Nat.one_le_two_pow (n := (-i).toNat); omega
        have hlog : (-i).toNat ≤ m.log2 := (Nat.le_log2 hm0).2 hpow
        rw [Nat.min_eq_left (by omega), Nat.one_shiftLeft, ← h]
        exact Nat.mul_div_cancel _ (Nat.two_pow_pos _)
    · rw [h1, h2, Nat.zero_div]
  show (match Datum.integral .zero (.number s m i) with | .number s m _ => some (signed s m 0) | _ => none) = _
  simp only [Datum.integral, e0, Nat.shiftLeft_zero, hcut]
  rcases hz with h | ⟨h1, h2⟩
  · cases s
    · simp [signed]
    · have h1 : signed true m 0 = -(m : Int) := by simp [signed]
      rw [h1] at hm
      have hp : (0 : Int) < 2 ^ (-i).toNat := Int.pow_pos (by omega)
      have h2 : (0 : Int) ≤ (n : Int) * 2 ^ (-i).toNat := Int.mul_nonneg (by omega) (by omega)
      have h3 : (n : Int) * 2 ^ (-i).toNat = 0 := by omega
      rcases Int.mul_eq_zero.1 h3 with h | h
      · have : n = 0 := by omega
        subst this
        simp [signed]
      · omega
  · rw [h2]
    cases s <;> simp [signed]

/-- The word of a whole number. -/
def flN (n : Nat) : Nat := floatOfInt .f64 (n : Nat)
theorem float_back {n : Nat} (h : n < 2 ^ 53) : floatToIntVal .f64 (flN n) .i64 = some (n : Int) := by
  have hfl : flN n = double.nearest false n 0 := by
    have h1 : flN n = double.nearest (decide ((n : Int) < 0)) (n : Int).natAbs 0 := rfl
    rw [h1, decide_eq_false (by omega), Int.natAbs_natCast]
  have hd : (FloatKind.f64.decode (flN n)).toInt .zero = some (n : Int) := by
    rw [hfl]
    have := nearest_int false n h
    simp only [Bool.false_eq_true, if_false] at this
    exact toInt_of_isInt this
  unfold floatToIntVal
  rw [hd]
  have e1 : IntKind.i64.min = -(2 ^ 63) := by decide
  have e2 : IntKind.i64.max = 2 ^ 63 - 1 := by decide
  simp only [e1, e2]
  rw [if_pos (by omega)]

theorem wrap_id {x : Int} (h1 : -(2 ^ 63) ≤ x) (h2 : x < 2 ^ 63) : IntKind.i64.wrap x = x := by rw [IntKind.wrap_i64]; omega
abbrev unitC (p n : Nat) (ok : Bool) : Array Value := #[.complex .f64 (flN p) (flN n), .bool ok]
abbrev unitV (p n : Nat) (ok : Bool) : Value := .agg (unitC p n ok)
theorem conv_back {n : Nat} (h : n < 2 ^ 53) (w : World) : (convert 61 3 (.float .f64 (flN n))).run Tryd.prog w = .ok (.int .i64 (n : Nat)) w :=
  run_convert_float_int w _ _ _ _ _ _ (by kernel_rfl) Tryd.underlying3 (float_back h)

theorem begin_any (p n : Nat) (ok : Bool) (hp : p < 2 ^ 53) (w : World) :
    Calls Tryd.prog 24 #[unitV p n ok] w fun e w' => e = .returned (.int .i64 (p : Nat)) ∧ w.alloc (.cells (unitC p n ok) 36) = w' := by
  have hcv := conv_back hp
  go_enter Tryd.func24, Tryd.ntmps24
  go_wp2
  go_ret
  exact ⟨rfl, rfl⟩
theorem size_any (p n : Nat) (ok : Bool) (hn : n < 2 ^ 53) (w : World) :
    Calls Tryd.prog 20 #[unitV p n ok] w fun e w' => e = .returned (.int .i64 (n : Nat)) ∧ w.alloc (.cells (unitC p n ok) 36) = w' := by
  have hcv := conv_back hn
  go_enter Tryd.func20, Tryd.ntmps20
  go_wp2
  go_ret
  exact ⟨rfl, rfl⟩
set_option maxHeartbeats 400000 in
theorem end_exact (p n : Nat) (ok : Bool) (hp : p < 2 ^ 52) (hn : n < 2 ^ 52) (w : World) :
    Calls Tryd.prog 25 #[unitV p n ok] w fun e w' => e = .returned (.int .i64 ((p : Nat) + (n : Nat))) ∧ (((w.alloc (.cells (unitC p n ok) 36)).alloc (.cells (unitC p n ok) 36)).alloc (.cells (unitC p n ok) 36)).drew = w' := by
  have hw : IntKind.i64.wrap (((p : Nat) : Int) + ((n : Nat) : Int)) = (p : Nat) + (n : Nat) := wrap_id (by omega) (by omega)
  have HW := Lib.hid hw
  clear hw
  go_enter Tryd.func25, Tryd.ntmps25
  go_wp2_with fail
  go_region_with (first | (go_at_call 24; refine (begin_any p n ok (by omega) _).mono ?_; rintro e w1 ⟨rfl, rfl⟩) | (go_at_call 20; refine (size_any p n ok (by omega) _).mono ?_; rintro e w1 ⟨rfl, rfl⟩))
  all_goals
    go_wp2
    go_ret
    refine ⟨by show Ending.returned (.int .i64 (IntKind.i64.wrap (((p : Nat) : Int) + ((n : Nat) : Int)))) = _; rw [HW.out], rfl⟩
theorem end_any (p n : Nat) (ok : Bool) (hp : p < 2 ^ 52) (hn : n < 2 ^ 52) (w : World) :
    Calls Tryd.prog 25 #[unitV p n ok] w fun e w' => e = .returned (.int .i64 ((p : Nat) + (n : Nat))) ∧ Below w.heap.size w w' :=
  (end_exact p n ok hp hn w).mono fun e w' ⟨h1, h2⟩ => ⟨h1, by rw [← h2]; exact (((Below.refl _ _).alloc (Nat.le_refl _) _).alloc (by simp) _).alloc (by simp; omega) _ |>.drew⟩
theorem unitAt_any (p n : Nat) (ok : Bool) (w : World) :
    Calls Tryd.prog 32 #[.int .i64 (p : Nat), .int .i64 (n : Nat), .bool ok] w fun e w' => e = .returned (unitV p n ok) ∧ Below w.heap.size w w' := by
  go_enter Tryd.func32, Tryd.ntmps32
  go_wp2
  exact bodyPost_ret (v := unitV p n ok) (by simp [results, Tryd.results32, go_sem, flN]) rfl ⟨rfl, (Below.refl _ _).alloc (Nat.le_refl _) _⟩
end Go.Proofs.YthnfekilmiodpaaDoor

namespace Go.Proofs.YthnfekilmiodpaaDoor
open Go.RowKit

theorem thas_any (s : ByteArray) (at_ : Int) (w : World) :
    Calls Tryd.prog 30 #[.agg #[.string s], .int .i64 at_] w fun e w' => e = .returned (.bool (decide (0 ≤ at_ ∧ at_ < (s.size : Nat)))) ∧ w.alloc (.cells #[.string s] 38) = w' := by
  by_cases h1 : 0 ≤ at_ <;> by_cases h2 : at_ < (s.size : Nat)
  all_goals
    go_enter Tryd.func30, Tryd.ntmps30
    go_wp2
    go_ret
    exact ⟨by simp [h1, h2], rfl⟩

theorem tail_fin : ∀ b : Fin 256, (bits .and .u8 ((b.val : Nat) : Int) 192 = 128) ↔ (128 ≤ b.val ∧ b.val ≤ 191) := by decide +kernel
theorem tail_bits (b : Nat) (h : b < 256) : (bits .and .u8 (b : Nat) 192 = 128) ↔ (128 ≤ b ∧ b ≤ 191) := tail_fin ⟨b, h⟩
theorem isTail_any (b : Nat) (h : b < 256) (w : World) :
    Calls Tryd.prog 51 #[.int .u8 (b : Nat)] w fun e w' => e = .returned (.bool (decide (128 ≤ b ∧ b ≤ 191))) ∧ w = w' := by
  have hb := tail_bits b h
  by_cases h1 : 128 ≤ b ∧ b ≤ 191
  · have e := hb.2 h1
    have H1 := Lib.hid h1
    clear h1 hb
    go_enter Tryd.func51, Tryd.ntmps51
    go_wp2
    go_ret
    exact ⟨by rw [decide_eq_true H1.out]; rfl, rfl⟩
  · have e : (bits .and .u8 (b : Nat) 192 == 128) = false := by rw [beq_eq_false_iff_ne]; exact fun e => h1 (hb.1 e)
    have H1 := Lib.hid h1
    clear h1 hb
    go_enter Tryd.func51, Tryd.ntmps51
    go_wp2
    go_ret
    exact ⟨by rw [decide_eq_false H1.out]; rfl, rfl⟩

theorem decV_isSome (l : List UInt8) : ∃ r n, decV l = .tuple #[.int .i64 r, .int .i64 n, .bool (decL l).isSome] := by
  cases h : decL l with
  | none => exact ⟨_, _, decV_none h⟩
  | some x => obtain ⟨r, n⟩ := x; exact ⟨_, _, decV_some h⟩
theorem begins_any (s : ByteArray) (hs : s.size ≤ 100000) (w : World) (aU aS : Addr) (hG : Glob w aU aS) {b : Bool} (hb : begL s.data.toList = b) :
    Calls Tryd.prog 40 #[.string s] w fun e w' => e = .returned (.bool b) ∧ Below w.heap.size w w' := by
  obtain ⟨r, n, hd⟩ := decV_isSome (s ++ ⟨#[128, 128]⟩).data.toList
  have hb' : (decL (s ++ ⟨#[128, 128]⟩).data.toList).isSome = b := by rw [append_list]; exact hb
  rw [hb'] at hd
  have HD := Lib.hid hd
  have hsz : (⟨#[128, 128]⟩ : ByteArray).size = 2 := rfl
  have hroom : s.size + (⟨#[128, 128]⟩ : ByteArray).size ≤ 100002 := by omega
  clear hd hb' hb
  go_enter Tryd.func40, Tryd.ntmps40
  go_wp2_with fail
  refine (decode_any _ w aU aS hG).mono ?_
  rintro e w1 ⟨rfl, hb⟩
  rw [HD.out]
  go_wp2
  go_ret
  exact ⟨rfl, hb⟩

theorem begL_eq {s : ByteArray} {n : Nat} : begL (s.extract 0 n).data.toList = begL (s.data.toList.take n) := by
  rw [Lib.extract_data]; simp
/-- With four bytes of a bad unit no scalar begins. -/
theorem begL_four {l : List UInt8} (hd : decL l = none) (hl : 4 ≤ l.length) : begL (l.take 4) = false := by
  unfold begL
  cases h : decL (l.take 4 ++ [128, 128]) with
  | none => rfl
  | some x =>
    exfalso
    obtain ⟨r, n⟩ := x
    obtain ⟨h9, ht, hn⟩ := decL_some h
    have h4 := (decL_len h).2.1
    have h5 : n ≤ (l.take 4).length := by rw [List.length_take]; omega
    have e0 : (l.take 4 ++ [128, 128]).take n = l.take n := by
      rw [List.take_append_of_le_length h5, List.take_take, Nat.min_eq_left h4]
    have e : l.take n = encB r := e0.symm.trans ht
    have e2 : l = encB r ++ l.drop n := by rw [← e, List.take_append_drop]
    rw [e2, decL_enc h9] at hd
    cases hd

set_option maxRecDepth 100000 in
set_option maxHeartbeats 1000000 in
theorem badSize_any (s : ByteArray) (h0 : 0 < s.size) (hs : s.size ≤ 90000) (hd : decL s.data.toList = none) (w : World) (aU aS : Addr) (hG : Glob w aU aS) :
    Calls Tryd.prog 33 #[.string s] w fun e w' => e = .returned (.int .i64 (badL s.data.toList : Nat)) ∧ Below w.heap.size w w' := by
  have hll : s.data.toList.length = s.size := by simp
  by_cases h2 : 2 ≤ s.size
  · have E2 : (s.extract 0 2).size = 2 := by rw [ByteArray.size_extract]; omega
    have hl2 : (1 : Int) < ((s.size : Nat) : Int) := by omega
    by_cases hb2 : begL (s.data.toList.take 2) = true
    · have B2 : begL (s.extract 0 2).data.toList = true := by rw [begL_eq]; exact hb2
      by_cases h3 : 3 ≤ s.size
      · have E3 : (s.extract 0 3).size = 3 := by rw [ByteArray.size_extract]; omega
        have hl3 : (2 : Int) < ((s.size : Nat) : Int) := by omega
        by_cases hb3 : begL (s.data.toList.take 3) = true
        · have B3 : begL (s.extract 0 3).data.toList = true := by rw [begL_eq]; exact hb3
          have hv : badL s.data.toList = 3 := by unfold badL; rw [if_pos ⟨by omega, hb2⟩, if_pos ⟨by omega, hb3⟩]
          rw [hv]
          by_cases h4 : 4 ≤ s.size
          · have E4 : (s.extract 0 4).size = 4 := by rw [ByteArray.size_extract]; omega
            have hl4 : (3 : Int) < ((s.size : Nat) : Int) := by omega
            have B4 : begL (s.extract 0 4).data.toList = false := by rw [begL_eq]; exact begL_four hd (by omega)
            have C2 := Lib.hid B2
            have C3 := Lib.hid B3
            have C4 := Lib.hid B4
            clear hll hb2 hb3 hd hv B2 B3 B4
            go_enter Tryd.func33, Tryd.ntmps33
            go_wp2_with fail
            refine wp_loop_rounds 3 ?_
            rw [rounds_succ]
            go_wp2_with fail
            refine (begins_any (s.extract 0 2) (by omega) _ aU aS hG C2.out).mono ?_
            rintro e w1 ⟨rfl, b1⟩
            go_wp2_with fail
            rw [rounds_succ]
            go_wp2_with fail
            refine (begins_any (s.extract 0 3) (by omega) _ aU aS (hG.below b1) C3.out).mono ?_
            rintro e w2 ⟨rfl, b2⟩
            go_wp2_with fail
            rw [rounds_succ]
            go_wp2_with fail
            refine (begins_any (s.extract 0 4) (by omega) _ aU aS ((hG.below b1).below b2) C4.out).mono ?_
            rintro e w3 ⟨rfl, b3⟩
            go_wp2
            go_ret
            exact ⟨rfl, b1.trans ((b2.trans (b3.mono b2.size)).mono b1.size)⟩
          · have hs3 : s.size = 3 := by omega
            have hl4 : ¬ (3 : Int) < ((s.size : Nat) : Int) := by omega
            have C2 := Lib.hid B2
            have C3 := Lib.hid B3
            clear hll hb2 hb3 hd hv B2 B3
            go_enter Tryd.func33, Tryd.ntmps33
            go_wp2_with fail
            refine wp_loop_rounds 3 ?_
            rw [rounds_succ]
            go_wp2_with fail
            refine (begins_any (s.extract 0 2) (by omega) _ aU aS hG C2.out).mono ?_
            rintro e w1 ⟨rfl, b1⟩
            go_wp2_with fail
            rw [rounds_succ]
            go_wp2_with fail
            refine (begins_any (s.extract 0 3) (by omega) _ aU aS (hG.below b1) C3.out).mono ?_
            rintro e w2 ⟨rfl, b2⟩
            go_wp2_with fail
            rw [rounds_succ]
            go_wp2
            go_ret
            exact ⟨rfl, b1.trans (b2.mono b1.size)⟩
        · have B3 : begL (s.extract 0 3).data.toList = false := by rw [begL_eq]; exact eq_false_of_ne_true hb3
          have hv : badL s.data.toList = 2 := by unfold badL; rw [if_pos ⟨by omega, hb2⟩, if_neg (fun h => hb3 h.2)]
          rw [hv]
          have C2 := Lib.hid B2
          have C3 := Lib.hid B3
          clear hll hb2 hb3 hd hv B2 B3
          go_enter Tryd.func33, Tryd.ntmps33
          go_wp2_with fail
          refine wp_loop_rounds 2 ?_
          rw [rounds_succ]
          go_wp2_with fail
          refine (begins_any (s.extract 0 2) (by omega) _ aU aS hG C2.out).mono ?_
          rintro e w1 ⟨rfl, b1⟩
          go_wp2_with fail
          rw [rounds_succ]
          go_wp2_with fail
          refine (begins_any (s.extract 0 3) (by omega) _ aU aS (hG.below b1) C3.out).mono ?_
          rintro e w2 ⟨rfl, b2⟩
          go_wp2
          go_ret
          exact ⟨rfl, b1.trans (b2.mono b1.size)⟩
      · have hs2 : s.size = 2 := by omega
        have hl3 : ¬ (2 : Int) < ((s.size : Nat) : Int) := by omega
        have hv : badL s.data.toList = 2 := by unfold badL; rw [if_pos ⟨by omega, hb2⟩, if_neg (fun h => by omega)]
        rw [hv]
        have C2 := Lib.hid B2
        clear hll hb2 hd hv B2
        go_enter Tryd.func33, Tryd.ntmps33
        go_wp2_with fail
        refine wp_loop_rounds 2 ?_
        rw [rounds_succ]
        go_wp2_with fail
        refine (begins_any (s.extract 0 2) (by omega) _ aU aS hG C2.out).mono ?_
        rintro e w1 ⟨rfl, b1⟩
        go_wp2_with fail
        rw [rounds_succ]
        go_wp2
        go_ret
        exact ⟨rfl, b1⟩
    · have B2 : begL (s.extract 0 2).data.toList = false := by rw [begL_eq]; exact eq_false_of_ne_true hb2
      have hv : badL s.data.toList = 1 := by unfold badL; rw [if_neg (fun h => hb2 h.2)]
      rw [hv]
      have C2 := Lib.hid B2
      clear hll hb2 hd hv B2
      go_enter Tryd.func33, Tryd.ntmps33
      go_wp2_with fail
      refine wp_loop_rounds 1 ?_
      rw [rounds_succ]
      go_wp2_with fail
      refine (begins_any (s.extract 0 2) (by omega) _ aU aS hG C2.out).mono ?_
      rintro e w1 ⟨rfl, b1⟩
      go_wp2
      go_ret
      exact ⟨rfl, b1⟩
  · have hs1 : s.size = 1 := by omega
    have hl2 : ¬ (1 : Int) < ((s.size : Nat) : Int) := by omega
    have hv : badL s.data.toList = 1 := by unfold badL; rw [if_neg (fun h => by omega)]
    rw [hv]
    clear hll hd hv
    go_enter Tryd.func33, Tryd.ntmps33
    go_wp2_with fail
    refine wp_loop_rounds 1 ?_
    rw [rounds_succ]
    go_wp2
    go_ret
    exact ⟨rfl, Below.refl _ _⟩

theorem zero_unit : flN 0 = 0 := by kernel_rfl
abbrev zeroU : Array Value := #[.complex .f64 0 0, .bool false]
theorem store_unit {ops : Array Oper} {rest : List Oper} {o : Oper} {a : Act} {w : World} {Q : Exit → Act → World → Prop} (hgd : o.guard = none) (x y : Operand) (ho : o.op = .store 36 x y)
    (g : Nat) (p n : Nat) (ok : Bool) (hx : a.eval x = .pointer (some ⟨g, 0, none⟩)) (hy : a.eval y = unitV p n ok) (u v : Value) (hg : w.heap[g]? = some (.cells #[u, v] 36 (0, 0)))
    (h : wpList Tryd.prog ops Q rest (a.put o.dst undef) (w.setRow g (unitC p n ok))) : wpList Tryd.prog ops Q (o :: rest) a w :=
  wpList_store_row hgd _ x y ho g (unitC p n ok) hx hy _ _ hg (by kernel_rfl) rfl (by simp [Value.oneCell']) h
/-- The row laid second, behind whatever came later. -/
theorem second_row {w w' : World} {A : Obj} {c : Array Value} {t : TypeId} (hb : Below ((w.alloc A).alloc (.cells c t)).heap.size ((w.alloc A).alloc (.cells c t)) w') : w'.heap[w.heap.size + 1]? = some (.cells c t (0, 0)) :=
  (hb.block _ (by simp)).trans (heap_alloc2_new _ _ _)
theorem two_below {w w' : World} {A B : Obj} (hb : Below ((w.alloc A).alloc B).heap.size ((w.alloc A).alloc B) w') : Below w.heap.size w w' :=
  (((Below.refl _ _).alloc (Nat.le_refl _) _).alloc (by simp) _).trans (hb.mono (by simp; omega))

/-- No unit at the text's end, nor beyond. -/
theorem unit_none (s : ByteArray) (at_ : Int) (h : ¬ (0 ≤ at_ ∧ at_ < (s.size : Nat))) (w : World) :
    Calls Tryd.prog 19 #[.agg #[.string s], .int .i64 at_] w fun e w' => e = .returned (.agg zeroU) ∧ Below w.heap.size w w' := by
  have hd := decide_eq_false h
  have HD := Lib.hid hd
  clear h hd
  go_enter Tryd.func19, Tryd.ntmps19
  go_wp2_with fail
  refine (thas_any s at_ _).mono ?_
  rintro e w1 ⟨rfl, rfl⟩
  rw [HD.out]
  go_wp2
  have hb : Below ((w.alloc (.cells #[.string s] 38)).alloc (.cells zeroU 36)).heap.size ((w.alloc (.cells #[.string s] 38)).alloc (.cells zeroU 36)) _ := (Below.refl _ _).alloc (Nat.le_refl _) (.cells #[.string s] 38)
  refine bodyPost_ret (v := .agg zeroU) ?_ rfl ⟨rfl, two_below hb⟩
  exact results_cell_row rfl _ _ (w.heap.size + 1) 36 zeroU (0, 0) _ rfl (second_row hb) Tryd.underlying36 rfl (by kernel_rfl)

set_option maxRecDepth 100000 in
theorem unit_some (s : ByteArray) (hs : s.size ≤ 80000) (p : Nat) (hp : p < s.size) {n : Nat} {ok : Bool} (hu : unitL (s.data.toList.drop p) = (n, ok)) (w : World) (aU aS : Addr) (hG : Glob w aU aS) :
    Calls Tryd.prog 19 #[.agg #[.string s], .int .i64 (p : Nat)] w fun e w' => e = .returned (unitV p n ok) ∧ Below w.heap.size w w' := by
  have hd : decide (0 ≤ ((p : Nat) : Int) ∧ ((p : Nat) : Int) < (s.size : Nat)) = true := by simp; omega
  have HD := Lib.hid hd
  have hex : (s.extract p s.size).data.toList = s.data.toList.drop p := drop_toList s p
  have hpl : ((p : Nat) : Int) ≤ ((s.size : Nat) : Int) := by omega
  have hb1 : Below ((w.alloc (.cells #[.string s] 38)).alloc (.cells zeroU 36)).heap.size ((w.alloc (.cells #[.string s] 38)).alloc (.cells zeroU 36)) _ := (Below.refl _ _).alloc (Nat.le_refl _) (.cells #[.string s] 38)
  have hG1 := hG.below (two_below hb1)
  have hz1 := hb1.size
  cases hdl : decL (s.data.toList.drop p) with
  | some x =>
    obtain ⟨r, k⟩ := x
    rw [unitL_some hdl] at hu
    obtain ⟨rfl, rfl⟩ := Prod.mk.inj hu
    have HV : Hid (decV (s.extract p s.size).data.toList = .tuple #[.int .i64 (r : Nat), .int .i64 (k : Nat), .bool true]) := Lib.hid (by rw [hex]; exact decV_some hdl)
    clear hd hex hdl hu
    go_enter Tryd.func19, Tryd.ntmps19
    go_wp2_with fail
    refine (thas_any s _ _).mono ?_
    rintro e w1 ⟨rfl, rfl⟩
    rw [HD.out]
    go_wp2_with fail
    refine (decode_any _ _ aU aS hG1).mono ?_
    rintro e w1 ⟨rfl, c1⟩
    have hb2 := hb1.trans (c1.mono hz1)
    rw [HV.out]
    go_wp2_with fail
    refine (unitAt_any p k true _).mono ?_
    rintro e w2 ⟨rfl, c2⟩
    have hb3 := hb2.trans (c2.mono hb2.size)
    have hrow := second_row hb3
    have HR := Lib.hid hrow
    clear hrow
    go_wp2_with (refine store_unit rfl (.tmp 4) _ rfl (w.heap.size + 1) p k true rfl rfl _ _ HR.out ?_)
    have hb4 := below_setRow hb3 (g := w.heap.size + 1)
    refine bodyPost_ret (v := unitV p k true) ?_ rfl ⟨rfl, below_setRow (two_below hb3) (by omega) _⟩
    exact results_cell_row rfl _ _ (w.heap.size + 1) 36 (unitC p k true) (0, 0) _ rfl (setRow_heap _ _ _ _ _ _ HR.out) Tryd.underlying36 rfl (by kernel_rfl)
  | none =>
    rw [unitL_none hdl] at hu
    obtain ⟨rfl, rfl⟩ := Prod.mk.inj hu
    have HV : Hid (decV (s.extract p s.size).data.toList = .tuple #[.int .i64 0, .int .i64 0, .bool false]) := Lib.hid (by rw [hex]; exact decV_none hdl)
    have hx0 : 0 < (s.extract p s.size).size := by rw [ByteArray.size_extract]; omega
    have hx1 : (s.extract p s.size).size ≤ 90000 := by rw [ByteArray.size_extract]; omega
    have HB := Lib.hid (fun W (hW : Glob W aU aS) => badSize_any (s.extract p s.size) hx0 hx1 (by rw [hex]; exact hdl) W aU aS hW)
    rw [hex] at HB
    clear hd hex hdl hu hx0 hx1
    go_enter Tryd.func19, Tryd.ntmps19
    go_wp2_with fail
    refine (thas_any s _ _).mono ?_
    rintro e w1 ⟨rfl, rfl⟩
    rw [HD.out]
    go_wp2_with fail
    refine (decode_any _ _ aU aS hG1).mono ?_
    rintro e w1 ⟨rfl, c1⟩
    have hG2 := hG1.below c1
    have hb2 := hb1.trans (c1.mono hz1)
    rw [HV.out]
    go_wp2_with fail
    refine (HB.out _ hG2).mono ?_
    rintro e w2 ⟨rfl, c2⟩
    have hb3 := hb2.trans (c2.mono hb2.size)
    go_wp2_with fail
    refine (unitAt_any p _ false _).mono ?_
    rintro e w3 ⟨rfl, c3⟩
    have hb4 := hb3.trans (c3.mono hb3.size)
    have hrow := second_row hb4
    have HR := Lib.hid hrow
    clear hrow
    go_wp2_with (refine store_unit rfl (.tmp 4) _ rfl (w.heap.size + 1) p _ false rfl rfl _ _ HR.out ?_)
    refine bodyPost_ret (v := unitV p _ false) ?_ rfl ⟨rfl, below_setRow (two_below hb4) (by omega) _⟩
    exact results_cell_row rfl _ _ (w.heap.size + 1) 36 (unitC p _ false) (0, 0) _ rfl (setRow_heap _ _ _ _ _ _ HR.out) Tryd.underlying36 rfl (by kernel_rfl)
end Go.Proofs.YthnfekilmiodpaaDoor

