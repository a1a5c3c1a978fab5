/- FormatInt at base 16. -/
import Derived.Test.YtapbedefahbilaaGreatDoorFRec
import Derived.Laws.BitsLemmas
namespace Go.Proofs.YtapbedefahbilaaGreatDoor
open Go.RowKit Go.Shelf

def digB (d : Nat) : UInt8 := UInt8.ofNat (if d < 10 then 48 + d else 87 + d)
@[irreducible] def digitsL (u : Nat) : List UInt8 := if _h : u < 16 then [digB u] else digitsL (u / 16) ++ [digB (u % 16)]
termination_by u
decreasing_by omega
theorem digitsL_small {u : Nat} (h : u < 16) : digitsL u = [digB u] := by rw [digitsL, dif_pos h]
theorem digitsL_big {u : Nat} (h : 16 ≤ u) : digitsL u = digitsL (u / 16) ++ [digB (u % 16)] := by rw [digitsL, dif_neg (by omega)]

theorem isPow_any (w : World) : Calls Tryz.prog 124 #[.int .i64 16] w fun e w' => e = .returned (.bool true) ∧ w = w' := by
  go_enter Tryz.func124, Tryz.ntmps124
  go_wp2
  go_ret
  exact ⟨rfl, rfl⟩
theorem tz64_any (w : World) {m : Int} (hG : FGlob w m) : Calls Tryz.prog 134 #[.int .u64 16] w fun e w' => e = .returned (.int .i64 4) ∧ w = w' := by
  have htz := hG.tz
  go_enter Tryz.func134, Tryz.ntmps134
  have hoff : IntKind.u64.wrap (bits BinOp.and IntKind.u64 16 (IntKind.u64.wrap (-16)) * 285870213051353865) / 288230376151711744 = 15 := by decide +kernel
  go_wp2
  go_ret
  exact ⟨rfl, rfl⟩
theorem tz_any (w : World) {m : Int} (hG : FGlob w m) : Calls Tryz.prog 125 #[.int .u64 16] w fun e w' => e = .returned (.int .i64 4) ∧ w = w' := by
  go_enter Tryz.func125, Tryz.ntmps125
  go_wp2_with fail
  refine (tz64_any w hG).mono ?_
  rintro e w' ⟨rfl, rfl⟩
  go_wp2
  go_ret
  exact ⟨rfl, rfl⟩

theorem and_15 (q : Nat) (hq : q < 9223372036854775808) : bits BinOp.and IntKind.u64 (q : Nat) 15 = (q : Int) % 16 :=
  bits_mask .u64 63 (by decide) (fun n h0 h1 => by rw [IntKind.wrap_u64]; omega) 4 (by decide) (q : Int) (by omega) (by omega)
theorem dig_fin : ∀ q : Fin 16, (((⟨#[48, 49, 50, 51, 52, 53, 54, 55, 56, 57, 97, 98, 99, 100, 101, 102, 103, 104, 105, 106, 107, 108, 109, 110, 111, 112, 113, 114, 115, 116, 117, 118, 119, 120, 121, 122]⟩ : ByteArray)[q.val]'(Nat.lt_trans q.isLt (by decide))).toNat : Int) = ((digB q.val).toNat : Nat) := by decide
theorem dig_at {q : Nat} (h : q < 36) (h16 : q < 16) : (((⟨#[48, 49, 50, 51, 52, 53, 54, 55, 56, 57, 97, 98, 99, 100, 101, 102, 103, 104, 105, 106, 107, 108, 109, 110, 111, 112, 113, 114, 115, 116, 117, 118, 119, 120, 121, 122]⟩ : ByteArray)[q]'h).toNat : Int) = ((digB q).toNat : Nat) := dig_fin ⟨q, h16⟩
theorem pow_bound {q s n : Nat} (h : q * 16 ^ s ≤ n) (hq : 16 ≤ q) (hn : n < 9223372036854775808) : s + 1 ≤ 15 := by
  rcases Nat.lt_or_ge s 15 with h1 | h1
  · omega
  · have h2 : 16 ^ 15 ≤ 16 ^ s := Nat.pow_le_pow_right (by omega) h1
    have h3 : 16 * 16 ^ s ≤ q * 16 ^ s := Nat.mul_le_mul_right _ hq
    have h4 : (16 : Nat) ^ 15 = 1152921504606846976 := by decide
    omega
/-- One digit more ahead. -/
theorem drop_set {cs : Array Value} {i : Nat} {suf : List UInt8} {b : UInt8} (hsz : cs.size = 65) (hi : suf.length + i = 65) (h1 : 1 ≤ i) (hd : cs.toList.drop i = suf.map fun b => (.int .u8 (b.toNat : Nat) : Value)) :
    (cs.setIfInBounds (i - 1) (.int .u8 (b.toNat : Nat))).toList.drop (i - 1) = (b :: suf).map fun b => (.int .u8 (b.toNat : Nat) : Value) := by
  rw [Array.toList_setIfInBounds, List.drop_eq_getElem_cons (by simp; omega)]
  simp only [List.getElem_set_self, List.map_cons]
  rw [List.drop_set_of_lt (by omega), show i - 1 + 1 = i from by omega, hd]

theorem string_at {g j : Nat} {w : World} {cs : Array Value} {t : TypeId} {l : List UInt8} (hrow : w.heap[g]? = some (.cells cs t (0, 0))) (hd : cs.toList.drop j = l.map fun b => (.int .u8 (b.toNat : Nat) : Value)) (n cap : Nat) (hn : n = l.length) :
    (convert 44 9 (.slice (some ⟨g, j, none⟩) n cap)).run Tryz.prog w = .ok (.string ⟨l.toArray⟩) w := by
  subst hn
  refine run_convert_bytes_back _ 44 9 5 ⟨g, j, none⟩ cap l Tryz.underlying44 Tryz.underlying5 Tryz.underlying9 (fun k hk => ?_)
  have hadd : (⟨g, j, none⟩ : Addr).add k = ⟨g, j + k, none⟩ := by unfold Addr.add; split <;> simp_all
  rw [hadd, cell_of_row _ _ (j + k) _ _ _ hrow]
  have h1 : (cs.toList.drop j)[k]? = (l.map fun b => (.int .u8 (b.toNat : Nat) : Value))[k]? := by rw [hd]
  rw [List.getElem?_drop, Array.getElem?_toList] at h1
  rw [h1]
  simp [List.getElem?_eq_getElem hk]
abbrev digC (l : List UInt8) : List Value := l.map fun b => .int .u8 (b.toNat : Nat)
set_option maxRecDepth 100000 in
set_option maxHeartbeats 2000000 in
theorem formatBits_any (n : Nat) (hn : n < 9223372036854775808) (w : World) {m : Int} (hG : FGlob w m) :
    Calls Tryz.prog 110 #[.slice none 0 0, .int .u64 (n : Nat), .int .i64 16, .bool false, .bool false] w fun e w' => e = .returned (.tuple #[.slice none 0 0, strV (digitsL n)]) ∧ Below w.heap.size w w' := by
  go_enter Tryz.func110, Tryz.ntmps110
  go_wp2_with fail
  refine (isPow_any _).mono ?_
  rintro e w1 ⟨rfl, rfl⟩
  have hG1 := hG.below ((Below.refl w.heap.size w).alloc (Nat.le_refl _) (.cells Tryz.zeroCells175 175))
  go_wp2_with fail
  refine (tz_any _ hG1).mono ?_
  rintro e w1 ⟨rfl, rfl⟩
  have hz : Tryz.zeroCells175.size = 65 := by kernel_rfl
  go_wp2_with fail
  go_loopg [1, 13] n (fun k v1 v13 wr => ∃ (q i : Nat) (cs : Array Value) (suf : List UInt8), v1 = .int .u64 (q : Nat) ∧ v13 = .int .i64 (i : Nat) ∧ k = q ∧ suf.length + i = 65 ∧ suf.length ≤ 15 ∧ q * 16 ^ suf.length ≤ n ∧ Hid (digitsL n = digitsL q ++ suf) ∧
    wr.heap[w.heap.size]? = some (.cells cs 175 (0, 0)) ∧ cs.size = 65 ∧ Hid (cs.toList.drop i = digC suf) ∧ Below w.heap.size w wr)
  case atStart => exact ⟨n, 65, _, [], rfl, rfl, rfl, rfl, by simp, by simp, Lib.hid (by simp), heap_alloc_new _ _, hz, Lib.hid (by rw [List.drop_eq_nil_of_le (by simp [hz])]; rfl), (Below.refl _ _).alloc (Nat.le_refl _) _⟩
  case round =>
    obtain ⟨q, i, cs, suf, rfl, rfl, hq, hi, hs15, hle, hd, hrow, hsz, hdrop, hb⟩ := hrel
    obtain ⟨j, rfl⟩ : ∃ j, i = j + 1 := ⟨i - 1, by omega⟩
    have hj : j < 65 := by omega
    have hji : (0 : Int) ≤ (j : Nat) ∧ (j : Int) < 65 := by omega
    have hjl : (j : Int) ≤ 65 := by omega
    have hjne : ¬ 65 = j := by omega
    have hcell : wr.cell? ⟨w.heap.size, j, none⟩ = some (cs.getD j undef) := by
      rw [cell_of_row _ _ j _ _ _ hrow, Array.getElem?_eq_getElem (by omega)]
      simp [Array.getD]
      omega
    have hfr : wr.frozen? ⟨w.heap.size, j, none⟩ = false := frozen_of_row _ _ _ _ _ hrow
    have hq63 : q < 9223372036854775808 := Nat.lt_of_le_of_lt (Nat.le_trans (Nat.le_mul_of_pos_right q (Nat.pow_pos (by omega) : 0 < 16 ^ suf.length)) hle) hn
    rcases Nat.lt_or_ge q 16 with hlt | hge
    · have h16 : decide ((16 : Int) ≤ (q : Nat)) = false := decide_eq_false (by omega)
      have hq36 : (0 : Int) ≤ (q : Nat) ∧ (q : Int) < 36 := by omega
      have hfin : digitsL n = digB q :: suf := by rw [hd.out, digitsL_small hlt]; rfl
      have hcv : (convert 44 9 (.slice (some ⟨w.heap.size, j, none⟩) (65 - j) (65 - j))).run Tryz.prog (wr.setCell ⟨w.heap.size, j, none⟩ (.int .u8 (((⟨#[48, 49, 50, 51, 52, 53, 54, 55, 56, 57, 97, 98, 99, 100, 101, 102, 103, 104, 105, 106, 107, 108, 109, 110, 111, 112, 113, 114, 115, 116, 117, 118, 119, 120, 121, 122]⟩ : ByteArray)[q]'(show q < 36 by omega)).toNat : Nat))) = .ok (.string ⟨(digB q :: suf).toArray⟩) (wr.setCell ⟨w.heap.size, j, none⟩ (.int .u8 (((⟨#[48, 49, 50, 51, 52, 53, 54, 55, 56, 57, 97, 98, 99, 100, 101, 102, 103, 104, 105, 106, 107, 108, 109, 110, 111, 112, 113, 114, 115, 116, 117, 118, 119, 120, 121, 122]⟩ : ByteArray)[q]'(show q < 36 by omega)).toNat : Nat))) := by
        rw [dig_at (by omega) hlt]
        refine string_at (set_heap _ hrow) (drop_set hsz hi (by omega) hdrop.out) _ _ ?_
        simp; omega
      have HF := Lib.hid hfin
      clear hfin hd hdrop hle
      go_wp2
      go_ret2
      exact ⟨by rw [HF.out]; rfl, hb.setCell (by simp) _⟩
    · have h16 : (16 : Int) ≤ (q : Nat) := by omega
      have hbits := and_15 q hq63
      have hm := Nat.mod_lt q (show 0 < 16 by omega)
      have h36 : (0 : Int) ≤ (q : Int) % 16 ∧ (q : Int) % 16 < 36 := by omega
      have hs1 := pow_bound hle hge hn
      have HD := Lib.hid hd.out
      have HDR := Lib.hid hdrop.out
      clear hd hdrop
      go_wp2
      rw [dig_at _ (by omega)]
      go_roundg (q / 16)
      case measure => omega
      case rel =>
        refine ⟨q / 16, j, _, digB (q % 16) :: suf, rfl, by simp, rfl, by simp; omega, by simp; omega, ?_, Lib.hid ?_, set_heap _ hrow, by simp [hsz], Lib.hid (drop_set hsz hi (by omega) HDR.out), hb.setCell (by simp) _⟩
        · rw [List.length_cons, Nat.pow_succ]
          have h1 : q / 16 * 16 ≤ q := Nat.div_mul_le_self q 16
          have h2 := Nat.mul_le_mul_right (16 ^ suf.length) h1
          rw [Nat.mul_assoc, Nat.mul_comm 16] at h2
          omega
        · rw [HD.out, digitsL_big hge]; simp
theorem formatInt_in (n : Nat) (hn : n < 9223372036854775808) (w : World) {m : Int} (hG : FGlob w m) :
    Calls Tryz.prog 93 #[.int .i64 (n : Nat), .int .i64 16] w fun e w' => e = .returned (strV (digitsL n)) ∧ Below w.heap.size w w' := by
  have hw : IntKind.u64.wrap ((n : Nat) : Int) = (n : Nat) := by rw [IntKind.wrap_u64]; omega
  have h0 : decide (((n : Nat) : Int) < 0) = false := decide_eq_false (by omega)
  go_enter Tryz.func93, Tryz.ntmps93
  go_wp2_with fail
  refine (formatBits_any n hn w hG).mono ?_
  rintro e w' ⟨rfl, hb⟩
  go_wp2
  go_ret
  exact ⟨rfl, hb⟩
theorem formatInt_any (n : Nat) (hn : n < 9223372036854775808) (w : World) {m : Int} (hG : FGlob w m) :
    Calls Tryz.prog 69 #[.int .i64 (n : Nat), .int .i64 16] w fun e w' => e = .returned (strV (digitsL n)) ∧ Below w.heap.size w w' := by
  go_enter Tryz.func69, Tryz.ntmps69
  go_wp2_with fail
  refine (formatInt_in n hn w hG).mono ?_
  rintro e w' ⟨rfl, hb⟩
  go_wp2
  go_ret
  exact ⟨rfl, hb⟩
end Go.Proofs.YtapbedefahbilaaGreatDoor
