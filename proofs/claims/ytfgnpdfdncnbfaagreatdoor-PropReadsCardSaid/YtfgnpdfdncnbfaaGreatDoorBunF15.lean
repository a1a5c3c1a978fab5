/- FormatInt at base 16. putCode: a number's code behind what there is. putLine: the line that says a record; Print. -/
import Derived.Test.YtfgnpdfdncnbfaaGreatDoorBunF7
import Derived.Laws.BitsLemmas
import Derived.Test.YtfgnpdfdncnbfaaGreatDoorBunF12
namespace Go.Proofs.YtfgnpdfdncnbfaaGreatDoor
open Go.RowKit Go.Shelf

def digB (d : Nat) : UInt8 := UInt8.ofNat (if d < 10 then 48 + d else 87 + d)
@[irreducible] def digitsL (u : Nat) : List UInt8 := if _h : u < 16 then [digB u] else digitsL (u / 16) ++ [digB (u % 16)]
termination_by u
decreasing_by omega
theorem digitsL_small {u : Nat} (h : u < 16) : digitsL u = [digB u] := by rw [digitsL, dif_pos h]
theorem digitsL_big {u : Nat} (h : 16 ≤ u) : digitsL u = digitsL (u / 16) ++ [digB (u % 16)] := by rw [digitsL, dif_neg (by omega)]

theorem isPow_any (w : World) : Calls Tryz.prog 180 #[.int .i64 16] w fun e w' => e = .returned (.bool true) ∧ w = w' := by
  go_enter Tryz.func180, Tryz.ntmps180
  go_wp2
  go_ret
  exact ⟨rfl, rfl⟩
theorem tz64_any (w : World) {m : Int} (hG : FGlob w m) : Calls Tryz.prog 201 #[.int .u64 16] w fun e w' => e = .returned (.int .i64 4) ∧ w = w' := by
  have htz := hG.tz
  go_enter Tryz.func201, Tryz.ntmps201
  have hoff : IntKind.u64.wrap (bits BinOp.and IntKind.u64 16 (IntKind.u64.wrap (-16)) * 285870213051353865) / 288230376151711744 = 15 := by decide +kernel
  go_wp2
  go_ret
  exact ⟨rfl, rfl⟩
theorem tz_any (w : World) {m : Int} (hG : FGlob w m) : Calls Tryz.prog 181 #[.int .u64 16] w fun e w' => e = .returned (.int .i64 4) ∧ w = w' := by
  go_enter Tryz.func181, Tryz.ntmps181
  go_wp2_with fail
  refine (tz64_any w hG).mono ?_
  rintro e w' ⟨rfl, rfl⟩
  go_wp2
  go_ret
  exact ⟨rfl, rfl⟩

theorem and_15 (q : Nat) (hq : q < 9223372036854775808) : bits BinOp.and IntKind.u64 (q : Nat) 15 = (q : Int) % 16 :=
  bits_mask .u64 63 (by decide) (fun n h0 h1 => by rw [IntKind.wrap_u64]; omega) 4 (by decide) (q : Int) (by omega) (by omega)
theorem dig_fin : ∀ q : Fin 16, (((⟨#[48, 49, 50, 51, 52, 53, 54, 55, 56, 57, 97, 98, 99, 100, 101, 102, 103, 104, 105, 106, 107, 108, 109, 110, 111, 112, 113, 114, 115, 116, 117, 118, 119, 120, 121, 122]⟩ : ByteArray)[q.val]'(Nat.lt_trans q.isLt (by decide))).toNat : Int) = ((digB q.val).toNat : Nat) := by decide
theorem dig_at {q : Nat} (h : q < 36) (h16 : q < 16) : (((⟨#[48, 49, 50, 51, 52, 53, 54, 55, 56, 57, 97, 98, 99, 100, 101, 102, 103, 104, 105, 106, 107, 108, 109, 110, 111, 112, 113, 114, 115, 116, 117, 118, 119, 120, 121, 122]⟩ : ByteArray)[q]'h).toNat : Int) = ((digB q).toNat : Nat) := dig_fin ⟨q, h16⟩
theorem pow_bound {q s n : Nat} (h : q * 16 ^ s ≤ n) (hq : 16 ≤ q) (hn : n < 9223372036854775808) : s + 1 ≤ 15 := by
  rcases Nat.lt_or_ge s 15 with h1 | h1
  · omega
  · have h2 : 16 ^ 15 ≤ 16 ^ s := Nat.pow_le_pow_right (by omega) h1
    have h3 : 16 * 16 ^ s ≤ q * 16 ^ s := Nat.mul_le_mul_right _ hq
    have h4 : (16 : Nat) ^ 15 = 1152921504606846976 := by decide
    omega
/-- One digit more ahead. -/
theorem drop_set {cs : Array Value} {i : Nat} {suf : List UInt8} {b : UInt8} (hsz : cs.size = 65) (hi : suf.length + i = 65) (h1 : 1 ≤ i) (hd : cs.toList.drop i = suf.map fun b => (.int .u8 (b.toNat : Nat) : Value)) :
    (cs.setIfInBounds (i - 1) (.int .u8 (b.toNat : Nat))).toList.drop (i - 1) = (b :: suf).map fun b => (.int .u8 (b.toNat : Nat) : Value) := by
  rw [Array.toList_setIfInBounds, List.drop_eq_getElem_cons (by simp; omega)]
  simp only [List.getElem_set_self, List.map_cons]
  rw [List.drop_set_of_lt (by omega), show i - 1 + 1 = i from by omega, hd]

theorem string_at {g j : Nat} {w : World} {cs : Array Value} {t : TypeId} {l : List UInt8} (hrow : w.heap[g]? = some (.cells cs t (0, 0))) (hd : cs.toList.drop j = l.map fun b => (.int .u8 (b.toNat : Nat) : Value)) (n cap : Nat) (hn : n = l.length) :
    (convert 134 9 (.slice (some ⟨g, j, none⟩) n cap)).run Tryz.prog w = .ok (.string ⟨l.toArray⟩) w := by
  subst hn
  refine run_convert_bytes_back _ 134 9 5 ⟨g, j, none⟩ cap l Tryz.underlying134 Tryz.underlying5 Tryz.underlying9 (fun k hk => ?_)
  have hadd : (⟨g, j, none⟩ : Addr).add k = ⟨g, j + k, none⟩ := by unfold Addr.add; split <;> simp_all
  rw [hadd, cell_of_row _ _ (j + k) _ _ _ hrow]
  have h1 : (cs.toList.drop j)[k]? = (l.map fun b => (.int .u8 (b.toNat : Nat) : Value))[k]? := by rw [hd]
  rw [List.getElem?_drop, Array.getElem?_toList] at h1
  rw [h1]
  simp [List.getElem?_eq_getElem hk]
abbrev digC (l : List UInt8) : List Value := l.map fun b => .int .u8 (b.toNat : Nat)
set_option maxRecDepth 100000 in
set_option maxHeartbeats 2000000 in
theorem formatBits_any (n : Nat) (hn : n < 9223372036854775808) (w : World) {m : Int} (hG : FGlob w m) :
    Calls Tryz.prog 159 #[.slice none 0 0, .int .u64 (n : Nat), .int .i64 16, .bool false, .bool false] w fun e w' => e = .returned (.tuple #[.slice none 0 0, strV (digitsL n)]) ∧ Below w.heap.size w w' := by
  go_enter Tryz.func159, Tryz.ntmps159
  go_wp2_with fail
  refine (isPow_any _).mono ?_
  rintro e w1 ⟨rfl, rfl⟩
  have hG1 := hG.below ((Below.refl w.heap.size w).alloc (Nat.le_refl _) (.cells Tryz.zeroCells263 263))
  go_wp2_with fail
  refine (tz_any _ hG1).mono ?_
  rintro e w1 ⟨rfl, rfl⟩
  have hz : Tryz.zeroCells263.size = 65 := by kernel_rfl
  go_wp2_with fail
  go_loopg [1, 13] n (fun k v1 v13 wr => ∃ (q i : Nat) (cs : Array Value) (suf : List UInt8), v1 = .int .u64 (q : Nat) ∧ v13 = .int .i64 (i : Nat) ∧ k = q ∧ suf.length + i = 65 ∧ suf.length ≤ 15 ∧ q * 16 ^ suf.length ≤ n ∧ Hid (digitsL n = digitsL q ++ suf) ∧
    wr.heap[w.heap.size]? = some (.cells cs 263 (0, 0)) ∧ cs.size = 65 ∧ Hid (cs.toList.drop i = digC suf) ∧ Below w.heap.size w wr)
  case atStart => exact ⟨n, 65, _, [], rfl, rfl, rfl, rfl, by simp, by simp, Lib.hid (by simp), heap_alloc_new _ _, hz, Lib.hid (by rw [List.drop_eq_nil_of_le (by simp [hz])]; rfl), (Below.refl _ _).alloc (Nat.le_refl _) _⟩
  case round =>
    obtain ⟨q, i, cs, suf, rfl, rfl, hq, hi, hs15, hle, hd, hrow, hsz, hdrop, hb⟩ := hrel
    obtain ⟨j, rfl⟩ : ∃ j, i = j + 1 := ⟨i - 1, by omega⟩
    have hj : j < 65 := by omega
    have hji : (0 : Int) ≤ (j : Nat) ∧ (j : Int) < 65 := by omega
    have hjl : (j : Int) ≤ 65 := by omega
    have hjne : ¬ 65 = j := by omega
    have hcell : wr.cell? ⟨w.heap.size, j, none⟩ = some (cs.getD j undef) := by
      rw [cell_of_row _ _ j _ _ _ hrow, Array.getElem?_eq_getElem (by omega)]
      simp [Array.getD]
      omega
    have hfr : wr.frozen? ⟨w.heap.size, j, none⟩ = false := frozen_of_row _ _ _ _ _ hrow
    have hq63 : q < 9223372036854775808 := Nat.lt_of_le_of_lt (Nat.le_trans (Nat.le_mul_of_pos_right q (Nat.pow_pos (by omega) : 0 < 16 ^ suf.length)) hle) hn
    rcases Nat.lt_or_ge q 16 with hlt | hge
    · have h16 : decide ((16 : Int) ≤ (q : Nat)) = false := decide_eq_false (by omega)
      have hq36 : (0 : Int) ≤ (q : Nat) ∧ (q : Int) < 36 := by omega
      have hfin : digitsL n = digB q :: suf := by rw [hd.out, digitsL_small hlt]; rfl
      have hcv : (convert 134 9 (.slice (some ⟨w.heap.size, j, none⟩) (65 - j) (65 - j))).run Tryz.prog (wr.setCell ⟨w.heap.size, j, none⟩ (.int .u8 (((⟨#[48, 49, 50, 51, 52, 53, 54, 55, 56, 57, 97, 98, 99, 100, 101, 102, 103, 104, 105, 106, 107, 108, 109, 110, 111, 112, 113, 114, 115, 116, 117, 118, 119, 120, 121, 122]⟩ : ByteArray)[q]'(show q < 36 by omega)).toNat : Nat))) = .ok (.string ⟨(digB q :: suf).toArray⟩) (wr.setCell ⟨w.heap.size, j, none⟩ (.int .u8 (((⟨#[48, 49, 50, 51, 52, 53, 54, 55, 56, 57, 97, 98, 99, 100, 101, 102, 103, 104, 105, 106, 107, 108, 109, 110, 111, 112, 113, 114, 115, 116, 117, 118, 119, 120, 121, 122]⟩ : ByteArray)[q]'(show q < 36 by omega)).toNat : Nat))) := by
        rw [dig_at (by omega) hlt]
        refine string_at (set_heap _ hrow) (drop_set hsz hi (by omega) hdrop.out) _ _ ?_
        simp; omega
      have HF := Lib.hid hfin
      clear hfin hd hdrop hle
      go_wp2
      go_ret2
      exact ⟨by rw [HF.out]; rfl, hb.setCell (by simp) _⟩
    · have h16 : (16 : Int) ≤ (q : Nat) := by omega
      have hbits := and_15 q hq63
      have hm := Nat.mod_lt q (show 0 < 16 by omega)
      have h36 : (0 : Int) ≤ (q : Int) % 16 ∧ (q : Int) % 16 < 36 := by omega
      have hs1 := pow_bound hle hge hn
      have HD := Lib.hid hd.out
      have HDR := Lib.hid hdrop.out
      clear hd hdrop
      go_wp2
      rw [dig_at _ (by omega)]
      go_roundg (q / 16)
      case measure => omega
      case rel =>
        refine ⟨q / 16, j, _, digB (q % 16) :: suf, rfl, by simp, rfl, by simp; omega, by simp; omega, ?_, Lib.hid ?_, set_heap _ hrow, by simp [hsz], Lib.hid (drop_set hsz hi (by omega) HDR.out), hb.setCell (by simp) _⟩
        · rw [List.length_cons, Nat.pow_succ]
          have h1 : q / 16 * 16 ≤ q := Nat.div_mul_le_self q 16
          have h2 := Nat.mul_le_mul_right (16 ^ suf.length) h1
          rw [Nat.mul_assoc, Nat.mul_comm 16] at h2
          omega
        · rw [HD.out, digitsL_big hge]; simp
theorem formatInt_in (n : Nat) (hn : n < 9223372036854775808) (w : World) {m : Int} (hG : FGlob w m) :
    Calls Tryz.prog 128 #[.int .i64 (n : Nat), .int .i64 16] w fun e w' => e = .returned (strV (digitsL n)) ∧ Below w.heap.size w w' := by
  have hw : IntKind.u64.wrap ((n : Nat) : Int) = (n : Nat) := by rw [IntKind.wrap_u64]; omega
  have h0 : decide (((n : Nat) : Int) < 0) = false := decide_eq_false (by omega)
  go_enter Tryz.func128, Tryz.ntmps128
  go_wp2_with fail
  refine (formatBits_any n hn w hG).mono ?_
  rintro e w' ⟨rfl, hb⟩
  go_wp2
  go_ret
  exact ⟨rfl, hb⟩
theorem formatInt_any (n : Nat) (hn : n < 9223372036854775808) (w : World) {m : Int} (hG : FGlob w m) :
    Calls Tryz.prog 112 #[.int .i64 (n : Nat), .int .i64 16] w fun e w' => e = .returned (strV (digitsL n)) ∧ Below w.heap.size w w' := by
  go_enter Tryz.func112, Tryz.ntmps112
  go_wp2_with fail
  refine (formatInt_in n hn w hG).mono ?_
  rintro e w' ⟨rfl, hb⟩
  go_wp2
  go_ret
  exact ⟨rfl, hb⟩
end Go.Proofs.YtfgnpdfdncnbfaaGreatDoor

namespace Go.Proofs.YtfgnpdfdncnbfaaGreatDoor
open Go.RowKit Go.Shelf
attribute [local go_sem ↓] app_hide

/-- No block has turned but rows of bytes. -/
def KeepB (w w' : World) : Prop := Moves (fun k => ∃ c fr, w.heap[k]? = some (.cells c 5 fr)) w w'
theorem KeepB.trans {a b c : World} (h : KeepB a b) (k : KeepB b c) : KeepB a c := by
  refine ⟨k.os.trans h.os, k.tape.trans h.tape, k.output.trans h.output, Nat.le_trans h.size k.size, fun j hj hn => ?_⟩
  have h1 := h.block j hj hn
  refine (k.block j (Nat.lt_of_lt_of_le hj h.size) fun hx => hn ?_).trans h1
  obtain ⟨c, fr, hx⟩ := hx
  exact ⟨c, fr, h1.symm.trans hx⟩
theorem KeepB.below {w w' : World} (h : Below w.heap.size w w') : KeepB w w' := Moves.of_below h
theorem KeepB.grown {w w' : World} {base n : Nat} {v : Value} {xs : List Value} (ho : w.ownsRow base 5 1 v n xs) (h : w.grownBy w' v.ownBlock) : KeepB w w' :=
  ⟨h.os, h.tape, h.output, h.size, fun j hj hn => h.block j hj fun e => hn (own_block_lt ho e.symm).2.2⟩
theorem KeepB.row {w w' : World} {k : Nat} {c : Array Value} {t : TypeId} {fr : Nat × Nat} (h : KeepB w w') (hr : w.heap[k]? = some (.cells c t fr)) (ht : t ≠ 5) : w'.heap[k]? = some (.cells c t fr) :=
  row_keep hr h (by rintro ⟨c', fr', hx⟩; rw [hr] at hx; cases hx; exact ht rfl)
theorem byte_own {W : World} {base k : Nat} {v : Value} {xs : List Value} (c : UInt8) (ho : W.ownsRow base 5 1 v k xs) (hk : k ≤ 1000000000) (hbase : base ≤ W.heap.size) :
    ∃ o cap w6, (appSem #[134, 134] 134 #[v, .slice (some ⟨W.heap.size, 0, none⟩) 1 1]).run Tryz.prog (W.alloc (.cells #[.int .u8 (c.toNat : Nat)] 5)) = .ok (.slice o (k + 1) cap) w6 ∧
      w6.ownsRow base 5 1 (.slice o (k + 1) cap) (k + 1) (xs ++ byteCells [c]) ∧ Below base W w6 ∧ KeepB W w6 := by
  obtain ⟨i0, hi, hz0, hz1, hz2⟩ := info_parts infoByte
  have hb : Below W.heap.size W (W.alloc (.cells #[.int .u8 (c.toNat : Nat)] 5)) := (Below.refl _ _).alloc (Nat.le_refl _) _
  obtain ⟨v', w6, hr, h2, h3, h4⟩ := run_append_own (P := Tryz.prog) _ base 134 134 5 i0 (.int .u8 0) 1 1 Tryz.underlying134 hi hz0 hz1 hz2 rfl (by decide) v k xs (own_below ho hb) ⟨W.heap.size, 0, none⟩ 1 1 [.int .u8 (c.toNat : Nat)] rfl
    (cell_one_new _ _ _) (by simp [Value.oneCell']) (by unfold maxLen; omega) (by omega) (by simp; omega)
  obtain ⟨o, cap, rfl⟩ := own_form h2
  exact ⟨o, cap, w6, hr, h2, Below.grown (hb.mono hbase) h3 (by have := hb.size; omega) (fun g hg => own_ge ho hg), (KeepB.below hb).trans (KeepB.grown (own_below ho hb) h3)⟩
theorem text_own {W : World} {base k : Nat} {v : Value} {xs : List Value} (s : ByteArray) (ho : W.ownsRow base 5 1 v k xs) (hk : k + s.size ≤ 1000000000) (hbase : base ≤ W.heap.size) :
    ∃ o cap w6, (appSem #[134, 9] 134 #[v, .string s]).run Tryz.prog W = .ok (.slice o (k + s.size) cap) w6 ∧
      w6.ownsRow base 5 1 (.slice o (k + s.size) cap) (k + s.size) (xs ++ byteCells s.data.toList) ∧ Below base W w6 ∧ KeepB W w6 := by
  obtain ⟨i0, hi, hz0, hz1, hz2⟩ := info_parts infoByte
  obtain ⟨v', w6, hr, h2, h3, h4⟩ := Lib.run_append_own_string (P := Tryz.prog) W base 134 9 134 5 i0 Tryz.underlying134 Tryz.underlying9 hi hz0 hz1 hz2 v k xs ho s (by unfold maxLen; omega) (by omega) hbase
  obtain ⟨o, cap, rfl⟩ := own_form h2
  exact ⟨o, cap, w6, hr, h2, Below.grown (Below.refl _ _) h3 hbase (fun g hg => own_ge ho hg), KeepB.grown ho h3⟩

/-- The digits of a number not below 0, four at least. -/
def padL (l : List UInt8) : List UInt8 := List.replicate (4 - l.length) 48 ++ l
def upL (m : Nat) : List UInt8 := Lib.toUpperA (digitsL m)
def magN (n : Int) : Nat := if n = -9223372036854775808 then 0 else n.natAbs
def putL (n : Int) : List UInt8 := (if n < 0 then [45] else []) ++ padL (upL (magN n))
theorem digits_len : ∀ (s m : Nat), m < 16 ^ s → 1 ≤ (digitsL m).length ∧ (digitsL m).length ≤ max 1 s
  | 0, m, h => by
    have : m = 0 := by simpa using h
    rw [digitsL_small (by omega)]
    simp
  | s + 1, m, h => by
    rcases Nat.lt_or_ge m 16 with h1 | h1
    · rw [digitsL_small h1]; simp
    · rw [digitsL_big h1, List.length_append, List.length_singleton]
      have h2 : m / 16 < 16 ^ s := by rw [Nat.pow_succ] at h; omega
      have hs : 1 ≤ s := by
        cases s with
        | zero => simp at h; omega
        | succ s => omega
      have := digits_len s (m / 16) h2
      omega
theorem up_len {m : Nat} (h : m < 9223372036854775808) : 1 ≤ (upL m).length ∧ (upL m).length ≤ 16 := by
  unfold upL Lib.toUpperA
  rw [List.length_map]
  have h1 : (9223372036854775808 : Nat) ≤ 16 ^ 16 := by decide
  have := digits_len 16 m (by omega)
  omega
theorem digB_ascii {d : Nat} (h : d < 16) : (digB d).toNat < 128 := by
  have : ∀ q : Fin 16, (digB q.val).toNat < 128 := by decide
  exact this ⟨d, h⟩
theorem digits_ascii : ∀ (s m : Nat), m ≤ s → ∀ b ∈ digitsL m, b.toNat < 128
  | 0, m, h, b, hb => by
    rw [digitsL_small (by omega)] at hb
    rw [List.mem_singleton.1 hb]
    exact digB_ascii (by omega)
  | s + 1, m, h, b, hb => by
    rcases Nat.lt_or_ge m 16 with h1 | h1
    · rw [digitsL_small h1] at hb
      rw [List.mem_singleton.1 hb]
      exact digB_ascii h1
    · rw [digitsL_big h1] at hb
      rcases List.mem_append.1 hb with hb | hb
      · exact digits_ascii s (m / 16) (by omega) b hb
      · rw [List.mem_singleton.1 hb]
        exact digB_ascii (by omega)
theorem upper_any (m : Nat) (h : m < 9223372036854775808) (w : World) : Calls Tryz.prog 111 #[strV (digitsL m)] w fun e w' => e = .returned (strV (upL m)) ∧ Below w.heap.size w w' := by
  have hl := digits_len 16 m (by have h1 : (9223372036854775808 : Nat) ≤ 16 ^ 16 := by decide
                                 omega)
  exact Tryz.strings_ToUpper_ascii ⟨(digitsL m).toArray⟩ w (by show (digitsL m).toArray.size ≤ _; rw [List.size_toArray]; omega) (fun j b hj => digits_ascii m m (Nat.le_refl _) b (List.mem_of_getElem? hj))
theorem unsigned_any (n : Int) (h : n < 0) (h2 : -9223372036854775808 ≤ n) (w : World) : Calls Tryz.prog 110 #[.int .i64 n] w fun e w' => e = .returned (.int .i64 (magN n : Nat)) ∧ w = w' := by
  by_cases hm : n = -9223372036854775808
  · subst hm
    go_enter Tryz.func110, Tryz.ntmps110
    go_wp2
    go_ret
    exact ⟨rfl, rfl⟩
  · have hb : (n == -9223372036854775808) = false := by simp [hm]
    have hw : IntKind.i64.wrap (-n) = -n := by rw [IntKind.wrap_i64]; omega
    have hv : ((magN n : Nat) : Int) = -n := by unfold magN; rw [if_neg hm]; omega
    have HV := Lib.hid hv
    clear hv
    go_enter Tryz.func110, Tryz.ntmps110
    go_wp2
    go_ret
    exact ⟨by rw [HV.out]; rfl, rfl⟩

/-- A function that lays a text behind what there is. -/
def Puts (K : Nat) (f : Nat) (args : Array Value) (l : List UInt8) (w : World) : Prop :=
  ∀ (W : World) (base k : Nat) (v : Value) (xs : List Value), Below w.heap.size w W → W.ownsRow base 5 1 v k xs → base ≤ W.heap.size → w.heap.size ≤ base → k ≤ K →
    Calls Tryz.prog f (#[v] ++ args) W fun e W' => ∃ v', e = .returned v' ∧ W'.ownsRow base 5 1 v' (k + l.length) (xs ++ byteCells l) ∧ Below base W W' ∧ KeepB W W'
theorem pad_loop_cells (j : Nat) : byteCells (List.replicate j 48) ++ byteCells [48] = byteCells (List.replicate (j + 1) 48) := by
  unfold byteCells
  rw [← List.map_append, List.replicate_succ']
set_option maxRecDepth 100000 in
set_option maxHeartbeats 2000000 in
theorem putCode_pos (n : Nat) (hn : n < 9223372036854775808) (w : World) {m : Int} (hG : FGlob w m) : Puts 100000000 98 #[.int .i64 (n : Nat)] (padL (upL n)) w := by
  intro W base k v xs hB ho hbase hwb hk
  have hl := up_len hn
  have hneg : decide (((n : Nat) : Int) < 0) = false := decide_eq_false (by omega)
  have HGW := Lib.hid (hG.below hB)
  have HO := Lib.hid ho
  obtain ⟨o, cap, rfl⟩ := own_form ho
  clear hG ho hB
  go_enter Tryz.func98, Tryz.ntmps98
  go_wp2_with fail
  refine (formatInt_any n hn W HGW.out).mono ?_
  rintro e w1 ⟨rfl, b1⟩
  go_wp2_with fail
  refine (upper_any n hn w1).mono ?_
  rintro e w2 ⟨rfl, b2⟩
  have BW := b1.trans (b2.mono b1.size)
  have ho2 := own_below HO.out BW
  have hz2 := BW.size
  obtain ⟨U, hU⟩ : ∃ U : ByteArray, (⟨(upL n).toArray⟩ : ByteArray) = U := ⟨_, rfl⟩
  have hUs : U.size = (upL n).length := by rw [← hU]; show (upL n).toArray.size = _; simp
  have hUl : U.data.toList = upL n := by rw [← hU]
  have hsv : strV (upL n) = .string U := by rw [← hU]
  rw [hsv]
  rw [← hUs] at hl
  have HU := Lib.hid hUl
  have HUS := Lib.hid hUs
  have B2 : Hid (Below base W w2 ∧ KeepB W w2) := Lib.hid ⟨BW.mono hbase, KeepB.below BW⟩
  clear hU hUs hUl hsv b1 b2 BW
  go_wp2_with fail
  go_loopg [0, 19] (4 - U.size) (fun c v0 v19 wr => ∃ j : Nat, v19 = .int .i64 (j : Nat) ∧ j ≤ 4 - U.size ∧ c = 4 - U.size - j ∧ wr.ownsRow base 5 1 v0 (k + j) (xs ++ byteCells (List.replicate j 48)) ∧ Hid (Below base W wr ∧ KeepB W wr))
  case atStart => exact ⟨0, rfl, Nat.zero_le _, rfl, by simpa [byteCells] using ho2, B2⟩
  case round =>
    obtain ⟨j, rfl, hj, rfl, hor, hbr⟩ := hrel
    have hzr := hbr.out.1.size
    rcases Nat.lt_or_ge j (4 - U.size) with hlt | hge
    · have hd : decide (((j : Nat) : Int) < 4 - (U.size : Nat)) = true := decide_eq_true (by omega)
      obtain ⟨o', cap', w6, hrun, hown', hb6⟩ := byte_own 48 hor (by omega) (by omega)
      rw [show (((48 : UInt8).toNat : Nat) : Int) = 48 from rfl] at hrun
      have HOWN := Lib.hid hown'
      have HB6 := Lib.hid hb6
      obtain ⟨o, cap, rfl⟩ := own_form hor
      clear hown' hb6 hor
      go_wp2
      go_roundg (4 - U.size - (j + 1))
      case measure => omega
      case rel =>
        refine ⟨j + 1, by simp, by omega, rfl, ?_, Lib.hid ⟨hbr.out.1.trans HB6.out.1, hbr.out.2.trans HB6.out.2⟩⟩
        have := HOWN.out
        rw [List.append_assoc, pad_loop_cells] at this
        exact this
    · have hd : decide (((j : Nat) : Int) < 4 - (U.size : Nat)) = false := decide_eq_false (by omega)
      obtain rfl : j = 4 - U.size := by omega
      obtain ⟨o', cap', w6, hrun, hown', hb6⟩ := text_own U hor (by omega) (by omega)
      have HOWN := Lib.hid hown'
      have HB6 := Lib.hid hb6
      obtain ⟨o, cap, rfl⟩ := own_form hor
      clear hown' hb6 hor
      go_wp2
      go_ret
      refine ⟨_, rfl, ?_, hbr.out.1.trans HB6.out.1, hbr.out.2.trans HB6.out.2⟩
      have h := HOWN.out
      have e1 : (padL (upL n)).length = 4 - U.size + U.size := by unfold padL; rw [HUS.out]; simp
      have e2 : byteCells (padL (upL n)) = byteCells (List.replicate (4 - U.size) 48) ++ byteCells U.data.toList := by unfold padL byteCells; rw [HU.out, HUS.out, List.map_append]
      rw [e1, e2, ← Nat.add_assoc, ← List.append_assoc]
      exact h
set_option maxRecDepth 100000 in
set_option maxHeartbeats 2000000 in
theorem putCode_neg (z : Int) (hz0 : z < 0) (hz1 : -9223372036854775808 ≤ z) (w : World) {m : Int} (hG : FGlob w m) : Puts 100000000 98 #[.int .i64 z] (45 :: padL (upL (magN z))) w := by
  intro W base k0 v xs0 hB ho hbase hwb hk0
  obtain ⟨n, hn0⟩ : ∃ n, magN z = n := ⟨_, rfl⟩
  have hn : n < 9223372036854775808 := by rw [← hn0]; unfold magN; split <;> omega
  have huns := unsigned_any z hz0 hz1
  rw [hn0] at huns ⊢
  have HUNS := Lib.hid huns
  have hl := up_len hn
  have hneg : decide (z < 0) = true := decide_eq_true hz0
  obtain ⟨o1, cap1, wA, hrunA, howA, hbA⟩ := byte_own 45 ho (by omega) hbase
  rw [show (((45 : UInt8).toNat : Nat) : Int) = 45 from rfl] at hrunA
  obtain ⟨k, hk⟩ : ∃ k, k0 + 1 = k := ⟨_, rfl⟩
  obtain ⟨xs, hxs⟩ : ∃ xs, xs0 ++ byteCells [45] = xs := ⟨_, rfl⟩
  rw [hk] at hrunA howA
  rw [hxs] at howA
  have HBA := Lib.hid hbA
  have hzA := hbA.1.size
  have HGA := Lib.hid (hG.below (hB.trans (hbA.1.mono hwb)))
  have HO := Lib.hid howA
  obtain ⟨o, cap, rfl⟩ := own_form ho
  clear hG ho hB howA hbA huns hn0
  go_enter Tryz.func98, Tryz.ntmps98
  go_wp2_with fail
  refine (HUNS.out wA).mono ?_
  rintro e wB ⟨rfl, rfl⟩
  go_wp2_with fail
  refine (formatInt_any n hn wA HGA.out).mono ?_
  rintro e w1 ⟨rfl, b1⟩
  go_wp2_with fail
  refine (upper_any n hn w1).mono ?_
  rintro e w2 ⟨rfl, b2⟩
  have BW := b1.trans (b2.mono b1.size)
  have ho2 := own_below HO.out BW
  have hz2 : W.heap.size ≤ w2.heap.size := by have := BW.size; omega
  obtain ⟨U, hU⟩ : ∃ U : ByteArray, (⟨(upL n).toArray⟩ : ByteArray) = U := ⟨_, rfl⟩
  have hUs : U.size = (upL n).length := by rw [← hU]; show (upL n).toArray.size = _; simp
  have hUl : U.data.toList = upL n := by rw [← hU]
  have hsv : strV (upL n) = .string U := by rw [← hU]
  rw [hsv]
  rw [← hUs] at hl
  have HU := Lib.hid hUl
  have HUS := Lib.hid hUs
  have B2 : Hid (Below base W w2 ∧ KeepB W w2) := Lib.hid ⟨HBA.out.1.trans (BW.mono (by omega)), HBA.out.2.trans (KeepB.below BW)⟩
  clear hU hUs hUl hsv b1 b2 BW
  go_wp2_with fail
  go_loopg [0, 19] (4 - U.size) (fun c v0 v19 wr => ∃ j : Nat, v19 = .int .i64 (j : Nat) ∧ j ≤ 4 - U.size ∧ c = 4 - U.size - j ∧ wr.ownsRow base 5 1 v0 (k + j) (xs ++ byteCells (List.replicate j 48)) ∧ Hid (Below base W wr ∧ KeepB W wr))
  case atStart => exact ⟨0, rfl, Nat.zero_le _, rfl, by simpa [byteCells] using ho2, B2⟩
  case round =>
    obtain ⟨j, rfl, hj, rfl, hor, hbr⟩ := hrel
    have hzr := hbr.out.1.size
    rcases Nat.lt_or_ge j (4 - U.size) with hlt | hge
    · have hd : decide (((j : Nat) : Int) < 4 - (U.size : Nat)) = true := decide_eq_true (by omega)
      obtain ⟨o', cap', w6, hrun, hown', hb6⟩ := byte_own 48 hor (by omega) (by omega)
      rw [show (((48 : UInt8).toNat : Nat) : Int) = 48 from rfl] at hrun
      have HOWN := Lib.hid hown'
      have HB6 := Lib.hid hb6
      obtain ⟨o, cap, rfl⟩ := own_form hor
      clear hown' hb6 hor
      go_wp2
      go_roundg (4 - U.size - (j + 1))
      case measure => omega
      case rel =>
        refine ⟨j + 1, by simp, by omega, rfl, ?_, Lib.hid ⟨hbr.out.1.trans HB6.out.1, hbr.out.2.trans HB6.out.2⟩⟩
        have := HOWN.out
        rw [List.append_assoc, pad_loop_cells] at this
        exact this
    · have hd : decide (((j : Nat) : Int) < 4 - (U.size : Nat)) = false := decide_eq_false (by omega)
      obtain rfl : j = 4 - U.size := by omega
      obtain ⟨o', cap', w6, hrun, hown', hb6⟩ := text_own U hor (by omega) (by omega)
      have HOWN := Lib.hid hown'
      have HB6 := Lib.hid hb6
      obtain ⟨o, cap, rfl⟩ := own_form hor
      clear hown' hb6 hor
      go_wp2
      go_ret
      refine ⟨_, rfl, ?_, hbr.out.1.trans HB6.out.1, hbr.out.2.trans HB6.out.2⟩
      have h := HOWN.out
      have e1 : (padL (upL n)).length = 4 - U.size + U.size := by unfold padL; rw [HUS.out]; simp
      have e3 : k0 + ((padL (upL n)).length + 1) = k + (4 - U.size) + U.size := by omega
      have e2 : xs0 ++ byteCells (45 :: padL (upL n)) = xs ++ byteCells (List.replicate (4 - U.size) 48) ++ byteCells U.data.toList := by
        rw [← hxs]; unfold padL byteCells; rw [HU.out, HUS.out, List.map_cons, List.map_append, List.append_assoc, List.append_assoc]; rfl
      show w6.ownsRow base 5 1 _ (k0 + ((padL (upL n)).length + 1)) _
      rw [e3, e2]
      exact h
theorem putL_len {n : Int} (h : In64 n) : (putL n).length ≤ 1000 := by
  unfold In64 at h
  have e63 : (2 : Int) ^ 63 = 9223372036854775808 := by decide
  rw [e63] at h
  have hm : magN n < 9223372036854775808 := by unfold magN; split <;> omega
  have hu := up_len hm
  unfold putL padL
  split <;> simp <;> omega
theorem putCode_any (n : Int) (h : In64 n) (w : World) {m : Int} (hG : FGlob w m) : Puts 100000000 98 #[.int .i64 n] (putL n) w := by
  have hb := h
  unfold In64 at hb
  have e63 : (2 : Int) ^ 63 = 9223372036854775808 := by decide
  rw [e63] at hb
  unfold putL
  by_cases hn : n < 0
  · rw [if_pos hn]
    show Puts _ _ _ (45 :: padL (upL (magN n))) w
    exact putCode_neg n hn hb.1 w hG
  · rw [if_neg hn, List.nil_append]
    obtain ⟨k, rfl⟩ := Int.eq_ofNat_of_zero_le (by omega : 0 ≤ n)
    have hm : magN (k : Nat) = k := by unfold magN; rw [if_neg (by omega)]; omega
    rw [hm]
    exact putCode_pos k (by omega) w hG
end Go.Proofs.YtfgnpdfdncnbfaaGreatDoor

namespace Go.Proofs.YtfgnpdfdncnbfaaGreatDoor
open Go.RowKit Go.Shelf
attribute [local go_sem ↓] app_hide

def flatB (fs : List ByteArray) : List UInt8 := fs.flatMap fun f => 59 :: f.data.toList
def headB (a b : Int) : List UInt8 := putL a ++ (if b = a then [] else [46, 46] ++ putL b)
def lineB (a b : Int) (fs : List ByteArray) : List UInt8 := headB a b ++ flatB fs ++ [10]
theorem flat_take {fs : List ByteArray} {j : Nat} (h : j < fs.length) : flatB (fs.take (j + 1)) = flatB (fs.take j) ++ 59 :: (fs.getD j ByteArray.empty).data.toList := by
  unfold flatB
  rw [take_snoc' fs h, List.flatMap_append, List.getD_eq_getElem?_getD, List.getElem?_eq_getElem h]
  simp
theorem flat_le (fs : List ByteArray) (j : Nat) : (flatB (fs.take j)).length ≤ (flatB fs).length := by
  have h : flatB fs = flatB (fs.take j) ++ flatB (fs.drop j) := by unfold flatB; rw [← List.flatMap_append, List.take_append_drop]
  rw [h, List.length_append]
  omega
theorem flat_count : ∀ fs : List ByteArray, fs.length ≤ (flatB fs).length
  | [] => by simp
  | f :: r => by
    have := flat_count r
    unfold flatB at *
    rw [List.flatMap_cons, List.length_append, List.length_cons, List.length_cons]
    omega
/-- Where a record's fields stand. -/
def FieldsAt (w : World) (o : Option Addr) (fs : List ByteArray) : Prop := ∀ j, j < fs.length → ∃ ad, o = some ad ∧ w.cell? (ad.add j) = some (.string (fs.getD j ByteArray.empty))

set_option maxRecDepth 100000 in
set_option maxHeartbeats 4000000 in
theorem putLine_any (line a b : Int) (ha : In64 a) (hb : In64 b) (o : Option Addr) (fs : List ByteArray) (cap : Nat) (w : World) {m : Int} (hG : FGlob w m) (hF : FieldsAt w o fs) (hT : (flatB fs).length ≤ 1000000) :
    Puts 50000000 79 #[recV line a b (.slice o fs.length cap)] (lineB a b fs) w := by
  intro W base k v xs hB ho hbase hwb hk
  have A0 : Below W.heap.size W (W.alloc (recO line a b (.slice o fs.length cap))) := (Below.refl _ _).alloc (Nat.le_refl _) _
  have r0 : (W.alloc (recO line a b (.slice o fs.length cap))).heap[W.heap.size]? = some (recO line a b (.slice o fs.length cap)) := heap_alloc_new _ _
  have hp1 := putCode_any a ha w hG _ base k v xs (hB.trans (A0.mono hB.size)) (own_below ho A0) (by have := A0.size; omega) hwb (by omega)
  have HP1 := Lib.hid hp1
  have HP2 := Lib.hid (putCode_any b hb w hG)
  have R0 := Lib.hid r0
  have HA := Lib.hid A0
  obtain ⟨k0, k1, k2, k3, k4⟩ := rec_cells r0
  have hlp1 : (putL a).length ≤ 1000 := putL_len ha
  have hlp2 : (putL b).length ≤ 1000 := putL_len hb
  obtain ⟨ov, capv, rfl⟩ := own_form ho
  replace hB := Lib.hid hB
  have hbe : W.heap.size < (W.alloc (recO line a b (.slice o fs.length cap))).heap.size := by simp
  clear hp1 r0 A0 ho hG
  go_enter Tryz.func79, Tryz.ntmps79
  go_wp2_with fail
  refine HP1.out.mono ?_
  rintro e w1 ⟨v1, rfl, ho1, b1, kb1⟩
  have r1 := kb1.row R0.out (by decide)
  have BK1 : Hid (Below base W w1 ∧ KeepB W w1) := Lib.hid ⟨(HA.out.mono hbase).trans b1, (KeepB.below HA.out).trans kb1⟩
  have hz1 := BK1.out.1.size
  clear b1 kb1 k0 k1 k2 k3 k4
  obtain ⟨d0, d1, d2, d3, d4⟩ := rec_cells r1
  by_cases hab : b = a
  · subst hab
    obtain ⟨k2, hk2⟩ : ∃ k2, k + (putL b).length = k2 := ⟨_, rfl⟩
    obtain ⟨xs2, hxs2⟩ : ∃ xs2, xs ++ byteCells (putL b) = xs2 := ⟨_, rfl⟩
    rw [hk2, hxs2] at ho1
    have ho2 := ho1
    have BK := BK1
    have r2 := r1
    clear d0 d1 d2 d3 d4
    have HLEN : Hid (k + (lineB b b fs).length = k2 + (flatB fs).length + 1) := Lib.hid (by unfold lineB headB; simp; omega)
    have HCEL : Hid (xs ++ byteCells (lineB b b fs) = xs2 ++ byteCells (flatB fs) ++ byteCells (⟨#[10]⟩ : ByteArray).data.toList) := Lib.hid (by rw [← hxs2]; unfold lineB headB byteCells; simp)
    obtain ⟨c0, c1, c2, c3, c4⟩ := rec_cells r2
    have HB2 := Lib.hid r2
    clear r2
    go_wp2_with fail
    go_loopg [0, 25] (fs.length) (fun c v0 v25 wr => ∃ j : Nat, v25 = .int .i64 (j : Nat) ∧ j ≤ fs.length ∧ c = fs.length - j ∧ Hid (wr.ownsRow base 5 1 v0 (k2 + (flatB (fs.take j)).length) (xs2 ++ byteCells (flatB (fs.take j)))) ∧ Hid (Below base W wr ∧ KeepB W wr))
    case atStart => exact ⟨0, rfl, Nat.zero_le _, rfl, Lib.hid (by simpa [byteCells, flatB] using ho2), BK⟩
    case round =>
      obtain ⟨j, rfl, hj, rfl, hor, hbr⟩ := hrel
      have hzr := hbr.out.1.size
      have hle := flat_le fs j
      obtain ⟨K, hK⟩ : ∃ K, k2 + (flatB (fs.take j)).length = K := ⟨_, rfl⟩
      rw [hK] at hor
      rcases Nat.lt_or_ge j fs.length with hlt | hge
      · have hj1 : j < 1000000 := by have := flat_count fs; omega
        obtain ⟨ad, hoad, hcw⟩ := hF j hlt
        have hcell := cell_keep (hB.out.trans (hbr.out.1.mono hwb)) hcw
        obtain ⟨s, hs⟩ : ∃ s, fs.getD j ByteArray.empty = s := ⟨_, rfl⟩
        rw [hs] at hcell
        have hfl := flat_take hlt
        rw [hs] at hfl
        have hle2 := flat_le fs (j + 1)
        rw [hfl, List.length_append, List.length_cons] at hle2
        have hsl : s.data.toList.length = s.size := by simp
        obtain ⟨o6, cap6, w6, hrun6, hown6, hb6, kb6⟩ := text_own ⟨#[59]⟩ hor.out (by show K + 1 ≤ _; omega) (by omega)
        replace hrun6 : (appSem #[134, 9] 134 #[_, .string ⟨#[59]⟩]).run Tryz.prog wr = .ok (.slice o6 (K + 1) cap6) w6 := hrun6
        replace hown6 : w6.ownsRow base 5 1 (.slice o6 (K + 1) cap6) (K + 1) _ := hown6
        obtain ⟨o7, cap7, w7, hrun7, hown7, hb7, kb7⟩ := text_own s hown6 (by omega) (by have := hb6.size; omega)
        have HOWN := Lib.hid hown7
        have HBK : Hid (Below base W w7 ∧ KeepB W w7) := Lib.hid ⟨(hbr.out.1.trans hb6).trans hb7, (hbr.out.2.trans kb6).trans kb7⟩
        have HFL := Lib.hid hfl
        have HKK := Lib.hid hK
        obtain ⟨ov, capv, rfl⟩ := own_form hor.out
        subst hoad
        clear hown6 hown7 hb6 hb7 kb6 kb7 hfl hor hbr hle hle2 hcw hs
        go_wp2
        go_roundg (fs.length - (j + 1))
        case measure => omega
        case rel =>
          refine ⟨j + 1, by simp, by omega, rfl, Lib.hid ?_, HBK⟩
          have h := HOWN.out
          have e1 : k2 + (flatB (fs.take (j + 1))).length = K + 1 + s.size := by rw [HFL.out, List.length_append, List.length_cons, ← HKK.out, hsl]; omega
          have e2 : byteCells (flatB (fs.take (j + 1))) = byteCells (flatB (fs.take j)) ++ byteCells (⟨#[59]⟩ : ByteArray).data.toList ++ byteCells s.data.toList := by rw [HFL.out]; unfold byteCells; rw [List.map_append, List.append_assoc]; rfl
          rw [e1, e2, ← List.append_assoc, ← List.append_assoc]
          exact h
      · obtain rfl : j = fs.length := by omega
        have hall : fs.take fs.length = fs := List.take_of_length_le (Nat.le_refl _)
        rw [hall] at hK hor hle
        obtain ⟨o6, cap6, w6, hrun6, hown6, hb6, kb6⟩ := text_own ⟨#[10]⟩ hor.out (by show K + 1 ≤ _; omega) (by omega)
        replace hrun6 : (appSem #[134, 9] 134 #[_, .string ⟨#[10]⟩]).run Tryz.prog wr = .ok (.slice o6 (K + 1) cap6) w6 := hrun6
        replace hown6 : w6.ownsRow base 5 1 (.slice o6 (K + 1) cap6) (K + 1) _ := hown6
        have HOWN := Lib.hid hown6
        have HBK : Hid (Below base W w6 ∧ KeepB W w6) := Lib.hid ⟨hbr.out.1.trans hb6, hbr.out.2.trans kb6⟩
        have HKK := Lib.hid hK
        obtain ⟨ov, capv, rfl⟩ := own_form hor.out
        clear hown6 hb6 kb6 hor hbr hle
        go_wp2
        go_ret
        refine ⟨_, rfl, ?_, HBK.out.1, HBK.out.2⟩
        have h := HOWN.out
        have e1 : k + (lineB b b fs).length = K + 1 := by have := HLEN.out; omega
        have e2 : xs ++ byteCells (lineB b b fs) = xs2 ++ byteCells (flatB fs) ++ byteCells (⟨#[10]⟩ : ByteArray).data.toList := HCEL.out
        rw [e1, e2]
        exact h
  · have hne : (b == a) = false := by simpa using hab
    obtain ⟨K1, hK1⟩ : ∃ K1, k + (putL a).length = K1 := ⟨_, rfl⟩
    obtain ⟨xs1, hxs1⟩ : ∃ xs1, xs ++ byteCells (putL a) = xs1 := ⟨_, rfl⟩
    rw [hK1, hxs1] at ho1
    obtain ⟨o6, cap6, w6, hrun6, hown6, hb6, kb6⟩ := text_own ⟨#[46, 46]⟩ ho1 (by show K1 + 2 ≤ _; omega) (by omega)
    replace hrun6 : (appSem #[134, 9] 134 #[_, .string ⟨#[46, 46]⟩]).run Tryz.prog w1 = .ok (.slice o6 (K1 + 2) cap6) w6 := hrun6
    replace hown6 : w6.ownsRow base 5 1 (.slice o6 (K1 + 2) cap6) (K1 + 2) _ := hown6
    have r6 := kb6.row r1 (by decide)
    obtain ⟨e0, e1, e2, e3, e4⟩ := rec_cells r6
    have BK6 : Hid (Below base W w6 ∧ KeepB W w6) := Lib.hid ⟨BK1.out.1.trans hb6, BK1.out.2.trans kb6⟩
    have hz6 := BK6.out.1.size
    have HP := Lib.hid (HP2.out w6 base _ _ _ (hB.out.trans (BK6.out.1.mono hwb)) hown6 (by omega) hwb (by omega))
    have R6 := Lib.hid r6
    obtain ⟨ov1, capv1, rfl⟩ := own_form ho1
    clear hown6 hb6 kb6 ho1 r6 r1
    go_wp2_with fail
    refine HP.out.mono ?_
    rintro e w2 ⟨v2, rfl, ho2, b2, kb2⟩
    have r2 := kb2.row R6.out (by decide)
    have BK : Hid (Below base W w2 ∧ KeepB W w2) := Lib.hid ⟨BK6.out.1.trans b2, BK6.out.2.trans kb2⟩
    have HLEN : Hid (k + (lineB a b fs).length = K1 + 2 + (putL b).length + (flatB fs).length + 1) := Lib.hid (by unfold lineB headB; rw [if_neg hab]; simp; omega)
    have HCEL : Hid (xs ++ byteCells (lineB a b fs) = xs1 ++ byteCells (⟨#[46, 46]⟩ : ByteArray).data.toList ++ byteCells (putL b) ++ byteCells (flatB fs) ++ byteCells (⟨#[10]⟩ : ByteArray).data.toList) := Lib.hid (by rw [← hxs1]; unfold lineB headB byteCells; rw [if_neg hab]; simp)
    obtain ⟨k2, hk2⟩ : ∃ k2, K1 + 2 + (putL b).length = k2 := ⟨_, rfl⟩
    obtain ⟨xs2, hxs2⟩ : ∃ xs2, xs1 ++ byteCells (⟨#[46, 46]⟩ : ByteArray).data.toList ++ byteCells (putL b) = xs2 := ⟨_, rfl⟩
    rw [hk2] at ho2 HLEN
    rw [hxs2] at ho2 HCEL
    clear b2 kb2 HP e0 e1 e2 e3 e4 d0 d1 d2 d3 d4 hrun6
    obtain ⟨c0, c1, c2, c3, c4⟩ := rec_cells r2
    have HB2 := Lib.hid r2
    clear r2
    go_wp2_with fail
    go_loopg [0, 25] (fs.length) (fun c v0 v25 wr => ∃ j : Nat, v25 = .int .i64 (j : Nat) ∧ j ≤ fs.length ∧ c = fs.length - j ∧ Hid (wr.ownsRow base 5 1 v0 (k2 + (flatB (fs.take j)).length) (xs2 ++ byteCells (flatB (fs.take j)))) ∧ Hid (Below base W wr ∧ KeepB W wr))
    case atStart => exact ⟨0, rfl, Nat.zero_le _, rfl, Lib.hid (by simpa [byteCells, flatB] using ho2), BK⟩
    case round =>
      obtain ⟨j, rfl, hj, rfl, hor, hbr⟩ := hrel
      have hzr := hbr.out.1.size
      have hle := flat_le fs j
      obtain ⟨K, hK⟩ : ∃ K, k2 + (flatB (fs.take j)).length = K := ⟨_, rfl⟩
      rw [hK] at hor
      rcases Nat.lt_or_ge j fs.length with hlt | hge
      · have hj1 : j < 1000000 := by have := flat_count fs; omega
        obtain ⟨ad, hoad, hcw⟩ := hF j hlt
        have hcell := cell_keep (hB.out.trans (hbr.out.1.mono hwb)) hcw
        obtain ⟨s, hs⟩ : ∃ s, fs.getD j ByteArray.empty = s := ⟨_, rfl⟩
        rw [hs] at hcell
        have hfl := flat_take hlt
        rw [hs] at hfl
        have hle2 := flat_le fs (j + 1)
        rw [hfl, List.length_append, List.length_cons] at hle2
        have hsl : s.data.toList.length = s.size := by simp
        obtain ⟨o6, cap6, w6, hrun6, hown6, hb6, kb6⟩ := text_own ⟨#[59]⟩ hor.out (by show K + 1 ≤ _; omega) (by omega)
        replace hrun6 : (appSem #[134, 9] 134 #[_, .string ⟨#[59]⟩]).run Tryz.prog wr = .ok (.slice o6 (K + 1) cap6) w6 := hrun6
        replace hown6 : w6.ownsRow base 5 1 (.slice o6 (K + 1) cap6) (K + 1) _ := hown6
        obtain ⟨o7, cap7, w7, hrun7, hown7, hb7, kb7⟩ := text_own s hown6 (by omega) (by have := hb6.size; omega)
        have HOWN := Lib.hid hown7
        have HBK : Hid (Below base W w7 ∧ KeepB W w7) := Lib.hid ⟨(hbr.out.1.trans hb6).trans hb7, (hbr.out.2.trans kb6).trans kb7⟩
        have HFL := Lib.hid hfl
        have HKK := Lib.hid hK
        obtain ⟨ov, capv, rfl⟩ := own_form hor.out
        subst hoad
        clear hown6 hown7 hb6 hb7 kb6 kb7 hfl hor hbr hle hle2 hcw hs
        go_wp2
        go_roundg (fs.length - (j + 1))
        case measure => omega
        case rel =>
          refine ⟨j + 1, by simp, by omega, rfl, Lib.hid ?_, HBK⟩
          have h := HOWN.out
          have e1 : k2 + (flatB (fs.take (j + 1))).length = K + 1 + s.size := by rw [HFL.out, List.length_append, List.length_cons, ← HKK.out, hsl]; omega
          have e2 : byteCells (flatB (fs.take (j + 1))) = byteCells (flatB (fs.take j)) ++ byteCells (⟨#[59]⟩ : ByteArray).data.toList ++ byteCells s.data.toList := by rw [HFL.out]; unfold byteCells; rw [List.map_append, List.append_assoc]; rfl
          rw [e1, e2, ← List.append_assoc, ← List.append_assoc]
          exact h
      · obtain rfl : j = fs.length := by omega
        have hall : fs.take fs.length = fs := List.take_of_length_le (Nat.le_refl _)
        rw [hall] at hK hor hle
        obtain ⟨o6, cap6, w6, hrun6, hown6, hb6, kb6⟩ := text_own ⟨#[10]⟩ hor.out (by show K + 1 ≤ _; omega) (by omega)
        replace hrun6 : (appSem #[134, 9] 134 #[_, .string ⟨#[10]⟩]).run Tryz.prog wr = .ok (.slice o6 (K + 1) cap6) w6 := hrun6
        replace hown6 : w6.ownsRow base 5 1 (.slice o6 (K + 1) cap6) (K + 1) _ := hown6
        have HOWN := Lib.hid hown6
        have HBK : Hid (Below base W w6 ∧ KeepB W w6) := Lib.hid ⟨hbr.out.1.trans hb6, hbr.out.2.trans kb6⟩
        have HKK := Lib.hid hK
        obtain ⟨ov, capv, rfl⟩ := own_form hor.out
        clear hown6 hb6 kb6 hor hbr hle
        go_wp2
        go_ret
        refine ⟨_, rfl, ?_, HBK.out.1, HBK.out.2⟩
        have h := HOWN.out
        have e1 : k + (lineB a b fs).length = K + 1 := by have := HLEN.out; omega
        have e2 : xs ++ byteCells (lineB a b fs) = xs2 ++ byteCells (flatB fs) ++ byteCells (⟨#[10]⟩ : ByteArray).data.toList := HCEL.out
        rw [e1, e2]
        exact h
end Go.Proofs.YtfgnpdfdncnbfaaGreatDoor
