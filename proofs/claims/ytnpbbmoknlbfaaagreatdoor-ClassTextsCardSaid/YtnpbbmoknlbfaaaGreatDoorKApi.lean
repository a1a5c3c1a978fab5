/- Right, Has, Not; how many classes. -/
import Derived.Test.YtnpbbmoknlbfaaaGreatDoorKCore2
namespace Go.Proofs.YtnpbbmoknlbfaaaGreatDoor
open Go.RowKit Go.Shelf
attribute [local go_sem] Oper.semAt_some

set_option maxHeartbeats 1000000 in
theorem Right_anyK (s n : Int) (w : World) : Calls Tryz.prog 20 #[.int .i64 s, .int .i64 n] w fun e w' => e = .returned (.bool (rightZ s n)) ∧ Below w.heap.size w w' := by
  have H := Lib.hid (fun W => right_anyK s n W)
  go_enter Tryz.func20, Tryz.ntmps20
  go_wp2_with fail
  refine (H.out _).mono ?_
  rintro e w2 ⟨rfl, b2⟩
  go_wp2
  go_ret
  exact ⟨rfl, b2⟩
set_option maxHeartbeats 1000000 in
theorem Has_anyK (s c : Int) (w : World) : Calls Tryz.prog 22 #[.int .i64 s, .int .i64 c] w fun e w' => e = .returned (.bool (hasZ s c)) ∧ Below w.heap.size w w' := by
  have H := Lib.hid (fun W => right_anyK s 32 W)
  cases hr : rightZ s 32 with
  | true =>
    obtain ⟨x, m, rfl, hm, _, _, hx⟩ := rightZ_of hr
    have h32 : m = 32 := by omega
    subst h32
    have K : Hid (∀ W, Calls Tryz.prog 56 #[.agg #[.int .i64 (x : Nat), .int .i64 32], .int .i64 c] W fun e w' => e = .returned (.bool (decide (0 ≤ c ∧ c < 32) && x.testBit c.toNat)) ∧ Below W.heap.size W w') := Lib.hid (fun W => has_anyK x 32 hx (by omega) c W)
    rw [hasZ_nat hx]
    rw [hr] at H
    obtain ⟨b, hb⟩ : ∃ b, (decide (0 ≤ c ∧ c < 32) && x.testBit c.toNat) = b := ⟨_, rfl⟩
    rw [hb] at K ⊢
    clear hr hx hb hm
    have A0 : Below w.heap.size w (w.alloc (.cells #[.int .i64 ((x : Nat) : Int), .int .i64 32] 63)) := (Below.refl _ _).alloc (Nat.le_refl _) _
    have r0 : (w.alloc (.cells #[.int .i64 ((x : Nat) : Int), .int .i64 32] 63)).heap[w.heap.size]? = some (.cells #[.int .i64 ((x : Nat) : Int), .int .i64 32] 63 (0, 0)) := heap_alloc_new _ _
    have HA := Lib.hid A0
    have R0 := Lib.hid r0
    clear A0 r0
    go_enter Tryz.func22, Tryz.ntmps22
    go_wp2_with fail
    refine (H.out _).mono ?_
    rintro e w2 ⟨rfl, b2⟩
    have r2 := row_below R0.out b2
    have B2 := Lib.hid (HA.out.trans (b2.mono HA.out.size))
    obtain ⟨k0, k1⟩ := row_cells r2
    clear b2 r2
    go_wp2_with fail
    refine (K.out _).mono ?_
    rintro e w3 ⟨rfl, b3⟩
    go_wp2
    go_ret
    exact ⟨rfl, B2.out.trans (b3.mono B2.out.size)⟩
  | false =>
    rw [hr] at H
    have e0 : hasZ s c = false := by unfold hasZ; rw [hr]; rfl
    rw [e0]
    have A0 : Below w.heap.size w (w.alloc (.cells #[.int .i64 s, .int .i64 32] 63)) := (Below.refl _ _).alloc (Nat.le_refl _) _
    have HA := Lib.hid A0
    clear A0 e0 hr
    go_enter Tryz.func22, Tryz.ntmps22
    go_wp2_with fail
    refine (H.out _).mono ?_
    rintro e w2 ⟨rfl, b2⟩
    go_wp2
    go_ret
    exact ⟨rfl, HA.out.trans (b2.mono HA.out.size)⟩
set_option maxHeartbeats 1000000 in
theorem Not_anyK (s n : Int) (w : World) : Calls Tryz.prog 27 #[.int .i64 s, .int .i64 n] w fun e w' => e = .returned (.int .i64 (notZ s n)) ∧ Below w.heap.size w w' := by
  have H := Lib.hid (fun W => right_anyK s n W)
  have A0 : Below w.heap.size w (w.alloc (.cells #[.int .i64 s, .int .i64 n] 63)) := (Below.refl _ _).alloc (Nat.le_refl _) _
  have r0 : (w.alloc (.cells #[.int .i64 s, .int .i64 n] 63)).heap[w.heap.size]? = some (.cells #[.int .i64 s, .int .i64 n] 63 (0, 0)) := heap_alloc_new _ _
  have HA := Lib.hid A0
  have R0 := Lib.hid r0
  clear A0 r0
  cases hr : rightZ s n with
  | true =>
    obtain ⟨x, m, rfl, rfl, h1, h2, hx⟩ := rightZ_of hr
    have K := Lib.hid (fun W => not_anyK x m h2 hx W)
    rw [notZ_nat h1 h2 hx]
    rw [hr] at H
    obtain ⟨r, hrr⟩ : ∃ r, notN m x = r := ⟨_, rfl⟩
    rw [hrr] at K ⊢
    clear hr hx hrr
    go_enter Tryz.func27, Tryz.ntmps27
    go_wp2_with fail
    refine (H.out _).mono ?_
    rintro e w2 ⟨rfl, b2⟩
    have r2 := row_below R0.out b2
    have B2 := Lib.hid (HA.out.trans (b2.mono HA.out.size))
    obtain ⟨k0, k1⟩ := row_cells r2
    clear b2 r2
    go_wp2_with fail
    refine (K.out _).mono ?_
    rintro e w3 ⟨rfl, b3⟩
    go_wp2
    go_ret
    exact ⟨rfl, B2.out.trans (b3.mono B2.out.size)⟩
  | false =>
    rw [hr] at H
    have e0 : notZ s n = 0 := by unfold notZ; rw [hr]; rfl
    rw [e0]
    clear hr e0
    go_enter Tryz.func27, Tryz.ntmps27
    go_wp2_with fail
    refine (H.out _).mono ?_
    rintro e w2 ⟨rfl, b2⟩
    go_wp2
    go_ret
    exact ⟨rfl, HA.out.trans (b2.mono HA.out.size)⟩
theorem andU {a b : Nat} (ha : a < 2 ^ 63) (hb : b < 2 ^ 63) : bits .and .u64 ((a : Nat) : Int) ((b : Nat) : Int) = ((a &&& b : Nat) : Int) :=
  (bits_nat .u64 63 (by decide) (fun n h0 h1 => by rw [IntKind.wrap_u64]; omega) a b ha hb).1
theorem wrapU {n : Nat} (h : n < 2 ^ 63) : IntKind.u64.wrap ((n : Nat) : Int) = ((n : Nat) : Int) := by rw [IntKind.wrap_u64]; omega
theorem and127 {n : Nat} (h : n < 2 ^ 32) : bits .and .i64 ((n : Nat) : Int) 127 = ((n % 128 : Nat) : Int) := by
  have := bits_mask .i64 32 (by decide) (fun n h0 h1 => by rw [IntKind.wrap_i64]; omega) 7 (by decide) ((n : Nat) : Int) (Int.natCast_nonneg _) (by exact_mod_cast h)
  rw [show ((2 : Int) ^ 7 - 1) = 127 from rfl] at this
  rw [this]
  simp
theorem wrapI {n : Nat} (h : n < 2 ^ 32) : IntKind.i64.wrap ((n : Nat) : Int) = ((n : Nat) : Int) := by rw [IntKind.wrap_i64]; omega
theorem wrapW {n : Nat} (h : n < 2 ^ 32) : wrap64 ((n : Nat) : Int) = ((n : Nat) : Int) := by unfold wrap64; omega
theorem lt63 {n : Nat} (h : n < 2 ^ 32) : n < 2 ^ 63 := Nat.lt_trans h (by decide)
theorem half_lt {n m : Nat} (h : n < 2 ^ 32) : n / m < 2 ^ 63 := lt63 (Nat.lt_of_le_of_lt (Nat.div_le_self _ _) h)
theorem castA {a b c : Nat} (h : a + b = c) : ((a : Nat) : Int) + ((b : Nat) : Int) = ((c : Nat) : Int) := by omega
theorem cast16 {a c : Nat} (h : a / 16 + a = c) : ((a : Nat) : Int) / 16 + ((a : Nat) : Int) = ((c : Nat) : Int) := by omega
theorem cast256 {a c : Nat} (h : c = a + a / 256) : ((a : Nat) : Int) + ((a : Nat) : Int) / 256 = ((c : Nat) : Int) := by omega
theorem cast65536 {a c : Nat} (h : c = a + a / 65536) : ((a : Nat) : Int) + ((a : Nat) : Int) / 65536 = ((c : Nat) : Int) := by omega
theorem castTop {a : Nat} (h : a / 2 ^ 32 = 0) : ((a : Nat) : Int) + ((a : Nat) : Int) / 4294967296 = ((a : Nat) : Int) := by omega
theorem litA : ((mA : Nat) : Int) = 6148914691236517205 := by decide
theorem litB : ((mB : Nat) : Int) = 3689348814741910323 := by decide
theorem litC2 : ((mC : Nat) : Int) = 1085102592571150095 := by decide
theorem andA {x : Nat} (h : x < 2 ^ 63) : bits .and .u64 ((x : Nat) : Int) 6148914691236517205 = ((x &&& mA : Nat) : Int) := by rw [← litA]; exact andU h (by decide)
theorem andB {x : Nat} (h : x < 2 ^ 63) : bits .and .u64 ((x : Nat) : Int) 3689348814741910323 = ((x &&& mB : Nat) : Int) := by rw [← litB]; exact andU h (by decide)
theorem andC {x : Nat} (h : x < 2 ^ 63) : bits .and .u64 ((x : Nat) : Int) 1085102592571150095 = ((x &&& mC : Nat) : Int) := by rw [← litC2]; exact andU h (by decide)
set_option maxHeartbeats 2000000 in
theorem ones_any (x : Nat) (hx : x < 2 ^ 32) (w : World) : Calls Tryz.prog 133 #[.int .u64 (x : Nat)] w fun e w' => e = .returned (.int .i64 ((classesN 32 x).length : Nat)) ∧ w = w' := by
  obtain ⟨p, q, r, s, hp, hq, hr, hs, h3, hl, l1, l2⟩ := ones_three hx
  obtain ⟨y3, hy3⟩ : ∃ y, pC mC (pB mB (pA mA x)) = y := ⟨_, rfl⟩
  obtain ⟨z4, z5, h4, h5, m3, m4, m5, h6, h7⟩ := ones_last hp hq hr hs (hy3.symm.trans h3)
  rw [hl, ← h7]
  clear h3 hl hp hq hr hs h7 p q r s
  obtain ⟨y1, hy1⟩ : ∃ y, pA mA x = y := ⟨_, rfl⟩
  rw [hy1] at hy3 l1 l2
  obtain ⟨y2, hy2⟩ : ∃ y, pB mB y1 = y := ⟨_, rfl⟩
  rw [hy2] at hy3 l2
  obtain ⟨a1, ha1⟩ : ∃ y, x / 2 &&& mA = y := ⟨_, rfl⟩
  obtain ⟨a2, ha2⟩ : ∃ y, x &&& mA = y := ⟨_, rfl⟩
  obtain ⟨b1, hb1⟩ : ∃ y, y1 / 4 &&& mB = y := ⟨_, rfl⟩
  obtain ⟨b2, hb2⟩ : ∃ y, y1 &&& mB = y := ⟨_, rfl⟩
  have g1 : bits .and .u64 (((x : Nat) : Int) / 2) 6148914691236517205 = ((a1 : Nat) : Int) := by rw [← ha1]; exact andA (x := x / 2) (half_lt hx)
  have g2 : bits .and .u64 ((x : Nat) : Int) 6148914691236517205 = ((a2 : Nat) : Int) := by rw [← ha2]; exact andA (lt63 hx)
  have s1 : ((a1 : Nat) : Int) + ((a2 : Nat) : Int) = ((y1 : Nat) : Int) := castA (by rw [← hy1, ← ha1, ← ha2]; rfl)
  have g3 : IntKind.u64.wrap ((y1 : Nat) : Int) = ((y1 : Nat) : Int) := wrapU (lt63 l1)
  have g4 : bits .and .u64 (((y1 : Nat) : Int) / 4) 3689348814741910323 = ((b1 : Nat) : Int) := by rw [← hb1]; exact andB (x := y1 / 4) (half_lt l1)
  have g5 : bits .and .u64 ((y1 : Nat) : Int) 3689348814741910323 = ((b2 : Nat) : Int) := by rw [← hb2]; exact andB (lt63 l1)
  have s2 : ((b1 : Nat) : Int) + ((b2 : Nat) : Int) = ((y2 : Nat) : Int) := castA (by rw [← hy2, ← hb1, ← hb2]; rfl)
  have g6 : IntKind.u64.wrap ((y2 : Nat) : Int) = ((y2 : Nat) : Int) := wrapU (lt63 l2)
  obtain ⟨t2, ht2⟩ : ∃ t, y2 / 16 + y2 = t := ⟨_, rfl⟩
  have s3 : ((y2 : Nat) : Int) / 16 + ((y2 : Nat) : Int) = ((t2 : Nat) : Int) := cast16 ht2
  have lt2 : t2 < 2 ^ 63 := by clear g1 g2 g3 g4 g5 g6 s1 s2 s3 h4 h5 m3 m4 m5 h6; omega
  have g7 : IntKind.u64.wrap ((t2 : Nat) : Int) = ((t2 : Nat) : Int) := wrapU lt2
  have g8 : bits .and .u64 ((t2 : Nat) : Int) 1085102592571150095 = ((y3 : Nat) : Int) := by rw [← hy3, ← ht2]; exact andC (by rw [ht2]; exact lt2)
  have s4 : ((y3 : Nat) : Int) + ((y3 : Nat) : Int) / 256 = ((z4 : Nat) : Int) := cast256 h4
  have g9 : IntKind.u64.wrap ((z4 : Nat) : Int) = ((z4 : Nat) : Int) := wrapU (Nat.lt_trans m4 (by decide))
  have s5 : ((z4 : Nat) : Int) + ((z4 : Nat) : Int) / 65536 = ((z5 : Nat) : Int) := cast65536 h5
  have g10 : IntKind.u64.wrap ((z5 : Nat) : Int) = ((z5 : Nat) : Int) := wrapU (Nat.lt_trans m5 (by decide))
  have s6 : ((z5 : Nat) : Int) + ((z5 : Nat) : Int) / 4294967296 = ((z5 : Nat) : Int) := castTop h6
  have m6 : z5 < 2 ^ 32 := Nat.lt_trans m5 (by decide)
  have g11 : wrap64 ((z5 : Nat) : Int) = ((z5 : Nat) : Int) := wrapW m6
  have g12 := and127 m6
  have g13 : IntKind.i64.wrap ((z5 : Nat) : Int) = ((z5 : Nat) : Int) := wrapI m6
  clear m6 lt2
  clear hy1 hy2 hy3 ha1 ha2 hb1 hb2 ht2 l1 l2 m3 m4 m5 h4 h5 h6 hx
  go_enter Tryz.func133, Tryz.ntmps133
  go_wp2_with fail
  go_ret
  exact ⟨rfl, rfl⟩
set_option maxHeartbeats 1000000 in
theorem count_any (x n : Nat) (hn : n ≤ 32) (hx : x < 2 ^ n) (w : World) : Calls Tryz.prog 107 #[.agg #[.int .i64 (x : Nat), .int .i64 (n : Nat)]] w fun e w' => e = .returned (.int .i64 ((classesN n x).length : Nat)) ∧ Below w.heap.size w w' := by
  have hx2 : x < 2 ^ 32 := Nat.lt_of_lt_of_le hx (Nat.pow_le_pow_right (by decide) hn)
  have H := Lib.hid (fun W => ones_any x hx2 W)
  rw [classesN_32 hx hn] at H
  have g : IntKind.u64.wrap ((x : Nat) : Int) = ((x : Nat) : Int) := wrapU (by omega)
  obtain ⟨k, hk⟩ : ∃ k, (classesN n x).length = k := ⟨_, rfl⟩
  rw [hk] at H ⊢
  clear hx hx2 hk
  have A0 : Below w.heap.size w (w.alloc (.cells #[.int .i64 ((x : Nat) : Int), .int .i64 ((n : Nat) : Int)] 63)) := (Below.refl _ _).alloc (Nat.le_refl _) _
  have HA := Lib.hid A0
  clear A0
  go_enter Tryz.func107, Tryz.ntmps107
  go_wp2_with fail
  refine (H.out _).mono ?_
  rintro e w2 ⟨rfl, rfl⟩
  go_wp2
  go_ret
  exact ⟨rfl, HA.out⟩
end Go.Proofs.YtnpbbmoknlbfaaaGreatDoor
