/- whole, right, has, with, not. -/
import Derived.Test.YtnpbbmoknlbfaaaGreatDoorKOf
import Derived.StillTailTactics
import Derived.Deep.RegionHeld3
namespace Go.Proofs.YtnpbbmoknlbfaaaGreatDoor
open Go.RowKit Go.Shelf
attribute [local go_sem] Oper.semAt_some

abbrev setC (s n : Int) : Array Value := #[.int .i64 s, .int .i64 n]
theorem wrap_idK {x : Int} (h0 : -9223372036854775808 ≤ x) (h1 : x ≤ 9223372036854775807) : wrap64 x = x := by unfold wrap64; omega
theorem two_32 {n : Nat} (h : n ≤ 32) : 2 ^ n ≤ 4294967296 := by
  have := Nat.pow_le_pow_right (n := 2) (by decide) h
  omega
theorem shlK {n : Nat} (h : n ≤ 32) : wrap64 (2 ^ n) = ((2 ^ n : Nat) : Int) := by
  have h2 := two_32 h
  rw [show ((2 : Int) ^ n) = ((2 ^ n : Nat) : Int) by simp]
  obtain ⟨p, hp⟩ : ∃ p, 2 ^ n = p := ⟨_, rfl⟩
  rw [hp] at h2 ⊢
  exact wrap_idK (by omega) (by omega)
@[go_sem] theorem run_fld0K (s n : Int) (w : World) : (Instr.field 63 (.agg #[.int .i64 s, .int .i64 n]) 0).run Tryz.prog w = .ok (.int .i64 s) w := by kernel_rfl
theorem results_set {fn : Func} {p : Tmp} (h : fn.results = #[.cell p 63]) (tmps : Array Value) (w : World) (g : Nat) (cs : Array Value) (hz : cs.size = 2) (hp : tmps.getD p undef = .pointer (some ⟨g, 0, none⟩)) (hg : w.heap[g]? = some (.cells cs 63 (0, 0))) :
    (results fn tmps).run Tryz.prog w = .ok (.agg cs) w := by
  have hp' : tmps[p]?.getD undef = .pointer (some ⟨g, 0, none⟩) := by simpa using hp
  have hi : (Tryz.prog.info? 63).map (·.size) = some cs.size := by rw [hz]; kernel_rfl
  simp [results, h, hp', asAddr, run_loadVar_row w g 63 63 cs (0, 0) _ hg Tryz.underlying63 rfl hi]
set_option maxHeartbeats 1000000 in
theorem whole_any (n : Nat) (hn : n ≤ 32) (w : World) : Calls Tryz.prog 83 #[.int .i64 (n : Nat)] w fun e w' => e = .returned (.agg #[.int .i64 ((2 ^ n - 1 : Nat) : Int), .int .i64 (n : Nat)]) ∧ Below w.heap.size w w' := by
  have e1 := shlK hn
  have h2 := two_32 hn
  have h1 := two_pos n
  obtain ⟨p, hp⟩ : ∃ p, 2 ^ n = p := ⟨_, rfl⟩
  rw [hp] at e1 h1 h2 ⊢
  rw [show ((p - 1 : Nat) : Int) = ((p : Nat) : Int) - 1 by omega]
  clear hp
  go_enter Tryz.func83, Tryz.ntmps83
  go_wp2
  refine bodyPost_ret (v := .agg #[.int .i64 (((p : Nat) : Int) - 1), .int .i64 (n : Nat)]) ?_ rfl ⟨rfl, (Below.refl _ _).alloc (Nat.le_refl _) _⟩
  exact results_set rfl _ _ w.heap.size (setC (((p : Nat) : Int) - 1) (n : Nat)) rfl rfl (heap_alloc_new _ _)
set_option maxRecDepth 100000 in
set_option maxHeartbeats 2000000 in
theorem right_anyK (s n : Int) (w : World) : Calls Tryz.prog 55 #[.agg #[.int .i64 s, .int .i64 n]] w fun e w' => e = .returned (.bool (rightZ s n)) ∧ Below w.heap.size w w' := by
  have c0 : (w.alloc (.cells #[.int .i64 s, .int .i64 n] 63)).cell? ⟨w.heap.size, 0, none⟩ = some (.int .i64 s) := cell_of_row _ _ 0 _ _ _ (heap_alloc_new _ _)
  have c1 : (w.alloc (.cells #[.int .i64 s, .int .i64 n] 63)).cell? ⟨w.heap.size, 1, none⟩ = some (.int .i64 n) := cell_of_row _ _ 1 _ _ _ (heap_alloc_new _ _)
  have A0 : Below w.heap.size w (w.alloc (.cells #[.int .i64 s, .int .i64 n] 63)) := (Below.refl _ _).alloc (Nat.le_refl _) _
  have B0 := Lib.hid A0
  obtain ⟨P, hP⟩ : ∃ P, (fun (e : Ending) w' => e = .returned (.bool (rightZ s n)) ∧ Below w.heap.size w w') = P := ⟨_, rfl⟩
  have HP := Lib.hid hP
  have NO : ¬ (1 ≤ n ∧ n ≤ 32 ∧ 0 ≤ s ∧ s < 2 ^ n.toNat) → ∀ W, Below w.heap.size w W → Hid (P (.returned (.bool false)) W) := fun h W hb => by
    rw [← HP.out]
    exact Lib.hid ⟨by unfold rightZ; rw [decide_eq_false h], hb⟩
  have YES : (1 ≤ n ∧ n ≤ 32 ∧ 0 ≤ s ∧ s < 2 ^ n.toNat) → ∀ W, Below w.heap.size w W → Hid (P (.returned (.bool true)) W) := fun h W hb => by
    rw [← HP.out]
    exact Lib.hid ⟨by unfold rightZ; rw [decide_eq_true h], hb⟩
  rw [hP]
  clear hP A0
  by_cases g1 : 1 ≤ n
  · have d1 : decide ((1 : Int) ≤ n) = true := decide_eq_true g1
    by_cases g2 : n ≤ 32
    · have d2 : decide (n ≤ (32 : Int)) = true := decide_eq_true g2
      by_cases g3 : 0 ≤ s
      · have d3 : decide ((0 : Int) ≤ s) = true := decide_eq_true g3
        obtain ⟨m, rfl⟩ := Int.eq_ofNat_of_zero_le (show 0 ≤ n by omega)
        have hm : m ≤ 32 := by omega
        have W1 := fun W => Lib.hid (whole_any m hm W)
        have hp := two_pos m
        have e2 : ((2 : Int) ^ m) = ((2 ^ m : Nat) : Int) := by simp
        rw [Int.toNat_natCast, e2] at NO YES
        obtain ⟨p, hpp⟩ : ∃ p, 2 ^ m = p := ⟨_, rfl⟩
        rw [hpp] at NO YES W1 hp
        obtain ⟨q, hq⟩ : ∃ q, p - 1 = q := ⟨_, rfl⟩
        rw [hq] at W1
        have EV : ∃ b, b = decide (s ≤ ((q : Nat) : Int)) ∧ ∀ W, Below w.heap.size w W → Hid (P (.returned (.bool b)) W) := by
          by_cases g4 : s < ((p : Nat) : Int)
          · exact ⟨true, (decide_eq_true (by omega)).symm, YES ⟨g1, g2, g3, g4⟩⟩
          · exact ⟨false, (decide_eq_false (by omega)).symm, NO fun h => g4 h.2.2.2⟩
        obtain ⟨b, hb, YY⟩ := EV
        have Y2 := Lib.hid YY
        have hb2 := hb.symm
        obtain ⟨W0, hW0⟩ : ∃ W0, w.alloc (.cells #[.int .i64 s, .int .i64 ((m : Nat) : Int)] 63) = W0 := ⟨_, rfl⟩
        rw [hW0] at c0 c1 B0
        have HW := Lib.hid hW0
        have hlt : w.heap.size < W0.heap.size := World.block_lt_of_cell? W0 _ c0
        have keepS : ∀ {W W' : World}, Below W.heap.size W W' → (W.cell? ⟨w.heap.size, 0, none⟩ = some (.int .i64 s) ∧ W.cell? ⟨w.heap.size, 1, none⟩ = some (.int .i64 ((m : Nat) : Int)) ∧ Below W0.heap.size W0 W) → (W'.cell? ⟨w.heap.size, 0, none⟩ = some (.int .i64 s) ∧ W'.cell? ⟨w.heap.size, 1, none⟩ = some (.int .i64 ((m : Nat) : Int)) ∧ Below W0.heap.size W0 W') := fun hb h => ⟨cell_keep hb h.1, cell_keep hb h.2.1, h.2.2.trans (hb.mono h.2.2.size)⟩
        have HD : W0.drew.cell? ⟨w.heap.size, 0, none⟩ = some (.int .i64 s) ∧ W0.drew.cell? ⟨w.heap.size, 1, none⟩ = some (.int .i64 ((m : Nat) : Int)) ∧ Below W0.heap.size W0 W0.drew := ⟨c0, c1, (Below.refl _ _).drew⟩
        have K1 : Hid (∀ W, (W.cell? ⟨w.heap.size, 0, none⟩ = some (.int .i64 s) ∧ W.cell? ⟨w.heap.size, 1, none⟩ = some (.int .i64 ((m : Nat) : Int)) ∧ Below W0.heap.size W0 W) → Calls Tryz.prog 83 #[.int .i64 ((m : Nat) : Int)] W fun e W' => e = .returned (.agg #[.int .i64 ((q : Nat) : Int), .int .i64 ((m : Nat) : Int)]) ∧ (W'.cell? ⟨w.heap.size, 0, none⟩ = some (.int .i64 s) ∧ W'.cell? ⟨w.heap.size, 1, none⟩ = some (.int .i64 ((m : Nat) : Int)) ∧ Below W0.heap.size W0 W')) := Lib.hid fun W hS => ((W1 W).out).mono fun e W' h => ⟨h.1, keepS h.2 hS⟩
        have hfol : Tryz.prog.follows .mixedOrders = true := by kernel_rfl
        clear NO YES hpp e2 hb YY hq hp g1 g2 g3 hW0 keepS W1
        go_enter Tryz.func55, Tryz.ntmps55
        go_wp2_with fail
        rw [HW.out]
        go_region_held3 (fun W => W.cell? ⟨w.heap.size, 0, none⟩ = some (.int .i64 s) ∧ W.cell? ⟨w.heap.size, 1, none⟩ = some (.int .i64 ((m : Nat) : Int)) ∧ Below W0.heap.size W0 W) (first | assumption | exact HD | go_keep) (first | (go_at_call 83; refine (K1.out _ (by first | assumption | exact HD | exact hg)).mono ?_; rintro e w' ⟨rfl, hg⟩))
        all_goals
          go_wp2
          exact (Y2.out _ (B0.out.trans (hg.2.2.mono B0.out.size))).out
      · have NN := Lib.hid (NO (by omega))
        have d3 : decide ((0 : Int) ≤ s) = false := decide_eq_false g3
        clear NO YES
        go_enter Tryz.func55, Tryz.ntmps55
        go_wp2_with fail
        go_quiet (fail)
        go_wp2
        exact (NN.out _ (B0.out.trans ((below_drewN _ _).mono B0.out.size))).out
    · have NN := Lib.hid (NO (by omega))
      have d2 : decide (n ≤ (32 : Int)) = false := decide_eq_false g2
      clear NO YES
      go_enter Tryz.func55, Tryz.ntmps55
      go_wp2_with fail
      go_quiet (fail)
      go_wp2
      exact (NN.out _ (B0.out.trans ((below_drewN _ _).mono B0.out.size))).out
  · have NN := Lib.hid (NO (by omega))
    have d1 : decide ((1 : Int) ≤ n) = false := decide_eq_false g1
    clear NO YES
    go_enter Tryz.func55, Tryz.ntmps55
    go_wp2_with fail
    go_quiet (fail)
    go_wp2
    exact (NN.out _ (B0.out.trans ((below_drewN _ _).mono B0.out.size))).out
/-- What the class of a set is, in the walk's words. -/
theorem bit_walkK {x c : Nat} (hx : x < 2 ^ 32) : bits .and .i64 (((x : Nat) : Int) / 2 ^ c) 1 = ((if x.testBit c then 1 else 0 : Nat) : Int) := by
  have e2 : ((x : Nat) : Int) / 2 ^ c = ((x / 2 ^ c : Nat) : Int) := by simp
  have hl : x / 2 ^ c < 2 ^ 32 := Nat.lt_of_le_of_lt (Nat.div_le_self _ _) hx
  rw [e2]
  have := bits_mask .i64 32 (by decide) (fun n h0 h1 => by rw [IntKind.wrap_i64]; omega) 1 (by decide) ((x / 2 ^ c : Nat) : Int) (Int.natCast_nonneg _) (by exact_mod_cast hl)
  simp only [Int.pow_one] at this
  rw [show ((2 : Int) - 1) = 1 from rfl] at this
  rw [this]
  have hb := div_bit x c
  by_cases h : x.testBit c = true
  · rw [h] at hb ⊢
    have := of_decide_eq_true hb
    rw [if_pos rfl]
    omega
  · rw [Bool.not_eq_true] at h
    rw [h] at hb ⊢
    have := of_decide_eq_false hb
    rw [if_neg (by decide)]
    omega
set_option maxRecDepth 100000 in
set_option maxHeartbeats 2000000 in
theorem has_anyK (x n : Nat) (hx : x < 2 ^ 32) (hn : n ≤ 32) (c : Int) (w : World) : Calls Tryz.prog 56 #[.agg #[.int .i64 (x : Nat), .int .i64 (n : Nat)], .int .i64 c] w fun e w' => e = .returned (.bool (decide (0 ≤ c ∧ c < (n : Nat)) && x.testBit c.toNat)) ∧ Below w.heap.size w w' := by
  have c0 : (w.alloc (.cells #[.int .i64 ((x : Nat) : Int), .int .i64 ((n : Nat) : Int)] 63)).cell? ⟨w.heap.size, 0, none⟩ = some (.int .i64 ((x : Nat) : Int)) := cell_of_row _ _ 0 _ _ _ (heap_alloc_new _ _)
  have c1 : (w.alloc (.cells #[.int .i64 ((x : Nat) : Int), .int .i64 ((n : Nat) : Int)] 63)).cell? ⟨w.heap.size, 1, none⟩ = some (.int .i64 ((n : Nat) : Int)) := cell_of_row _ _ 1 _ _ _ (heap_alloc_new _ _)
  have A0 : Below w.heap.size w (w.alloc (.cells #[.int .i64 ((x : Nat) : Int), .int .i64 ((n : Nat) : Int)] 63)) := (Below.refl _ _).alloc (Nat.le_refl _) _
  obtain ⟨W0, hW0⟩ : ∃ W0, w.alloc (.cells #[.int .i64 ((x : Nat) : Int), .int .i64 ((n : Nat) : Int)] 63) = W0 := ⟨_, rfl⟩
  rw [hW0] at c0 c1 A0
  have HW := Lib.hid hW0
  have B0 := Lib.hid A0
  have hlt : w.heap.size < W0.heap.size := World.block_lt_of_cell? W0 _ c0
  by_cases g1 : 0 ≤ c
  · have d1 : decide ((0 : Int) ≤ c) = true := decide_eq_true g1
    obtain ⟨k, rfl⟩ := Int.eq_ofNat_of_zero_le g1
    by_cases g2 : k < n
    · have d2 : decide (k < n) = true := decide_eq_true g2
      have hb := bit_walkK (c := k) hx
      rw [decide_eq_true (show (0 : Int) ≤ ((k : Nat) : Int) ∧ ((k : Nat) : Int) < ((n : Nat) : Int) by omega), Bool.true_and, Int.toNat_natCast]
      have hk : k ≤ 32 := by omega
      obtain ⟨b, hbb⟩ : ∃ b, x.testBit k = b := ⟨_, rfl⟩
      rw [hbb] at hb ⊢
      have he : (((if b then 1 else 0 : Nat) : Int) == 1) = b := by cases b <;> rfl
      clear A0 hW0 hx hbb g1
      go_enter Tryz.func56, Tryz.ntmps56
      go_wp2_with fail
      all_goals
        go_ret
        exact ⟨by simp_all, HW.out ▸ B0.out⟩
    · rw [decide_eq_false (by omega), Bool.false_and]
      have d2 : decide (k < n) = false := decide_eq_false g2
      clear A0 hW0 hx g1
      go_enter Tryz.func56, Tryz.ntmps56
      go_wp2_with fail
      go_ret
      exact ⟨rfl, HW.out ▸ B0.out⟩
  · rw [decide_eq_false (by omega), Bool.false_and]
    have d1 : decide ((0 : Int) ≤ c) = false := decide_eq_false g1
    clear A0 hW0 hx
    go_enter Tryz.func56, Tryz.ntmps56
    go_wp2_with fail
    go_ret
    exact ⟨rfl, HW.out ▸ B0.out⟩
end Go.Proofs.YtnpbbmoknlbfaaaGreatDoor
