/- Shaken by bunq.py. -/
import Derived.Test.YtnmhdcbpbaanoaaGreatDoorBuq2
import Derived.StillTailTactics
import Derived.Deep.RegionHeld3
import Derived.Test.YtnmhdcbpbaanoaaGreatDoorBuq1
import Derived.Test.YtnmhdcbpbaanoaaGreatDoorProg
import Derived.Laws.Cover2
import Derived.Laws.FloatArith
import Derived.IntWalk
namespace Go.Proofs.YtnmhdcbpbaanoaaGreatDoor

def itemT (ns : List ByteArray) (x : ItemP) : List UInt8 := itemB ns x.1.toNat x.2.toNat
def partsT (ns : List ByteArray) (start : Bool) (xs : List ItemP) : List (List UInt8) := (if start then [[94]] else []) ++ xs.map (itemT ns)
def textP (ns : List ByteArray) (start : Bool) (xs : List ItemP) : List UInt8 := Lib.join (partsT ns start xs) [32]
def partsS (s : List UInt8) : List (List UInt8) := if s = [] then [] else partsL false [] s
def itemZ (ns : List ByteArray) (s : List UInt8) : Option ItemP := (itemR ns s).map fun p => (((p.1 : Nat) : Int), ((p.2 : Nat) : Int))
def itemsR (ns : List ByteArray) : List (List UInt8) → Option (List ItemP)
  | [] => some []
  | t :: l => match itemZ ns t with | none => none | some x => (itemsR ns l).map (x :: ·)
def fromParts (ns : List ByteArray) (l : List (List UInt8)) : Option (Bool × List ItemP) :=
  if l.head? = some [94] then (if l.tail.length ≤ 10 then (itemsR ns l.tail).map fun xs => (true, xs) else none)
  else if l.length ≤ 10 then (itemsR ns l).map fun xs => (false, xs) else none
def readP (ns : List ByteArray) (s : List UInt8) : Option (Bool × List ItemP) := fromParts ns (partsS s)
def printPV (ns : List ByteArray) (start : Bool) (xs : List ItemP) : List UInt8 := if namesL ns then (if rightB xs (ns.length : Nat) = true then textP ns start xs else []) else []
def printPE (ns : List ByteArray) (xs : List ItemP) : Int := if namesL ns then (if rightB xs (ns.length : Nat) = true then 0 else 80) else 2
def parsePV (ns : List ByteArray) (s : List UInt8) : Bool × List ItemP := if namesL ns then (readP ns s).getD (false, []) else (false, [])
def parsePE (ns : List ByteArray) (s : List UInt8) : Int := if namesL ns then (if (readP ns s).isSome then 0 else 80) else 2

theorem rightB_parts {xs : List ItemP} {n : Int} (h : rightB xs n = true) : (1 ≤ n ∧ n ≤ 32) ∧ xs.length ≤ 10 ∧ ∀ x ∈ xs, rightZ x.1 n = true ∧ (x.2 = 0 ∨ x.2 = 1 ∨ x.2 = 2) := by
  unfold rightB at h
  simp only [Bool.and_eq_true, decide_eq_true_eq, List.all_eq_true] at h
  exact ⟨h.1.1, h.1.2, h.2⟩
theorem rightB_of {xs : List ItemP} {n : Int} (h1 : 1 ≤ n ∧ n ≤ 32) (h2 : xs.length ≤ 10) (h3 : ∀ x ∈ xs, rightZ x.1 n = true ∧ (x.2 = 0 ∨ x.2 = 1 ∨ x.2 = 2)) : rightB xs n = true := by
  unfold rightB
  simp only [Bool.and_eq_true, decide_eq_true_eq, List.all_eq_true]
  exact ⟨⟨h1, h2⟩, h3⟩
theorem right_item {x : ItemP} {m : Nat} (h : rightZ x.1 (m : Nat) = true ∧ (x.2 = 0 ∨ x.2 = 1 ∨ x.2 = 2)) : ∃ a b : Nat, x = (((a : Nat) : Int), ((b : Nat) : Int)) ∧ a < 2 ^ m ∧ b ≤ 2 := by
  obtain ⟨a, n, h1, h2, _, _, h5⟩ := rightZ_of h.1
  obtain rfl : m = n := by omega
  refine ⟨a, x.2.toNat, ?_, h5, by omega⟩
  obtain ⟨u, v⟩ := x
  simp only at h1 h ⊢
  rw [h1]
  congr 1
  omega
theorem textB_head {ns : List ByteArray} (hn : namesL ns) (x : Nat) : (textB ns x).head? ≠ some 94 ∧ textB ns x ≠ [] := by
  unfold textB
  split
  · exact ⟨by decide, by decide⟩
  · split
    · rename_i h1
      obtain ⟨c, hc⟩ := List.length_eq_one_iff.1 h1
      refine ⟨listB_94 hn (classesK_lt _ _), fun h => ?_⟩
      rw [(listB_nil_iff hn (classesK_lt _ _)).1 h] at h1
      cases h1
    · split
      · exact ⟨by simp, by simp⟩
      · exact ⟨by simp, by simp⟩
theorem itemT_ne {ns : List ByteArray} (hn : namesL ns) (x : ItemP) : itemT ns x ≠ [94] ∧ itemT ns x ≠ [] := by
  obtain ⟨h1, h2⟩ := textB_head hn x.1.toNat
  unfold itemT itemB
  generalize textB ns x.1.toNat = t at h1 h2
  cases t with
  | nil => exact absurd rfl h2
  | cons b t =>
    refine ⟨fun h => h1 ?_, by simp⟩
    rw [List.cons_append] at h
    injection h with h _
    rw [h]; rfl
theorem itemZ_right {ns : List ByteArray} (hn : namesL ns) {s : List UInt8} {x : ItemP} (h : itemZ ns s = some x) : rightZ x.1 (ns.length : Nat) = true ∧ (x.2 = 0 ∨ x.2 = 1 ∨ x.2 = 2) := by
  unfold itemZ at h
  obtain ⟨p, hp, rfl⟩ := Option.map_eq_some_iff.1 h
  unfold itemR at hp
  split at hp
  · rename_i hl
    obtain ⟨y, hy, rfl⟩ := Option.map_eq_some_iff.1 hp
    exact ⟨rightZ_ok hn.2.2.1 hn.2.2.2 (readL_lt hy), by simp only; omega⟩
  · cases hp
theorem itemsR_right {ns : List ByteArray} (hn : namesL ns) : ∀ {l : List (List UInt8)} {xs : List ItemP}, itemsR ns l = some xs → xs.length = l.length ∧ ∀ x ∈ xs, rightZ x.1 (ns.length : Nat) = true ∧ (x.2 = 0 ∨ x.2 = 1 ∨ x.2 = 2)
  | [], xs, h => by cases h; exact ⟨rfl, by simp⟩
  | t :: l, xs, h => by
    rw [itemsR] at h
    split at h
    · cases h
    · rename_i x hx
      obtain ⟨ys, hy, rfl⟩ := Option.map_eq_some_iff.1 h
      obtain ⟨h1, h2⟩ := itemsR_right hn hy
      refine ⟨by simp [h1], fun z hz => ?_⟩
      rcases List.mem_cons.1 hz with rfl | hz
      · exact itemZ_right hn hx
      · exact h2 z hz
theorem readP_right {ns : List ByteArray} (hn : namesL ns) {s : List UInt8} {start : Bool} {xs : List ItemP} (h : readP ns s = some (start, xs)) : rightB xs (ns.length : Nat) = true := by
  have h1 := hn.2.2
  unfold readP fromParts at h
  split at h
  · split at h
    · rename_i hl
      obtain ⟨ys, hy, e⟩ := Option.map_eq_some_iff.1 h
      cases e
      obtain ⟨a, b⟩ := itemsR_right hn hy
      exact rightB_of (by omega) (by omega) b
    · cases h
  · split at h
    · rename_i hl
      obtain ⟨ys, hy, e⟩ := Option.map_eq_some_iff.1 h
      cases e
      obtain ⟨a, b⟩ := itemsR_right hn hy
      exact rightB_of (by omega) (by omega) b
    · cases h
theorem itemsR_snoc (ns : List ByteArray) : ∀ (l : List (List UInt8)) (t : List UInt8), itemsR ns (l ++ [t]) = (itemsR ns l).bind fun xs => (itemZ ns t).map fun x => xs ++ [x]
  | [], t => by
    rw [List.nil_append, itemsR, itemsR]
    cases itemZ ns t <;> rfl
  | u :: l, t => by
    rw [List.cons_append, itemsR, itemsR, itemsR_snoc ns l t]
    cases itemZ ns u with
    | none => rfl
    | some x =>
      cases itemsR ns l with
      | none => rfl
      | some xs => cases itemZ ns t <;> rfl
theorem itemsR_none_append (ns : List ByteArray) : ∀ (l r : List (List UInt8)), itemsR ns l = none → itemsR ns (l ++ r) = none
  | [], r, h => by cases h
  | u :: l, r, h => by
    rw [List.cons_append, itemsR]
    rw [itemsR] at h
    cases hu : itemZ ns u with
    | none => rfl
    | some x =>
      rw [hu] at h
      have : itemsR ns l = none := by
        cases hl : itemsR ns l with
        | none => rfl
        | some y => rw [hl] at h; cases h
      simp only [itemsR_none_append ns l r this]
      rfl
end Go.Proofs.YtnmhdcbpbaanoaaGreatDoor
namespace Go.Proofs.YtnmhdcbpbaanoaaGreatDoor

theorem hasZ_nat {x : Nat} (h : x < 2 ^ 32) (c : Int) : hasZ (x : Int) c = (decide (0 ≤ c ∧ c < 32) && x.testBit c.toNat) := by
  unfold hasZ
  rw [rightZ_32 (Nat.le_refl 32) h, Bool.true_and, Int.toNat_natCast]
theorem notZ_nat {x n : Nat} (h1 : 1 ≤ n) (h2 : n ≤ 32) (h : x < 2 ^ n) : notZ (x : Int) (n : Int) = ((notN n x : Nat) : Int) := by
  unfold notZ
  rw [rightZ_ok h1 h2 h]
  simp
end Go.Proofs.YtnmhdcbpbaanoaaGreatDoor
namespace Go.Proofs.YtnmhdcbpbaanoaaGreatDoor
open Go.RowKit Go.Shelf
attribute [local go_sem] Oper.semAt_some

abbrev setC (s n : Int) : Array Value := #[.int .i64 s, .int .i64 n]
theorem wrap_idK {x : Int} (h0 : -9223372036854775808 ≤ x) (h1 : x ≤ 9223372036854775807) : wrap64 x = x := by unfold wrap64; omega
theorem two_32 {n : Nat} (h : n ≤ 32) : 2 ^ n ≤ 4294967296 := by
  have := Nat.pow_le_pow_right (n := 2) (by decide) h
  omega
theorem shlK {n : Nat} (h : n ≤ 32) : wrap64 (2 ^ n) = ((2 ^ n : Nat) : Int) := by
  have h2 := two_32 h
  rw [show ((2 : Int) ^ n) = ((2 ^ n : Nat) : Int) by simp]
  obtain ⟨p, hp⟩ : ∃ p, 2 ^ n = p := ⟨_, rfl⟩
  rw [hp] at h2 ⊢
  exact wrap_idK (by omega) (by omega)
@[go_sem] theorem run_fld0K (s n : Int) (w : World) : (Instr.field 180 (.agg #[.int .i64 s, .int .i64 n]) 0).run Tryz.prog w = .ok (.int .i64 s) w := by kernel_rfl
theorem results_set {fn : Func} {p : Tmp} (h : fn.results = #[.cell p 180]) (tmps : Array Value) (w : World) (g : Nat) (cs : Array Value) (hz : cs.size = 2) (hp : tmps.getD p undef = .pointer (some ⟨g, 0, none⟩)) (hg : w.heap[g]? = some (.cells cs 180 (0, 0))) :
    (results fn tmps).run Tryz.prog w = .ok (.agg cs) w := by
  have hp' : tmps[p]?.getD undef = .pointer (some ⟨g, 0, none⟩) := by simpa using hp
  have hi : (Tryz.prog.info? 180).map (·.size) = some cs.size := by rw [hz]; kernel_rfl
  simp [results, h, hp', asAddr, run_loadVar_row w g 180 180 cs (0, 0) _ hg Tryz.underlying180 rfl hi]
set_option maxHeartbeats 1000000 in
theorem whole_any (n : Nat) (hn : n ≤ 32) (w : World) : Calls Tryz.prog 130 #[.int .i64 (n : Nat)] w fun e w' => e = .returned (.agg #[.int .i64 ((2 ^ n - 1 : Nat) : Int), .int .i64 (n : Nat)]) ∧ Below w.heap.size w w' := by
  have e1 := shlK hn
  have h2 := two_32 hn
  have h1 := two_pos n
  obtain ⟨p, hp⟩ : ∃ p, 2 ^ n = p := ⟨_, rfl⟩
  rw [hp] at e1 h1 h2 ⊢
  rw [show ((p - 1 : Nat) : Int) = ((p : Nat) : Int) - 1 by omega]
  clear hp
  go_enter Tryz.func130, Tryz.ntmps130
  go_wp2
  refine bodyPost_ret (v := .agg #[.int .i64 (((p : Nat) : Int) - 1), .int .i64 (n : Nat)]) ?_ rfl ⟨rfl, (Below.refl _ _).alloc (Nat.le_refl _) _⟩
  exact results_set rfl _ _ w.heap.size (setC (((p : Nat) : Int) - 1) (n : Nat)) rfl rfl (heap_alloc_new _ _)
set_option maxRecDepth 100000 in
set_option maxHeartbeats 2000000 in
theorem right_anyK (s n : Int) (w : World) : Calls Tryz.prog 109 #[.agg #[.int .i64 s, .int .i64 n]] w fun e w' => e = .returned (.bool (rightZ s n)) ∧ Below w.heap.size w w' := by
  have c0 : (w.alloc (.cells #[.int .i64 s, .int .i64 n] 180)).cell? ⟨w.heap.size, 0, none⟩ = some (.int .i64 s) := cell_of_row _ _ 0 _ _ _ (heap_alloc_new _ _)
  have c1 : (w.alloc (.cells #[.int .i64 s, .int .i64 n] 180)).cell? ⟨w.heap.size, 1, none⟩ = some (.int .i64 n) := cell_of_row _ _ 1 _ _ _ (heap_alloc_new _ _)
  have A0 : Below w.heap.size w (w.alloc (.cells #[.int .i64 s, .int .i64 n] 180)) := (Below.refl _ _).alloc (Nat.le_refl _) _
  have B0 := Lib.hid A0
  obtain ⟨P, hP⟩ : ∃ P, (fun (e : Ending) w' => e = .returned (.bool (rightZ s n)) ∧ Below w.heap.size w w') = P := ⟨_, rfl⟩
  have HP := Lib.hid hP
  have NO : ¬ (1 ≤ n ∧ n ≤ 32 ∧ 0 ≤ s ∧ s < 2 ^ n.toNat) → ∀ W, Below w.heap.size w W → Hid (P (.returned (.bool false)) W) := fun h W hb => by
    rw [← HP.out]
    exact Lib.hid ⟨by unfold rightZ; rw [decide_eq_false h], hb⟩
  have YES : (1 ≤ n ∧ n ≤ 32 ∧ 0 ≤ s ∧ s < 2 ^ n.toNat) → ∀ W, Below w.heap.size w W → Hid (P (.returned (.bool true)) W) := fun h W hb => by
    rw [← HP.out]
    exact Lib.hid ⟨by unfold rightZ; rw [decide_eq_true h], hb⟩
  rw [hP]
  clear hP A0
  by_cases g1 : 1 ≤ n
  · have d1 : decide ((1 : Int) ≤ n) = true := decide_eq_true g1
    by_cases g2 : n ≤ 32
    · have d2 : decide (n ≤ (32 : Int)) = true := decide_eq_true g2
      by_cases g3 : 0 ≤ s
      · have d3 : decide ((0 : Int) ≤ s) = true := decide_eq_true g3
        obtain ⟨m, rfl⟩ := Int.eq_ofNat_of_zero_le (show 0 ≤ n by omega)
        have hm : m ≤ 32 := by omega
        have W1 := fun W => Lib.hid (whole_any m hm W)
        have hp := two_pos m
        have e2 : ((2 : Int) ^ m) = ((2 ^ m : Nat) : Int) := by simp
        rw [Int.toNat_natCast, e2] at NO YES
        obtain ⟨p, hpp⟩ : ∃ p, 2 ^ m = p := ⟨_, rfl⟩
        rw [hpp] at NO YES W1 hp
        obtain ⟨q, hq⟩ : ∃ q, p - 1 = q := ⟨_, rfl⟩
        rw [hq] at W1
        have EV : ∃ b, b = decide (s ≤ ((q : Nat) : Int)) ∧ ∀ W, Below w.heap.size w W → Hid (P (.returned (.bool b)) W) := by
          by_cases g4 : s < ((p : Nat) : Int)
          · exact ⟨true, (decide_eq_true (by omega)).symm, YES ⟨g1, g2, g3, g4⟩⟩
          · exact ⟨false, (decide_eq_false (by omega)).symm, NO fun h => g4 h.2.2.2⟩
        obtain ⟨b, hb, YY⟩ := EV
        have Y2 := Lib.hid YY
        have hb2 := hb.symm
        obtain ⟨W0, hW0⟩ : ∃ W0, w.alloc (.cells #[.int .i64 s, .int .i64 ((m : Nat) : Int)] 180) = W0 := ⟨_, rfl⟩
        rw [hW0] at c0 c1 B0
        have HW := Lib.hid hW0
        have hlt : w.heap.size < W0.heap.size := World.block_lt_of_cell? W0 _ c0
        have keepS : ∀ {W W' : World}, Below W.heap.size W W' → (W.cell? ⟨w.heap.size, 0, none⟩ = some (.int .i64 s) ∧ W.cell? ⟨w.heap.size, 1, none⟩ = some (.int .i64 ((m : Nat) : Int)) ∧ Below W0.heap.size W0 W) → (W'.cell? ⟨w.heap.size, 0, none⟩ = some (.int .i64 s) ∧ W'.cell? ⟨w.heap.size, 1, none⟩ = some (.int .i64 ((m : Nat) : Int)) ∧ Below W0.heap.size W0 W') := fun hb h => ⟨cell_keep hb h.1, cell_keep hb h.2.1, h.2.2.trans (hb.mono h.2.2.size)⟩
        have HD : W0.drew.cell? ⟨w.heap.size, 0, none⟩ = some (.int .i64 s) ∧ W0.drew.cell? ⟨w.heap.size, 1, none⟩ = some (.int .i64 ((m : Nat) : Int)) ∧ Below W0.heap.size W0 W0.drew := ⟨c0, c1, (Below.refl _ _).drew⟩
        have K1 : Hid (∀ W, (W.cell? ⟨w.heap.size, 0, none⟩ = some (.int .i64 s) ∧ W.cell? ⟨w.heap.size, 1, none⟩ = some (.int .i64 ((m : Nat) : Int)) ∧ Below W0.heap.size W0 W) → Calls Tryz.prog 130 #[.int .i64 ((m : Nat) : Int)] W fun e W' => e = .returned (.agg #[.int .i64 ((q : Nat) : Int), .int .i64 ((m : Nat) : Int)]) ∧ (W'.cell? ⟨w.heap.size, 0, none⟩ = some (.int .i64 s) ∧ W'.cell? ⟨w.heap.size, 1, none⟩ = some (.int .i64 ((m : Nat) : Int)) ∧ Below W0.heap.size W0 W')) := Lib.hid fun W hS => ((W1 W).out).mono fun e W' h => ⟨h.1, keepS h.2 hS⟩
        have hfol : Tryz.prog.follows .mixedOrders = true := by kernel_rfl
        clear NO YES hpp e2 hb YY hq hp g1 g2 g3 hW0 keepS W1
        go_enter Tryz.func109, Tryz.ntmps109
        go_wp2_with fail
        rw [HW.out]
        go_region_held3 (fun W => W.cell? ⟨w.heap.size, 0, none⟩ = some (.int .i64 s) ∧ W.cell? ⟨w.heap.size, 1, none⟩ = some (.int .i64 ((m : Nat) : Int)) ∧ Below W0.heap.size W0 W) (first | assumption | exact HD | go_keep) (first | (go_at_call 130; refine (K1.out _ (by first | assumption | exact HD | exact hg)).mono ?_; rintro e w' ⟨rfl, hg⟩))
        all_goals
          go_wp2
          exact (Y2.out _ (B0.out.trans (hg.2.2.mono B0.out.size))).out
      · have NN := Lib.hid (NO (by omega))
        have d3 : decide ((0 : Int) ≤ s) = false := decide_eq_false g3
        clear NO YES
        go_enter Tryz.func109, Tryz.ntmps109
        go_wp2_with fail
        go_quiet (fail)
        go_wp2
        exact (NN.out _ (B0.out.trans ((below_drewN _ _).mono B0.out.size))).out
    · have NN := Lib.hid (NO (by omega))
      have d2 : decide (n ≤ (32 : Int)) = false := decide_eq_false g2
      clear NO YES
      go_enter Tryz.func109, Tryz.ntmps109
      go_wp2_with fail
      go_quiet (fail)
      go_wp2
      exact (NN.out _ (B0.out.trans ((below_drewN _ _).mono B0.out.size))).out
  · have NN := Lib.hid (NO (by omega))
    have d1 : decide ((1 : Int) ≤ n) = false := decide_eq_false g1
    clear NO YES
    go_enter Tryz.func109, Tryz.ntmps109
    go_wp2_with fail
    go_quiet (fail)
    go_wp2
    exact (NN.out _ (B0.out.trans ((below_drewN _ _).mono B0.out.size))).out
theorem bit_walkK {x c : Nat} (hx : x < 2 ^ 32) : bits .and .i64 (((x : Nat) : Int) / 2 ^ c) 1 = ((if x.testBit c then 1 else 0 : Nat) : Int) := by
  have e2 : ((x : Nat) : Int) / 2 ^ c = ((x / 2 ^ c : Nat) : Int) := by simp
  have hl : x / 2 ^ c < 2 ^ 32 := Nat.lt_of_le_of_lt (Nat.div_le_self _ _) hx
  rw [e2]
  have := bits_mask .i64 32 (by decide) (fun n h0 h1 => by rw [IntKind.wrap_i64]; omega) 1 (by decide) ((x / 2 ^ c : Nat) : Int) (Int.natCast_nonneg _) (by exact_mod_cast hl)
  simp only [Int.pow_one] at this
  rw [show ((2 : Int) - 1) = 1 from rfl] at this
  rw [this]
  have hb := div_bit x c
  by_cases h : x.testBit c = true
  · rw [h] at hb ⊢
    have := of_decide_eq_true hb
    rw [if_pos rfl]
    omega
  · rw [Bool.not_eq_true] at h
    rw [h] at hb ⊢
    have := of_decide_eq_false hb
    rw [if_neg (by decide)]
    omega
set_option maxRecDepth 100000 in
set_option maxHeartbeats 2000000 in
theorem has_anyK (x n : Nat) (hx : x < 2 ^ 32) (hn : n ≤ 32) (c : Int) (w : World) : Calls Tryz.prog 142 #[.agg #[.int .i64 (x : Nat), .int .i64 (n : Nat)], .int .i64 c] w fun e w' => e = .returned (.bool (decide (0 ≤ c ∧ c < (n : Nat)) && x.testBit c.toNat)) ∧ Below w.heap.size w w' := by
  have c0 : (w.alloc (.cells #[.int .i64 ((x : Nat) : Int), .int .i64 ((n : Nat) : Int)] 180)).cell? ⟨w.heap.size, 0, none⟩ = some (.int .i64 ((x : Nat) : Int)) := cell_of_row _ _ 0 _ _ _ (heap_alloc_new _ _)
  have c1 : (w.alloc (.cells #[.int .i64 ((x : Nat) : Int), .int .i64 ((n : Nat) : Int)] 180)).cell? ⟨w.heap.size, 1, none⟩ = some (.int .i64 ((n : Nat) : Int)) := cell_of_row _ _ 1 _ _ _ (heap_alloc_new _ _)
  have A0 : Below w.heap.size w (w.alloc (.cells #[.int .i64 ((x : Nat) : Int), .int .i64 ((n : Nat) : Int)] 180)) := (Below.refl _ _).alloc (Nat.le_refl _) _
  obtain ⟨W0, hW0⟩ : ∃ W0, w.alloc (.cells #[.int .i64 ((x : Nat) : Int), .int .i64 ((n : Nat) : Int)] 180) = W0 := ⟨_, rfl⟩
  rw [hW0] at c0 c1 A0
  have HW := Lib.hid hW0
  have B0 := Lib.hid A0
  have hlt : w.heap.size < W0.heap.size := World.block_lt_of_cell? W0 _ c0
  by_cases g1 : 0 ≤ c
  · have d1 : decide ((0 : Int) ≤ c) = true := decide_eq_true g1
    obtain ⟨k, rfl⟩ := Int.eq_ofNat_of_zero_le g1
    by_cases g2 : k < n
    · have d2 : decide (k < n) = true := decide_eq_true g2
      have hb := bit_walkK (c := k) hx
      rw [decide_eq_true (show (0 : Int) ≤ ((k : Nat) : Int) ∧ ((k : Nat) : Int) < ((n : Nat) : Int) by omega), Bool.true_and, Int.toNat_natCast]
      have hk : k ≤ 32 := by omega
      obtain ⟨b, hbb⟩ : ∃ b, x.testBit k = b := ⟨_, rfl⟩
      rw [hbb] at hb ⊢
      have he : (((if b then 1 else 0 : Nat) : Int) == 1) = b := by cases b <;> rfl
      clear A0 hW0 hx hbb g1
      go_enter Tryz.func142, Tryz.ntmps142
      go_wp2_with fail
      all_goals
        go_ret
        exact ⟨by simp_all, HW.out ▸ B0.out⟩
    · rw [decide_eq_false (by omega), Bool.false_and]
      have d2 : decide (k < n) = false := decide_eq_false g2
      clear A0 hW0 hx g1
      go_enter Tryz.func142, Tryz.ntmps142
      go_wp2_with fail
      go_ret
      exact ⟨rfl, HW.out ▸ B0.out⟩
  · rw [decide_eq_false (by omega), Bool.false_and]
    have d1 : decide ((0 : Int) ≤ c) = false := decide_eq_false g1
    clear A0 hW0 hx
    go_enter Tryz.func142, Tryz.ntmps142
    go_wp2_with fail
    go_ret
    exact ⟨rfl, HW.out ▸ B0.out⟩
end Go.Proofs.YtnmhdcbpbaanoaaGreatDoor
namespace Go.Proofs.YtnmhdcbpbaanoaaGreatDoor

def pA (m x : Nat) : Nat := (x / 2 &&& m) + (x &&& m)
def pB (m x : Nat) : Nat := (x / 4 &&& m) + (x &&& m)
def pC (m x : Nat) : Nat := (x / 16 + x) &&& m
theorem and_split (k : Nat) {a b c d : Nat} (ha : a < 2 ^ k) (hc : c < 2 ^ k) : (a + 2 ^ k * b) &&& (c + 2 ^ k * d) = (a &&& c) + 2 ^ k * (b &&& d) := by
  have hac : a &&& c < 2 ^ k := Nat.and_lt_two_pow _ hc
  apply Nat.eq_of_testBit_eq
  intro i
  rw [Nat.testBit_and, Nat.add_comm a, Nat.add_comm c, Nat.add_comm (a &&& c), Nat.testBit_two_pow_mul_add b ha, Nat.testBit_two_pow_mul_add d hc, Nat.testBit_two_pow_mul_add (b &&& d) hac]
  split <;> rw [Nat.testBit_and]
theorem pA_split {a b m : Nat} (ha : a < 256) : pA (85 + 256 * m) (a + 256 * b) = pA 85 a + 256 * pA m b := by
  have e : (a + 256 * b) / 2 = (a / 2 + 128 * (b % 2)) + 256 * (b / 2) := by omega
  have h1 := and_split 8 (a := a / 2 + 128 * (b % 2)) (b := b / 2) (c := 85) (d := m) (by omega) (by omega)
  have h2 := and_split 7 (a := a / 2) (b := b % 2) (c := 85) (d := 0) (by omega) (by omega)
  have h3 := and_split 8 (a := a) (b := b) (c := 85) (d := m) ha (by omega)
  simp only [Nat.reducePow, Nat.and_zero, Nat.mul_zero, Nat.add_zero] at h1 h2 h3
  unfold pA
  rw [e, h1, h2, h3]
  omega
theorem pB_split {a b m : Nat} (ha : a < 256) : pB (51 + 256 * m) (a + 256 * b) = pB 51 a + 256 * pB m b := by
  have e : (a + 256 * b) / 4 = (a / 4 + 64 * (b % 4)) + 256 * (b / 4) := by omega
  have h1 := and_split 8 (a := a / 4 + 64 * (b % 4)) (b := b / 4) (c := 51) (d := m) (by omega) (by omega)
  have h2 := and_split 6 (a := a / 4) (b := b % 4) (c := 51) (d := 0) (by omega) (by omega)
  have h3 := and_split 8 (a := a) (b := b) (c := 51) (d := m) ha (by omega)
  simp only [Nat.reducePow, Nat.and_zero, Nat.mul_zero, Nat.add_zero] at h1 h2 h3
  unfold pB
  rw [e, h1, h2, h3]
  omega
theorem pC_split {a b m : Nat} (ha : a < 256) (h1 : a % 16 ≤ 4) (h2 : a / 16 ≤ 4) (h3 : b % 16 ≤ 4) : pC (15 + 256 * m) (a + 256 * b) = (a % 16 + a / 16) + 256 * pC m b := by
  have e : (a + 256 * b) / 16 + (a + 256 * b) = ((a % 16 + a / 16) + 16 * (a / 16 + b % 16)) + 256 * (b / 16 + b) := by omega
  have g1 := and_split 8 (a := (a % 16 + a / 16) + 16 * (a / 16 + b % 16)) (b := b / 16 + b) (c := 15) (d := m) (by omega) (by omega)
  have g2 := and_split 4 (a := a % 16 + a / 16) (b := a / 16 + b % 16) (c := 15) (d := 0) (by omega) (by omega)
  have g3 : (a % 16 + a / 16) &&& 15 = a % 16 + a / 16 := by
    rw [show (15 : Nat) = 2 ^ 4 - 1 from rfl, Nat.and_two_pow_sub_one_eq_mod]
    omega
  simp only [Nat.reducePow, Nat.and_zero, Nat.mul_zero, Nat.add_zero] at g1 g2
  unfold pC
  rw [e, g1, g2, g3]
def qB (a : Nat) : Nat := pB 51 (pA 85 a)
theorem byte_all : ∀ a : Fin 256, pA 85 a.val < 256 ∧ qB a.val < 256 ∧ qB a.val % 16 ≤ 4 ∧ qB a.val / 16 ≤ 4 ∧ qB a.val % 16 + qB a.val / 16 = (classesN 8 a.val).length := by decide +kernel
theorem cnt_split {a : Nat} (ha : a < 256) (b : Nat) : ∀ n, (classesN (8 + n) (a + 256 * b)).length = (classesN 8 a).length + (classesN n b).length
  | 0 => by
    have e : classesN 8 (a + 256 * b) = classesN 8 a := by
      unfold classesN
      apply List.filter_congr
      intro i hi
      have h8 : i < 8 := List.mem_range.1 hi
      have := Nat.testBit_two_pow_mul_add b (show a < 2 ^ 8 from ha) i
      rw [if_pos h8] at this
      rw [Nat.add_comm a]
      exact this
    rw [Nat.add_zero, e]
    rfl
  | n + 1 => by
    have e : (a + 256 * b).testBit (8 + n) = b.testBit n := by
      have := Nat.testBit_two_pow_mul_add b (show a < 2 ^ 8 from ha) (8 + n)
      rw [if_neg (by omega), show 8 + n - 8 = n by omega] at this
      rw [Nat.add_comm a]
      exact this
    rw [← Nat.add_assoc, classesN_snoc (8 + n), classesN_snoc n b, List.length_append, List.length_append, cnt_split ha b n, e]
    cases b.testBit n <;> simp <;> omega
def mA : Nat := 6148914691236517205
def mB : Nat := 3689348814741910323
def mC : Nat := 1085102592571150095
theorem four {p q r s : Nat} (hp : p < 256) (hq : q < 256) (hr : r < 256) (hs : s < 256) : p + 256 * (q + 256 * (r + 256 * (s + 256 * 0))) < 2 ^ 32 := by omega
theorem low16 {q x : Nat} (h : q % 16 ≤ 4) : (q + 256 * x) % 16 ≤ 4 := by omega
theorem ones_three {x : Nat} (h : x < 2 ^ 32) : ∃ p q r s : Nat, p ≤ 8 ∧ q ≤ 8 ∧ r ≤ 8 ∧ s ≤ 8 ∧ pC mC (pB mB (pA mA x)) = p + 256 * (q + 256 * (r + 256 * s)) ∧ (classesN 32 x).length = p + q + r + s ∧ pA mA x < 2 ^ 32 ∧ pB mB (pA mA x) < 2 ^ 32 := by
  obtain ⟨a, x1, ha, rfl⟩ : ∃ a x1, a < 256 ∧ x = a + 256 * x1 := ⟨x % 256, x / 256, by omega, by omega⟩
  obtain ⟨b, x2, hb, rfl⟩ : ∃ a y, a < 256 ∧ x1 = a + 256 * y := ⟨x1 % 256, x1 / 256, by omega, by omega⟩
  obtain ⟨c, x3, hc, rfl⟩ : ∃ a y, a < 256 ∧ x2 = a + 256 * y := ⟨x2 % 256, x2 / 256, by omega, by omega⟩
  obtain ⟨d, o, hd, ho, rfl⟩ : ∃ d o, d < 256 ∧ o = 0 ∧ x3 = d + 256 * o := ⟨x3, 0, by omega, rfl, by omega⟩
  have A := byte_all ⟨a, ha⟩
  have B := byte_all ⟨b, hb⟩
  have C := byte_all ⟨c, hc⟩
  have D := byte_all ⟨d, hd⟩
  simp only at A B C D
  have l1 := (classesN_le 8 a)
  have l2 := (classesN_le 8 b)
  have l3 := (classesN_le 8 c)
  have l4 := (classesN_le 8 d)
  have z : pA 1431655765 0 = 0 ∧ pB 858993459 0 = 0 ∧ pC 252645135 0 = 0 := by decide
  have e1 : pA mA (a + 256 * (b + 256 * (c + 256 * (d + 256 * o)))) = pA 85 a + 256 * (pA 85 b + 256 * (pA 85 c + 256 * (pA 85 d + 256 * 0))) := by
    rw [show mA = 85 + 256 * (85 + 256 * (85 + 256 * (85 + 256 * 1431655765))) from rfl, pA_split ha, pA_split hb, pA_split hc, pA_split hd, ho, z.1]
  have e2 : pB mB (pA 85 a + 256 * (pA 85 b + 256 * (pA 85 c + 256 * (pA 85 d + 256 * 0)))) = qB a + 256 * (qB b + 256 * (qB c + 256 * (qB d + 256 * 0))) := by
    rw [show mB = 51 + 256 * (51 + 256 * (51 + 256 * (51 + 256 * 858993459))) from rfl, pB_split A.1, pB_split B.1, pB_split C.1, pB_split D.1, z.2.1]
    rfl
  have e3 : pC mC (qB a + 256 * (qB b + 256 * (qB c + 256 * (qB d + 256 * 0)))) = (classesN 8 a).length + 256 * ((classesN 8 b).length + 256 * ((classesN 8 c).length + 256 * ((classesN 8 d).length + 256 * 0))) := by
    rw [show mC = 15 + 256 * (15 + 256 * (15 + 256 * (15 + 256 * 252645135))) from rfl, pC_split A.2.1 A.2.2.1 A.2.2.2.1 (low16 B.2.2.1), pC_split B.2.1 B.2.2.1 B.2.2.2.1 (low16 C.2.2.1), pC_split C.2.1 C.2.2.1 C.2.2.2.1 (low16 D.2.2.1), pC_split D.2.1 D.2.2.1 D.2.2.2.1 (by decide), z.2.2,
      A.2.2.2.2, B.2.2.2.2, C.2.2.2.2, D.2.2.2.2]
  have e4 := cnt_split ha (b + 256 * (c + 256 * (d + 256 * o))) 24
  have e5 := cnt_split hb (c + 256 * (d + 256 * o)) 16
  have e6 := cnt_split hc (d + 256 * o) 8
  simp only [ho, Nat.mul_zero, Nat.add_zero] at e4 e5 e6
  refine ⟨_, _, _, _, l1, l2, l3, l4, ?_, ?_, ?_, ?_⟩
  · rw [e1, e2, e3, Nat.mul_zero, Nat.add_zero]
  · rw [ho, Nat.mul_zero, Nat.add_zero, show (32 : Nat) = 8 + 24 from rfl, e4, show (24 : Nat) = 8 + 16 from rfl, e5, show (16 : Nat) = 8 + 8 from rfl, e6, Nat.add_assoc, Nat.add_assoc]
  · rw [e1]; exact four A.1 B.1 C.1 D.1
  · rw [e1, e2]; exact four A.2.1 B.2.1 C.2.1 D.2.1
theorem ones_last {p q r s : Nat} (hp : p ≤ 8) (hq : q ≤ 8) (hr : r ≤ 8) (hs : s ≤ 8) {y : Nat} (hy : y = p + 256 * (q + 256 * (r + 256 * s))) :
    ∃ y1 y2 : Nat, y1 = y + y / 256 ∧ y2 = y1 + y1 / 65536 ∧ y < 2 ^ 28 ∧ y1 < 2 ^ 29 ∧ y2 < 2 ^ 30 ∧ y2 / 2 ^ 32 = 0 ∧ y2 % 128 = p + q + r + s := by
  have e1 : y / 256 = q + 256 * (r + 256 * s) := by omega
  obtain ⟨y1, hy1⟩ : ∃ y1, y1 = y + y / 256 := ⟨_, rfl⟩
  have f1 : y1 = (p + q) + 256 * (q + r) + 65536 * ((r + s) + 256 * s) := by omega
  have e2 : y1 / 65536 = (r + s) + 256 * s := by omega
  obtain ⟨y2, hy2⟩ : ∃ y2, y2 = y1 + y1 / 65536 := ⟨_, rfl⟩
  have f2 : y2 = (p + q + r + s) + 128 * (2 * (q + r + s) + 512 * ((r + s) + 256 * s)) := by omega
  exact ⟨y1, y2, hy1, hy2, by omega, by omega, by omega, by omega, by omega⟩
end Go.Proofs.YtnmhdcbpbaanoaaGreatDoor
namespace Go.Proofs.YtnmhdcbpbaanoaaGreatDoor
open Go.RowKit Go.Shelf
attribute [local go_sem] Oper.semAt_some

theorem shlI {n : Nat} (h : n ≤ 32) : IntKind.i64.wrap (2 ^ min n 64) = ((2 ^ n : Nat) : Int) := by
  have h2 := two_32 h
  rw [show min n 64 = n by omega, show ((2 : Int) ^ n) = ((2 ^ n : Nat) : Int) by simp]
  obtain ⟨p, hp⟩ : ∃ p, 2 ^ n = p := ⟨_, rfl⟩
  rw [hp] at h2 ⊢
  rw [IntKind.wrap_i64]
  omega
theorem orK {x c : Nat} (hx : x < 2 ^ 32) (hc : c < 32) : bits .or .i64 ((x : Nat) : Int) ((2 ^ c : Nat) : Int) = ((x ||| 2 ^ c : Nat) : Int) :=
  (bits_nat .i64 32 (by decide) (fun n h0 h1 => by rw [IntKind.wrap_i64]; omega) x (2 ^ c) hx (Nat.pow_lt_pow_right (by decide) hc)).2
theorem andNotK {x n : Nat} (hn : n ≤ 32) (hx : x < 2 ^ n) : bits .andNot .i64 ((2 ^ n - 1 : Nat) : Int) ((x : Nat) : Int) = ((notN n x : Nat) : Int) := by
  have hp : 2 ^ n ≤ 2 ^ 32 := Nat.pow_le_pow_right (by decide) hn
  have hp1 := two_pos n
  have h64 : (2 : Nat) ^ 32 < 2 ^ 64 := by decide
  have e : (BitVec.ofNat 64 (2 ^ n - 1) &&& ~~~ BitVec.ofNat 64 x).toNat = notN n x := by
    apply Nat.eq_of_testBit_eq
    intro i
    rw [notN_bit hx, BitVec.testBit_toNat, BitVec.getLsbD_and, BitVec.getLsbD_not, ← BitVec.testBit_toNat, ← BitVec.testBit_toNat, BitVec.toNat_ofNat, BitVec.toNat_ofNat, Nat.mod_eq_of_lt (show 2 ^ n - 1 < 2 ^ 64 by omega), Nat.mod_eq_of_lt (show x < 2 ^ 64 by omega), Nat.testBit_two_pow_sub_one]
    by_cases h : i < n
    · rw [decide_eq_true h, decide_eq_true (show i < 64 by omega), Bool.true_and]
    · rw [decide_eq_false h, Bool.false_and, Bool.false_and]
  show IntKind.i64.wrap ((BitVec.ofInt 64 ((2 ^ n - 1 : Nat) : Int) &&& ~~~ BitVec.ofInt 64 ((x : Nat) : Int)).toNat : Int) = _
  rw [BitVec.ofInt_natCast, BitVec.ofInt_natCast, e]
  have : notN n x < 2 ^ n := notN_lt
  rw [IntKind.wrap_i64]
  omega
set_option maxRecDepth 100000 in
set_option maxHeartbeats 2000000 in
theorem with_any (x n c : Nat) (hx : x < 2 ^ 32) (hc : c < 32) (w : World) : Calls Tryz.prog 197 #[.agg #[.int .i64 (x : Nat), .int .i64 (n : Nat)], .int .i64 (c : Nat)] w fun e w' => e = .returned (.agg #[.int .i64 ((x ||| 2 ^ c : Nat) : Int), .int .i64 (n : Nat)]) ∧ Below w.heap.size w w' := by
  have e1 := shlK (show c ≤ 32 by omega)
  have e1' := shlI (show c ≤ 32 by omega)
  have e2 := orK hx hc
  obtain ⟨p, hp⟩ : ∃ p, 2 ^ c = p := ⟨_, rfl⟩
  rw [hp] at e1 e1' e2 ⊢
  obtain ⟨r, hr⟩ : ∃ r, x ||| p = r := ⟨_, rfl⟩
  rw [hr] at e2 ⊢
  have r1 : ((w.alloc (.cells #[.int .i64 ((x : Nat) : Int), .int .i64 ((n : Nat) : Int)] 180)).alloc (.cells #[.int .i64 0, .int .i64 0] 180)).heap[w.heap.size]? = some (.cells #[.int .i64 ((x : Nat) : Int), .int .i64 ((n : Nat) : Int)] 180 (0, 0)) := by
    rw [Below.heap_alloc _ _ _ (by simp)]; exact heap_alloc_new _ _
  have r2 : ((w.alloc (.cells #[.int .i64 ((x : Nat) : Int), .int .i64 ((n : Nat) : Int)] 180)).alloc (.cells #[.int .i64 0, .int .i64 0] 180)).heap[w.heap.size + 1]? = some (.cells #[.int .i64 0, .int .i64 0] 180 (0, 0)) := by
    have := heap_alloc_new (w.alloc (.cells #[.int .i64 ((x : Nat) : Int), .int .i64 ((n : Nat) : Int)] 180)) (.cells #[.int .i64 0, .int .i64 0] 180)
    rwa [World.size_alloc] at this
  have A0 : Below w.heap.size w ((w.alloc (.cells #[.int .i64 ((x : Nat) : Int), .int .i64 ((n : Nat) : Int)] 180)).alloc (.cells #[.int .i64 0, .int .i64 0] 180)) := ((Below.refl _ _).alloc (Nat.le_refl _) _).alloc (by simp) _
  obtain ⟨W0, hW0⟩ : ∃ W0, (w.alloc (.cells #[.int .i64 ((x : Nat) : Int), .int .i64 ((n : Nat) : Int)] 180)).alloc (.cells #[.int .i64 0, .int .i64 0] 180) = W0 := ⟨_, rfl⟩
  rw [hW0] at r1 r2 A0
  have HW := Lib.hid hW0
  have B0 := Lib.hid A0
  have R2 := Lib.hid r2
  have c0 := cell_of_row _ _ 0 _ _ _ r1
  have c1 := cell_of_row _ _ 1 _ _ _ r1
  have d0 := cell_of_row _ _ 0 _ _ _ r2
  have d1 := cell_of_row _ _ 1 _ _ _ r2
  have f0 : W0.frozen? ⟨w.heap.size + 1, 0, none⟩ = false := frozen_of_row _ _ _ _ _ r2
  have f1 : W0.frozen? ⟨w.heap.size + 1, 1, none⟩ = false := frozen_of_row _ _ _ _ _ r2
  simp only [List.getElem?_toArray, List.getElem?_cons_zero, List.getElem?_cons_succ] at c0 c1 d0 d1
  clear r1 r2 A0 hW0 hp hr hx hc
  go_enter Tryz.func197, Tryz.ntmps197
  go_wp2_with fail
  rw [HW.out]
  go_still_tail 8, (by kernel_rfl)
  change wpList _ _ _ _ _ W0.drew
  go_wp2_with fail
  refine bodyPost_ret (v := .agg #[.int .i64 ((r : Nat) : Int), .int .i64 ((n : Nat) : Int)]) ?_ rfl ⟨rfl, ?_⟩
  · refine results_set rfl _ _ (w.heap.size + 1) (setC ((r : Nat) : Int) ((n : Nat) : Int)) rfl rfl ?_
    exact heap_setCell_same _ _ 1 _ _ (.int .i64 ((n : Nat) : Int)) (heap_setCell_same W0 _ 0 _ _ (.int .i64 ((r : Nat) : Int)) R2.out)
  · exact (Moves.below (S := fun k => k = w.heap.size + 1) B0.out B0.out.size ((Moves.setCell (S := fun k => k = w.heap.size + 1) (a := ⟨w.heap.size + 1, 0, none⟩) rfl).trans (Moves.setCell (S := fun k => k = w.heap.size + 1) (a := ⟨w.heap.size + 1, 1, none⟩) rfl)) (fun k h => by omega)).drew
set_option maxRecDepth 100000 in
set_option maxHeartbeats 2000000 in
theorem not_anyK (x n : Nat) (hn : n ≤ 32) (hx : x < 2 ^ n) (w : World) : Calls Tryz.prog 176 #[.agg #[.int .i64 (x : Nat), .int .i64 (n : Nat)]] w fun e w' => e = .returned (.agg #[.int .i64 ((notN n x : Nat) : Int), .int .i64 (n : Nat)]) ∧ Below w.heap.size w w' := by
  have e2 := andNotK hn hx
  have C0 := fun W => Lib.hid (whole_any n hn W)
  obtain ⟨p, hp⟩ : ∃ p, 2 ^ n - 1 = p := ⟨_, rfl⟩
  rw [hp] at e2
  simp only [hp] at C0
  obtain ⟨r, hr⟩ : ∃ r, notN n x = r := ⟨_, rfl⟩
  rw [hr] at e2 ⊢
  have r1 : ((w.alloc (.cells #[.int .i64 ((x : Nat) : Int), .int .i64 ((n : Nat) : Int)] 180)).alloc (.cells #[.int .i64 0, .int .i64 0] 180)).heap[w.heap.size]? = some (.cells #[.int .i64 ((x : Nat) : Int), .int .i64 ((n : Nat) : Int)] 180 (0, 0)) := by
    rw [Below.heap_alloc _ _ _ (by simp)]; exact heap_alloc_new _ _
  have r2 : ((w.alloc (.cells #[.int .i64 ((x : Nat) : Int), .int .i64 ((n : Nat) : Int)] 180)).alloc (.cells #[.int .i64 0, .int .i64 0] 180)).heap[w.heap.size + 1]? = some (.cells #[.int .i64 0, .int .i64 0] 180 (0, 0)) := by
    have := heap_alloc_new (w.alloc (.cells #[.int .i64 ((x : Nat) : Int), .int .i64 ((n : Nat) : Int)] 180)) (.cells #[.int .i64 0, .int .i64 0] 180)
    rwa [World.size_alloc] at this
  have A0 : Below w.heap.size w ((w.alloc (.cells #[.int .i64 ((x : Nat) : Int), .int .i64 ((n : Nat) : Int)] 180)).alloc (.cells #[.int .i64 0, .int .i64 0] 180)) := ((Below.refl _ _).alloc (Nat.le_refl _) _).alloc (by simp) _
  obtain ⟨W0, hW0⟩ : ∃ W0, (w.alloc (.cells #[.int .i64 ((x : Nat) : Int), .int .i64 ((n : Nat) : Int)] 180)).alloc (.cells #[.int .i64 0, .int .i64 0] 180) = W0 := ⟨_, rfl⟩
  rw [hW0] at r1 r2 A0
  have HW := Lib.hid hW0
  have B0 := Lib.hid A0
  have R2 := Lib.hid r2
  have c0 : W0.cell? ⟨w.heap.size, 0, none⟩ = some (.int .i64 ((x : Nat) : Int)) := cell_of_row _ _ 0 _ _ _ r1
  have c1 : W0.cell? ⟨w.heap.size, 1, none⟩ = some (.int .i64 ((n : Nat) : Int)) := cell_of_row _ _ 1 _ _ _ r1
  have d0 : W0.cell? ⟨w.heap.size + 1, 0, none⟩ = some (.int .i64 0) := cell_of_row _ _ 0 _ _ _ r2
  have d1 : W0.cell? ⟨w.heap.size + 1, 1, none⟩ = some (.int .i64 0) := cell_of_row _ _ 1 _ _ _ r2
  have f0 : W0.frozen? ⟨w.heap.size + 1, 0, none⟩ = false := frozen_of_row _ _ _ _ _ r2
  have f1 : W0.frozen? ⟨w.heap.size + 1, 1, none⟩ = false := frozen_of_row _ _ _ _ _ r2
  have HC : Hid (Calls Tryz.prog 130 #[.int .i64 (n : Nat)] W0.drew fun e W => e = .returned (.agg #[.int .i64 ((p : Nat) : Int), .int .i64 (n : Nat)]) ∧ W.heap[w.heap.size]? = some (.cells #[.int .i64 ((x : Nat) : Int), .int .i64 ((n : Nat) : Int)] 180 (0, 0)) ∧ W.heap[w.heap.size + 1]? = some (.cells #[.int .i64 0, .int .i64 0] 180 (0, 0)) ∧ Below w.heap.size w W ∧
      W.cell? ⟨w.heap.size, 0, none⟩ = some (.int .i64 ((x : Nat) : Int)) ∧ W.cell? ⟨w.heap.size, 1, none⟩ = some (.int .i64 ((n : Nat) : Int)) ∧ W.cell? ⟨w.heap.size + 1, 0, none⟩ = some (.int .i64 0) ∧ W.cell? ⟨w.heap.size + 1, 1, none⟩ = some (.int .i64 0) ∧ W.frozen? ⟨w.heap.size + 1, 0, none⟩ = false ∧ W.frozen? ⟨w.heap.size + 1, 1, none⟩ = false) := by
    refine Lib.hid (((C0 _).out).mono fun e W h => ?_)
    have hb : Below W0.heap.size W0 W := ((Below.refl _ W0).drew).trans (h.2.mono (Nat.le_refl _))
    have q1 := row_below r1 hb
    have q2 := row_below r2 hb
    exact ⟨h.1, q1, q2, A0.trans (hb.mono A0.size), cell_of_row _ _ 0 _ _ _ q1, cell_of_row _ _ 1 _ _ _ q1, cell_of_row _ _ 0 _ _ _ q2, cell_of_row _ _ 1 _ _ _ q2, frozen_of_row _ _ _ _ _ q2, frozen_of_row _ _ _ _ _ q2⟩
  clear r1 r2 A0 hW0 hp hr hx C0
  go_enter Tryz.func176, Tryz.ntmps176
  go_wp2_with fail
  rw [HW.out]
  go_region_with (go_at_call 130; refine HC.out.mono ?_; rintro e w2 ⟨rfl, q1, q2, b2, k0, k1, k2, k3, k4, k5⟩)
  all_goals
    go_wp2_with fail
    refine bodyPost_ret (v := .agg #[.int .i64 ((r : Nat) : Int), .int .i64 ((n : Nat) : Int)]) ?_ rfl ⟨rfl, ?_⟩
    · refine results_set rfl _ _ (w.heap.size + 1) (setC ((r : Nat) : Int) ((n : Nat) : Int)) rfl rfl ?_
      exact heap_setCell_same _ _ 1 _ _ (.int .i64 ((n : Nat) : Int)) (heap_setCell_same w2 _ 0 _ _ (.int .i64 ((r : Nat) : Int)) q2)
    · exact (Moves.below (S := fun k => k = w.heap.size + 1) b2 b2.size ((Moves.setCell (S := fun k => k = w.heap.size + 1) (a := ⟨w.heap.size + 1, 0, none⟩) rfl).trans (Moves.setCell (S := fun k => k = w.heap.size + 1) (a := ⟨w.heap.size + 1, 1, none⟩) rfl)) (fun k h => by omega))
end Go.Proofs.YtnmhdcbpbaanoaaGreatDoor
namespace Go.Proofs.YtnmhdcbpbaanoaaGreatDoor
open Go.RowKit Go.Shelf
attribute [local go_sem] Oper.semAt_some

set_option maxHeartbeats 1000000 in
theorem Right_anyK (s n : Int) (w : World) : Calls Tryz.prog 78 #[.int .i64 s, .int .i64 n] w fun e w' => e = .returned (.bool (rightZ s n)) ∧ Below w.heap.size w w' := by
  have H := Lib.hid (fun W => right_anyK s n W)
  go_enter Tryz.func78, Tryz.ntmps78
  go_wp2_with fail
  refine (H.out _).mono ?_
  rintro e w2 ⟨rfl, b2⟩
  go_wp2
  go_ret
  exact ⟨rfl, b2⟩
set_option maxHeartbeats 1000000 in
theorem Has_anyK (s c : Int) (w : World) : Calls Tryz.prog 133 #[.int .i64 s, .int .i64 c] w fun e w' => e = .returned (.bool (hasZ s c)) ∧ Below w.heap.size w w' := by
  have H := Lib.hid (fun W => right_anyK s 32 W)
  cases hr : rightZ s 32 with
  | true =>
    obtain ⟨x, m, rfl, hm, _, _, hx⟩ := rightZ_of hr
    have h32 : m = 32 := by omega
    subst h32
    have K : Hid (∀ W, Calls Tryz.prog 142 #[.agg #[.int .i64 (x : Nat), .int .i64 32], .int .i64 c] W fun e w' => e = .returned (.bool (decide (0 ≤ c ∧ c < 32) && x.testBit c.toNat)) ∧ Below W.heap.size W w') := Lib.hid (fun W => has_anyK x 32 hx (by omega) c W)
    rw [hasZ_nat hx]
    rw [hr] at H
    obtain ⟨b, hb⟩ : ∃ b, (decide (0 ≤ c ∧ c < 32) && x.testBit c.toNat) = b := ⟨_, rfl⟩
    rw [hb] at K ⊢
    clear hr hx hb hm
    have A0 : Below w.heap.size w (w.alloc (.cells #[.int .i64 ((x : Nat) : Int), .int .i64 32] 180)) := (Below.refl _ _).alloc (Nat.le_refl _) _
    have r0 : (w.alloc (.cells #[.int .i64 ((x : Nat) : Int), .int .i64 32] 180)).heap[w.heap.size]? = some (.cells #[.int .i64 ((x : Nat) : Int), .int .i64 32] 180 (0, 0)) := heap_alloc_new _ _
    have HA := Lib.hid A0
    have R0 := Lib.hid r0
    clear A0 r0
    go_enter Tryz.func133, Tryz.ntmps133
    go_wp2_with fail
    refine (H.out _).mono ?_
    rintro e w2 ⟨rfl, b2⟩
    have r2 := row_below R0.out b2
    have B2 := Lib.hid (HA.out.trans (b2.mono HA.out.size))
    obtain ⟨k0, k1⟩ := row_cells r2
    clear b2 r2
    go_wp2_with fail
    refine (K.out _).mono ?_
    rintro e w3 ⟨rfl, b3⟩
    go_wp2
    go_ret
    exact ⟨rfl, B2.out.trans (b3.mono B2.out.size)⟩
  | false =>
    rw [hr] at H
    have e0 : hasZ s c = false := by unfold hasZ; rw [hr]; rfl
    rw [e0]
    have A0 : Below w.heap.size w (w.alloc (.cells #[.int .i64 s, .int .i64 32] 180)) := (Below.refl _ _).alloc (Nat.le_refl _) _
    have HA := Lib.hid A0
    clear A0 e0 hr
    go_enter Tryz.func133, Tryz.ntmps133
    go_wp2_with fail
    refine (H.out _).mono ?_
    rintro e w2 ⟨rfl, b2⟩
    go_wp2
    go_ret
    exact ⟨rfl, HA.out.trans (b2.mono HA.out.size)⟩
theorem andU {a b : Nat} (ha : a < 2 ^ 63) (hb : b < 2 ^ 63) : bits .and .u64 ((a : Nat) : Int) ((b : Nat) : Int) = ((a &&& b : Nat) : Int) :=
  (bits_nat .u64 63 (by decide) (fun n h0 h1 => by rw [IntKind.wrap_u64]; omega) a b ha hb).1
theorem wrapU {n : Nat} (h : n < 2 ^ 63) : IntKind.u64.wrap ((n : Nat) : Int) = ((n : Nat) : Int) := by rw [IntKind.wrap_u64]; omega
theorem and127 {n : Nat} (h : n < 2 ^ 32) : bits .and .i64 ((n : Nat) : Int) 127 = ((n % 128 : Nat) : Int) := by
  have := bits_mask .i64 32 (by decide) (fun n h0 h1 => by rw [IntKind.wrap_i64]; omega) 7 (by decide) ((n : Nat) : Int) (Int.natCast_nonneg _) (by exact_mod_cast h)
  rw [show ((2 : Int) ^ 7 - 1) = 127 from rfl] at this
  rw [this]
  simp
theorem wrapI {n : Nat} (h : n < 2 ^ 32) : IntKind.i64.wrap ((n : Nat) : Int) = ((n : Nat) : Int) := by rw [IntKind.wrap_i64]; omega
theorem wrapW {n : Nat} (h : n < 2 ^ 32) : wrap64 ((n : Nat) : Int) = ((n : Nat) : Int) := by unfold wrap64; omega
theorem lt63 {n : Nat} (h : n < 2 ^ 32) : n < 2 ^ 63 := Nat.lt_trans h (by decide)
theorem half_lt {n m : Nat} (h : n < 2 ^ 32) : n / m < 2 ^ 63 := lt63 (Nat.lt_of_le_of_lt (Nat.div_le_self _ _) h)
theorem castA {a b c : Nat} (h : a + b = c) : ((a : Nat) : Int) + ((b : Nat) : Int) = ((c : Nat) : Int) := by omega
theorem cast16 {a c : Nat} (h : a / 16 + a = c) : ((a : Nat) : Int) / 16 + ((a : Nat) : Int) = ((c : Nat) : Int) := by omega
theorem cast256 {a c : Nat} (h : c = a + a / 256) : ((a : Nat) : Int) + ((a : Nat) : Int) / 256 = ((c : Nat) : Int) := by omega
theorem cast65536 {a c : Nat} (h : c = a + a / 65536) : ((a : Nat) : Int) + ((a : Nat) : Int) / 65536 = ((c : Nat) : Int) := by omega
theorem castTop {a : Nat} (h : a / 2 ^ 32 = 0) : ((a : Nat) : Int) + ((a : Nat) : Int) / 4294967296 = ((a : Nat) : Int) := by omega
theorem litA : ((mA : Nat) : Int) = 6148914691236517205 := by decide
theorem litB : ((mB : Nat) : Int) = 3689348814741910323 := by decide
theorem litC2 : ((mC : Nat) : Int) = 1085102592571150095 := by decide
theorem andA {x : Nat} (h : x < 2 ^ 63) : bits .and .u64 ((x : Nat) : Int) 6148914691236517205 = ((x &&& mA : Nat) : Int) := by rw [← litA]; exact andU h (by decide)
theorem andB {x : Nat} (h : x < 2 ^ 63) : bits .and .u64 ((x : Nat) : Int) 3689348814741910323 = ((x &&& mB : Nat) : Int) := by rw [← litB]; exact andU h (by decide)
theorem andC {x : Nat} (h : x < 2 ^ 63) : bits .and .u64 ((x : Nat) : Int) 1085102592571150095 = ((x &&& mC : Nat) : Int) := by rw [← litC2]; exact andU h (by decide)
set_option maxHeartbeats 2000000 in
theorem ones_any (x : Nat) (hx : x < 2 ^ 32) (w : World) : Calls Tryz.prog 185 #[.int .u64 (x : Nat)] w fun e w' => e = .returned (.int .i64 ((classesN 32 x).length : Nat)) ∧ w = w' := by
  obtain ⟨p, q, r, s, hp, hq, hr, hs, h3, hl, l1, l2⟩ := ones_three hx
  obtain ⟨y3, hy3⟩ : ∃ y, pC mC (pB mB (pA mA x)) = y := ⟨_, rfl⟩
  obtain ⟨z4, z5, h4, h5, m3, m4, m5, h6, h7⟩ := ones_last hp hq hr hs (hy3.symm.trans h3)
  rw [hl, ← h7]
  clear h3 hl hp hq hr hs h7 p q r s
  obtain ⟨y1, hy1⟩ : ∃ y, pA mA x = y := ⟨_, rfl⟩
  rw [hy1] at hy3 l1 l2
  obtain ⟨y2, hy2⟩ : ∃ y, pB mB y1 = y := ⟨_, rfl⟩
  rw [hy2] at hy3 l2
  obtain ⟨a1, ha1⟩ : ∃ y, x / 2 &&& mA = y := ⟨_, rfl⟩
  obtain ⟨a2, ha2⟩ : ∃ y, x &&& mA = y := ⟨_, rfl⟩
  obtain ⟨b1, hb1⟩ : ∃ y, y1 / 4 &&& mB = y := ⟨_, rfl⟩
  obtain ⟨b2, hb2⟩ : ∃ y, y1 &&& mB = y := ⟨_, rfl⟩
  have g1 : bits .and .u64 (((x : Nat) : Int) / 2) 6148914691236517205 = ((a1 : Nat) : Int) := by rw [← ha1]; exact andA (x := x / 2) (half_lt hx)
  have g2 : bits .and .u64 ((x : Nat) : Int) 6148914691236517205 = ((a2 : Nat) : Int) := by rw [← ha2]; exact andA (lt63 hx)
  have s1 : ((a1 : Nat) : Int) + ((a2 : Nat) : Int) = ((y1 : Nat) : Int) := castA (by rw [← hy1, ← ha1, ← ha2]; rfl)
  have g3 : IntKind.u64.wrap ((y1 : Nat) : Int) = ((y1 : Nat) : Int) := wrapU (lt63 l1)
  have g4 : bits .and .u64 (((y1 : Nat) : Int) / 4) 3689348814741910323 = ((b1 : Nat) : Int) := by rw [← hb1]; exact andB (x := y1 / 4) (half_lt l1)
  have g5 : bits .and .u64 ((y1 : Nat) : Int) 3689348814741910323 = ((b2 : Nat) : Int) := by rw [← hb2]; exact andB (lt63 l1)
  have s2 : ((b1 : Nat) : Int) + ((b2 : Nat) : Int) = ((y2 : Nat) : Int) := castA (by rw [← hy2, ← hb1, ← hb2]; rfl)
  have g6 : IntKind.u64.wrap ((y2 : Nat) : Int) = ((y2 : Nat) : Int) := wrapU (lt63 l2)
  obtain ⟨t2, ht2⟩ : ∃ t, y2 / 16 + y2 = t := ⟨_, rfl⟩
  have s3 : ((y2 : Nat) : Int) / 16 + ((y2 : Nat) : Int) = ((t2 : Nat) : Int) := cast16 ht2
  have lt2 : t2 < 2 ^ 63 := by clear g1 g2 g3 g4 g5 g6 s1 s2 s3 h4 h5 m3 m4 m5 h6; omega
  have g7 : IntKind.u64.wrap ((t2 : Nat) : Int) = ((t2 : Nat) : Int) := wrapU lt2
  have g8 : bits .and .u64 ((t2 : Nat) : Int) 1085102592571150095 = ((y3 : Nat) : Int) := by rw [← hy3, ← ht2]; exact andC (by rw [ht2]; exact lt2)
  have s4 : ((y3 : Nat) : Int) + ((y3 : Nat) : Int) / 256 = ((z4 : Nat) : Int) := cast256 h4
  have g9 : IntKind.u64.wrap ((z4 : Nat) : Int) = ((z4 : Nat) : Int) := wrapU (Nat.lt_trans m4 (by decide))
  have s5 : ((z4 : Nat) : Int) + ((z4 : Nat) : Int) / 65536 = ((z5 : Nat) : Int) := cast65536 h5
  have g10 : IntKind.u64.wrap ((z5 : Nat) : Int) = ((z5 : Nat) : Int) := wrapU (Nat.lt_trans m5 (by decide))
  have s6 : ((z5 : Nat) : Int) + ((z5 : Nat) : Int) / 4294967296 = ((z5 : Nat) : Int) := castTop h6
  have m6 : z5 < 2 ^ 32 := Nat.lt_trans m5 (by decide)
  have g11 : wrap64 ((z5 : Nat) : Int) = ((z5 : Nat) : Int) := wrapW m6
  have g12 := and127 m6
  have g13 : IntKind.i64.wrap ((z5 : Nat) : Int) = ((z5 : Nat) : Int) := wrapI m6
  clear m6 lt2
  clear hy1 hy2 hy3 ha1 ha2 hb1 hb2 ht2 l1 l2 m3 m4 m5 h4 h5 h6 hx
  go_enter Tryz.func185, Tryz.ntmps185
  go_wp2_with fail
  go_ret
  exact ⟨rfl, rfl⟩
set_option maxHeartbeats 1000000 in
theorem count_any (x n : Nat) (hn : n ≤ 32) (hx : x < 2 ^ n) (w : World) : Calls Tryz.prog 174 #[.agg #[.int .i64 (x : Nat), .int .i64 (n : Nat)]] w fun e w' => e = .returned (.int .i64 ((classesN n x).length : Nat)) ∧ Below w.heap.size w w' := by
  have hx2 : x < 2 ^ 32 := Nat.lt_of_lt_of_le hx (Nat.pow_le_pow_right (by decide) hn)
  have H := Lib.hid (fun W => ones_any x hx2 W)
  rw [classesN_32 hx hn] at H
  have g : IntKind.u64.wrap ((x : Nat) : Int) = ((x : Nat) : Int) := wrapU (by omega)
  obtain ⟨k, hk⟩ : ∃ k, (classesN n x).length = k := ⟨_, rfl⟩
  rw [hk] at H ⊢
  clear hx hx2 hk
  have A0 : Below w.heap.size w (w.alloc (.cells #[.int .i64 ((x : Nat) : Int), .int .i64 ((n : Nat) : Int)] 180)) := (Below.refl _ _).alloc (Nat.le_refl _) _
  have HA := Lib.hid A0
  clear A0
  go_enter Tryz.func174, Tryz.ntmps174
  go_wp2_with fail
  refine (H.out _).mono ?_
  rintro e w2 ⟨rfl, rfl⟩
  go_wp2
  go_ret
  exact ⟨rfl, HA.out⟩
end Go.Proofs.YtnmhdcbpbaanoaaGreatDoor
namespace Go.Proofs.YtnmhdcbpbaanoaaGreatDoor
open Go.RowKit Go.Shelf
attribute [local go_sem] Oper.semAt_some

abbrev encC (c : Nat) : Array Value := #[.int .i64 (c : Nat)]
theorem classesN_prefix {x : Nat} : ∀ {j n : Nat}, j ≤ n → classesN j x <+: classesN n x := by
  intro j n h
  obtain ⟨k, rfl⟩ := Nat.exists_eq_add_of_le h
  clear h
  induction k with
  | zero => exact List.prefix_rfl
  | succ k ih => rw [← Nat.add_assoc, classesN_snoc]; exact ih.trans (List.prefix_append _ _)
theorem classesN_one {x j n : Nat} (hj : j < n) (h : x.testBit j = true) : classesN j x ++ [j] <+: classesN n x := by
  have := classesN_prefix (x := x) (show j + 1 ≤ n by omega)
  rwa [classesN_snoc, if_pos h] at this
theorem each_any (x n : Int) (w : World) : Calls Tryz.prog 186 #[.agg #[.int .i64 x, .int .i64 n]] w fun e w' => e = .returned (.func (.func 190) #[] #[.pointer (some ⟨w.heap.size, 0, none⟩)]) ∧ w.alloc (.cells #[.int .i64 x, .int .i64 n] 180) = w' := by
  go_enter Tryz.func186, Tryz.ntmps186
  go_wp2
  go_ret
  exact ⟨rfl, rfl⟩
set_option maxRecDepth 100000 in
set_option maxHeartbeats 2000000 in
theorem seqEach {B x n : Nat} {w : World} (hn : n ≤ 32) (hx : x < 2 ^ 32) (hB : w.heap[B]? = some (.cells #[.int .i64 (x : Nat), .int .i64 (n : Nat)] 180 (0, 0))) :
    SeqOf Tryz.prog 4 190 #[.pointer (some ⟨B, 0, none⟩)] encC (fun _ => False) (fun k => k = B) (classesN n x) w := by
  intro W l S J Jx hm hS1 hS2 hJ hY h0
  have h1 : 1 ≤ 4 := by omega
  have hBW := row_keep hB hm id
  obtain ⟨c0, c1⟩ := row_cells hBW
  refine callsIn_of_wp Tryz.func190 rfl trivial ?_ rfl
  simp only [Tryz.ntmps190, List.size_toArray, List.length_cons, List.length_nil, Nat.reduceAdd, Nat.reduceSub, Array.replicate_succ, Array.replicate_zero, List.push_toArray, List.append_toArray, List.nil_append, List.cons_append]
  have HJ := Lib.hid hJ
  have HY := Lib.hid hY
  have HX := Lib.hid hx
  have HB := Lib.hid hBW
  have HS1 := Lib.hid hS1
  clear hJ hY hm hB hS1 hS2 hx hBW
  gi_wp2
  gi_loopg [6] n (fun k v wr => ∃ j : Nat, v = .int .i64 (j : Nat) ∧ j ≤ n ∧ k = n - j ∧ J (classesN j x) wr ∧ Hid (wr.heap[B]? = some (.cells #[.int .i64 (x : Nat), .int .i64 (n : Nat)] 180 (0, 0))))
  case atStart => exact ⟨0, rfl, Nat.zero_le _, rfl, h0, HB⟩
  case round =>
    obtain ⟨j, rfl, hj, rfl, hJ', hBr⟩ := hrel
    obtain ⟨k0, k1⟩ := row_cells hBr.out
    rcases Nat.lt_or_ge j n with hlt | hge
    · have hj1 : j < 1000000 := by omega
      have HH := Lib.hid (fun W => has_anyK x n HX.out hn ((j : Nat) : Int) W)
      rw [decide_eq_true (show (0 : Int) ≤ ((j : Nat) : Int) ∧ ((j : Nat) : Int) < ((n : Nat) : Int) by omega), Bool.true_and, Int.toNat_natCast] at HH
      cases hb : x.testBit j with
      | false =>
        have hs : classesN (j + 1) x = classesN j x := by rw [classesN_snoc, hb]; simp
        rw [hb] at HH
        clear hb
        gi_wp2_with fail
        refine ⟨trivial, (callsIn_wide.2 (HH.out _)).mono ?_⟩
        rintro e w2 ⟨rfl, b2⟩
        have hJ2 := HJ.out _ _ _ hJ' (Moves.of_below b2)
        have hB2 : Hid (w2.heap[B]? = some (.cells #[.int .i64 (x : Nat), .int .i64 (n : Nat)] 180 (0, 0))) := Lib.hid (row_below hBr.out b2)
        clear b2 HH
        gi_wp2
        refine ⟨by simp, ?_⟩
        gi_wp2
        gi_roundg (n - (j + 1))
        case measure => omega
        case rel => exact ⟨j + 1, by simp, by omega, rfl, by rw [hs]; exact hJ2, hB2⟩
      | true =>
        have hs : classesN (j + 1) x = classesN j x ++ [j] := by rw [classesN_snoc, hb]; simp
        have hpx := Lib.hid (classesN_one hlt hb)
        rw [hb] at HH
        clear hb
        gi_wp2_with fail
        refine ⟨trivial, (callsIn_wide.2 (HH.out _)).mono ?_⟩
        rintro e w2 ⟨rfl, b2⟩
        have hJ2 := HJ.out _ _ _ hJ' (Moves.of_below b2)
        have hB2 : w2.heap[B]? = some (.cells #[.int .i64 (x : Nat), .int .i64 (n : Nat)] 180 (0, 0)) := row_below hBr.out b2
        have HB2 := Lib.hid hB2
        obtain ⟨fn, tmps, assign, body, hy, hR⟩ := HY.out _ _ _ hpx.out hJ2
        replace hy : (Instr.yield l #[.int .i64 (j : Nat)]).run Tryz.prog w2 = .ok (.round l fn tmps assign body) w2 := hy
        have HJ2 := Lib.hid hJ2
        clear b2 HH hB2 hJ2
        gi_wp2
        refine hR.mono ?_
        rintro e w3 (⟨rfl, hJ4, hk4⟩ | ⟨rfl, hJx4⟩)
        · have hB3 : Hid (w3.heap[B]? = some (.cells #[.int .i64 (x : Nat), .int .i64 (n : Nat)] 180 (0, 0))) := Lib.hid (row_keep HB2.out hk4 (fun h => (HS1.out _ _ _ HJ2.out h).2 rfl))
          clear hk4
          gi_wp2
          gi_roundg (n - (j + 1))
          case measure => omega
          case rel => exact ⟨j + 1, by simp, by omega, rfl, by rw [hs]; exact hJ4, hB3⟩
        · gi_wp2
          refine bodyPost_ret (results_none rfl _ _ _) rfl ?_
          exact ⟨⟨_, rfl⟩, .inr ⟨_, hpx.out, hJx4⟩⟩
    · obtain rfl : j = n := by omega
      gi_wp2
      go_end0
      exact ⟨⟨_, rfl⟩, .inl hJ'⟩
end Go.Proofs.YtnmhdcbpbaanoaaGreatDoor
namespace Go.Proofs.YtnmhdcbpbaanoaaGreatDoor
open Ieee
open Go.RowKit
theorem infoInt : (Tryz.prog.info? 3).map (fun i => (i.zero, i.size, i.bytes)) = some (some (.int .i64 0), 1, 8) := by kernel_rfl
theorem infoByte : (Tryz.prog.info? 5).map (fun i => (i.zero, i.size, i.bytes)) = some (some (.int .u8 0), 1, 1) := by kernel_rfl
theorem infoString : (Tryz.prog.info? 9).map (fun i => (i.zero, i.size, i.bytes)) = some (some (.string ⟨#[]⟩), 1, 16) := by kernel_rfl
end Go.Proofs.YtnmhdcbpbaanoaaGreatDoor
namespace Go.Proofs.YtnmhdcbpbaanoaaGreatDoor
open Go.RowKit Go.Shelf Go.Maps
attribute [local go_sem] Oper.semAt_some
attribute [local go_sem ↓] app_hide

theorem code_ownK {W : World} {base k : Nat} {v : Value} {xs : List Value} (q : Nat) (ho : W.ownsRow base 3 1 v k xs) (hk : k ≤ 2000000) (hbase : base ≤ W.heap.size) :
    ∃ g cap w6, (appSem #[23, 23] 23 #[v, .slice (some ⟨W.heap.size, 0, none⟩) 1 1]).run Tryz.prog (W.alloc (.cells #[.int .i64 (q : Nat)] 3)) = .ok (.slice (some ⟨g, 0, none⟩) (k + 1) cap) w6 ∧
      w6.ownsRow base 3 1 (.slice (some ⟨g, 0, none⟩) (k + 1) cap) (k + 1) (xs ++ [intC q]) ∧ (W.alloc (.cells #[.int .i64 (q : Nat)] 3)).grownBy w6 v.ownBlock := by
  obtain ⟨i0, hi, hz0, hz1, hz2⟩ := info_parts infoInt
  have hb : Below W.heap.size W (W.alloc (.cells #[.int .i64 (q : Nat)] 3)) := (Below.refl _ _).alloc (Nat.le_refl _) _
  obtain ⟨v', w6, hr, h2, h3, h4⟩ := run_append_own (P := Tryz.prog) _ base 23 23 3 i0 (.int .i64 0) 1 8 Tryz.underlying23 hi hz0 hz1 hz2 rfl (by decide) v k xs (own_below ho hb) ⟨W.heap.size, 0, none⟩ 1 1 [intC q] rfl
    (cell_one_new _ _ _) (by simp [Value.oneCell']) (by unfold maxLen; omega) (by omega) (by simp; omega)
  obtain ⟨g, cap, rfl⟩ := ownsRow_succ h2
  exact ⟨g, cap, w6, hr, h2, h3⟩
theorem row_placeK {w : World} {base n cap : Nat} {o : Option Addr} {t : TypeId} {size : Nat} {cs : List Value} (ho : w.ownsRow base t size (.slice o n cap) n cs) (hn : 0 < n) : ∃ g, o = some ⟨g, 0, none⟩ ∧ ∀ i u, cs[i]? = some u → w.cell? ⟨g, i, none⟩ = some u := by
  rcases ho.2 with ⟨hv, h0⟩ | ⟨g, cap', cur, hv, _⟩
  · omega
  · cases hv
    refine ⟨g, rfl, fun i u hu => ?_⟩
    have := ho.cells (g := g) rfl i u hu
    have hadd : (⟨g, 0, none⟩ : Addr).add i = ⟨g, i, none⟩ := by unfold Addr.add; split <;> simp_all
    rwa [hadd] at this
def NumsAt (w : World) (o : Option Addr) (l : List Int) : Prop := 0 < l.length → ∃ g off, o = some ⟨g, off, none⟩ ∧ ∀ (j : Nat) (x : Int), l[j]? = some x → w.cell? ⟨g, off + j, none⟩ = some (.int .i64 x)
theorem NumsAt.below {w w' : World} {o : Option Addr} {l : List Int} (h : NumsAt w o l) (hb : Below w.heap.size w w') : NumsAt w' o l := fun hn => by
  obtain ⟨g, off, ho, hc⟩ := h hn
  exact ⟨g, off, ho, fun j x hx => cell_keep hb (hc j x hx)⟩
theorem nums_own {w : World} {base cap : Nat} {o : Option Addr} {l : List Nat} (h : w.ownsRow base 3 1 (.slice o l.length cap) l.length (l.map intC)) : NumsAt w o (l.map fun c => ((c : Nat) : Int)) := fun hn => by
  rw [List.length_map] at hn
  obtain ⟨g, ho, hc⟩ := row_placeK h hn
  refine ⟨g, 0, ho, fun j x hx => ?_⟩
  rw [List.getElem?_map] at hx
  obtain ⟨y, hy, rfl⟩ := Option.map_eq_some_iff.1 hx
  have := hc j (intC y) (by rw [List.getElem?_map, hy]; rfl)
  rw [Nat.zero_add]
  exact this
end Go.Proofs.YtnmhdcbpbaanoaaGreatDoor
