/- one, read: the set that a text says. parsed, Parse: the set that has a text. itemOf: the item that a part says. -/
import Derived.Test.YtnmhdcbpbaanoaaGreatDoorBunA17
import Derived.Test.YtnmhdcbpbaanoaaGreatDoorBunA13
import Derived.Test.YtnmhdcbpbaanoaaGreatDoorBunA14
import Derived.Test.YtnmhdcbpbaanoaaGreatDoorBunA16
namespace Go.Proofs.YtnmhdcbpbaanoaaGreatDoor
open Go.RowKit Go.Shelf Go.Maps
attribute [local go_sem] Oper.semAt_some

theorem suffixK (l : List UInt8) : Lib.hasSuffix l [93] = decide (l.getLast? = some 93) := by
  unfold Lib.hasSuffix
  by_cases h : l.getLast? = some 93
  · rw [decide_eq_true h, List.isSuffixOf_iff_suffix]
    obtain ⟨t, ht⟩ := List.getLast?_eq_some_iff.1 h
    exact ⟨t, ht.symm⟩
  · rw [decide_eq_false h, Bool.eq_false_iff, ne_eq, List.isSuffixOf_iff_suffix]
    rintro ⟨t, ht⟩
    exact h (List.getLast?_eq_some_iff.2 ⟨t, ht.symm⟩)
theorem trimK {l : List UInt8} (h : l.getLast? = some 93) : Lib.trimSuffix l [93] = l.dropLast := by
  unfold Lib.trimSuffix
  rw [suffixK, decide_eq_true h, if_pos rfl, List.dropLast_eq_take]
  rfl
theorem prefixK (l p : List UInt8) : Lib.hasPrefix l p = decide (p <+: l) := by
  unfold Lib.hasPrefix
  by_cases h : p <+: l
  · rw [decide_eq_true h, List.isPrefixOf_iff_prefix]; exact h
  · rw [decide_eq_false h, Bool.eq_false_iff, ne_eq, List.isPrefixOf_iff_prefix]; exact h
set_option maxRecDepth 100000 in
set_option maxHeartbeats 2000000 in
theorem one_any (o : Option Addr) (ns : List ByteArray) (cap b n : Nat) (s : ByteArray) (hs : s.size ≤ 1000000) (hn : ns.length = n) (h32 : n ≤ 32) (w : World) (hV : ValsOf w b ns) :
    Calls Tryz.prog 194 #[.agg #[.slice o n cap, .map (some b)], .string s] w (SetPost n ((valueL ns s).map (2 ^ ·)) w) := by
  obtain ⟨P, hP⟩ : ∃ P, SetPost n ((valueL ns s).map (2 ^ ·)) w = P := ⟨_, rfl⟩
  rw [hP]
  have hb := hV.lt
  obtain ⟨w0, hw0⟩ : ∃ w0, (w.alloc (rdO o n cap b)).alloc (.cells #[.int .i64 0, .int .i64 0] 180) = w0 := ⟨_, rfl⟩
  have B0 : Below w.heap.size w w0 := by rw [← hw0]; exact ((Below.refl _ _).alloc (Nat.le_refl _) _).alloc (by simp) _
  have a0 : w0.heap[w.heap.size]? = some (rdO o n cap b) := by rw [← hw0, Below.heap_alloc _ _ _ (by simp)]; exact heap_alloc_new _ _
  have a1 : w0.heap[w.heap.size + 1]? = some (.cells #[.int .i64 0, .int .i64 0] 180 (0, 0)) := by
    rw [← hw0]
    have := heap_alloc_new (w.alloc (rdO o n cap b)) (.cells #[.int .i64 0, .int .i64 0] 180)
    rwa [World.size_alloc] at this
  obtain ⟨D, nn, v1, v2, v3, v4, v5, v6, v7⟩ := hV.below B0
  have HO := Lib.hid v1
  have HO' : Hid (((w.alloc (rdO o n cap b)).alloc (.cells #[.int .i64 0, .int .i64 0] 180)).ownsMap Tryz.prog 9 (plainElem (H := Unit) Tryz.prog 3) b nn D) := by rw [hw0]; exact HO
  have hhas := v4 s
  have HXZ : Hid (s.size ≤ maxLen) := Lib.hid (by unfold maxLen; omega)
  have HP := Lib.hid hP
  have HW0 := Lib.hid hw0
  have HB0 := Lib.hid B0
  have HA1 := Lib.hid a1
  obtain ⟨r0, r1⟩ := row_cells a0
  obtain ⟨i0, i1⟩ := row_cells a1
  have f0 : w0.frozen? ⟨w.heap.size + 1, 0, none⟩ = false := frozen_of_row _ _ _ _ _ a1
  have f1 : w0.frozen? ⟨w.heap.size + 1, 1, none⟩ = false := frozen_of_row _ _ _ _ _ a1
  cases hv : valueL ns s with
  | none =>
    rw [hv] at hhas
    have hhas2 : Maps.has D (.string s.data.toList) = false := hhas
    rw [hv] at HP
    have HAT := Lib.hid (fun (c : Int) (hat : D.atKey (.string s.data.toList) (.lit (.int .i64 0)) = .lit (.int .i64 c)) => (show (0 : Int) = c from by
      rw [atKey_of_not_has hhas2] at hat
      injection hat with h; injection h with _ h))
    have HQ : Hid (∀ t, P (.returned (.tuple #[.agg #[.int .i64 0, .int .i64 0], faultK t 70])) ((w0.setCell ⟨w.heap.size + 1, 0, none⟩ (.int .i64 0)).setCell ⟨w.heap.size + 1, 1, none⟩ (.int .i64 0)) ∧ ((w0.setCell ⟨w.heap.size + 1, 0, none⟩ (.int .i64 0)).setCell ⟨w.heap.size + 1, 1, none⟩ (.int .i64 0)).heap[w.heap.size + 1]? = some (.cells (setC 0 0) 180 (0, 0))) := Lib.hid fun t => by
      rw [← HP.out]
      exact ⟨.inr ⟨rfl, 0, 0, t, by decide, by omega, rfl, Moves.below (S := fun k => k = w.heap.size + 1) B0 B0.size ((Moves.setCell (S := fun k => k = w.heap.size + 1) rfl).trans (Moves.setCell (S := fun k => k = w.heap.size + 1) rfl)) (fun k h => by omega)⟩, heap_setCell_same _ _ 1 _ _ (.int .i64 0) (heap_setCell_same w0 _ 0 _ _ (.int .i64 0) a1)⟩
    clear v1 v2 v3 v4 v5 v6 v7 hhas hv hP a0 a1 B0 hw0 hV
    go_enter Tryz.func194, Tryz.ntmps194
    go_wp2_with (at_lookup; refine wpList_lookup_own_ok_int _ rfl _ _ 155 rfl 9 3 .i64 keyStr Tryz.underlying155 Tryz.underlying3 (zeroInt _) b nn _ rfl HO'.out _ _ rfl (WideMaps.keyOf_string_mk Tryz.underlying9 HXZ.out) ?_; intro c hat hwc; obtain rfl := HAT.out c hat; clear hat hwc)
    rw [HW0.out]
    refine (inK_any _ 70 _).mono ?_
    rintro e w4 ⟨rfl, rfl⟩
    go_wp2
    refine bodyPost_ret (v := .tuple #[.agg #[.int .i64 0, .int .i64 0], faultK ⟨#[115, 101, 116]⟩ 70]) ?_ rfl (HQ.out _).1
    exact results_set_tmp rfl _ _ (w.heap.size + 1) (setC 0 0) _ rfl rfl rfl (HQ.out ⟨#[115, 101, 116]⟩).2
  | some u =>
    rw [hv] at hhas
    have hhas2 : Maps.has D (.string s.data.toList) = true := hhas
    rw [hv] at HP
    have hu : u < n := by have := valueL_lt hv; rwa [hn] at this
    have HAT := Lib.hid (fun (c : Int) (hat : D.atKey (.string s.data.toList) (.lit (.int .i64 0)) = .lit (.int .i64 c)) => (show ((u : Nat) : Int) = c from by
      rw [v5 s u hv] at hat
      injection hat with h; injection h with _ h))
    have HWI := Lib.hid (fun W => with_any 0 n u (by decide) (by omega) W)
    rw [Nat.zero_or] at HWI
    have HQ : Hid (∀ W, Below w0.heap.size w0 W → P (.returned (.tuple #[.agg #[.int .i64 ((2 ^ u : Nat) : Int), .int .i64 (n : Nat)], .nilIface])) ((W.setCell ⟨w.heap.size + 1, 0, none⟩ (.int .i64 ((2 ^ u : Nat) : Int))).setCell ⟨w.heap.size + 1, 1, none⟩ (.int .i64 (n : Nat))) ∧ ((W.setCell ⟨w.heap.size + 1, 0, none⟩ (.int .i64 ((2 ^ u : Nat) : Int))).setCell ⟨w.heap.size + 1, 1, none⟩ (.int .i64 (n : Nat))).heap[w.heap.size + 1]? = some (.cells (setC ((2 ^ u : Nat) : Int) ((n : Nat) : Int)) 180 (0, 0))) := Lib.hid fun W hb => by
      rw [← HP.out]
      have hbw := B0.trans (hb.mono B0.size)
      exact ⟨.inl ⟨2 ^ u, rfl, rfl, Moves.below (S := fun k => k = w.heap.size + 1) hbw hbw.size ((Moves.setCell (S := fun k => k = w.heap.size + 1) rfl).trans (Moves.setCell (S := fun k => k = w.heap.size + 1) rfl)) (fun k h => by omega)⟩, heap_setCell_same _ _ 1 _ _ (.int .i64 ((n : Nat) : Int)) (heap_setCell_same W _ 0 _ _ (.int .i64 ((2 ^ u : Nat) : Int)) (row_below a1 hb))⟩
    obtain ⟨p, hp⟩ : ∃ p, 2 ^ u = p := ⟨_, rfl⟩
    rw [hp] at HQ HWI
    clear v1 v2 v3 v4 v5 v6 v7 hhas hv hP a0 a1 B0 hw0 hV hp hn
    have u0 := r0
    rw [← HW0.out] at u0
    go_enter Tryz.func194, Tryz.ntmps194
    go_wp2_with (at_lookup; refine wpList_lookup_own_ok_int _ rfl _ _ 155 rfl 9 3 .i64 keyStr Tryz.underlying155 Tryz.underlying3 (zeroInt _) b nn _ rfl HO'.out _ _ rfl (WideMaps.keyOf_string_mk Tryz.underlying9 HXZ.out) ?_; intro c hat hwc; obtain rfl := HAT.out c hat; clear hat hwc)
    rw [HW0.out]
    refine (HWI.out _).mono ?_
    rintro e w4 ⟨rfl, b4⟩
    have q1 := row_below HA1.out b4
    obtain ⟨j0, j1⟩ := row_cells q1
    have g0 : w4.frozen? ⟨w.heap.size + 1, 0, none⟩ = false := frozen_of_row _ _ _ _ _ q1
    have g1 : w4.frozen? ⟨w.heap.size + 1, 1, none⟩ = false := frozen_of_row _ _ _ _ _ q1
    have HQ4 := Lib.hid (HQ.out w4 b4)
    clear b4 q1
    go_wp2
    refine bodyPost_ret (v := .tuple #[.agg #[.int .i64 (p : Nat), .int .i64 (n : Nat)], .nilIface]) ?_ rfl HQ4.out.1
    exact results_set_tmp rfl _ _ (w.heap.size + 1) (setC ((p : Nat) : Int) ((n : Nat) : Int)) _ rfl rfl rfl HQ4.out.2
/-- The same in one way. -/
theorem setForm {n : Nat} (h32 : n ≤ 32) {r : Option Nat} (hr : ∀ x, r = some x → x < 2 ^ n) {w : World} {e : Ending} {w' : World} (h : SetPost n r w e w') :
    ∃ (x m : Nat) (E : Value), e = .returned (.tuple #[.agg #[.int .i64 (x : Nat), .int .i64 (m : Nat)], E]) ∧ Hid (m ≤ 32 ∧ x < 2 ^ m ∧ ((r = some x ∧ m = n ∧ E = .nilIface) ∨ (r = none ∧ ∃ t, E = faultK t 70))) ∧ Below w.heap.size w w' := by
  rcases h with ⟨x, hx, rfl, hb⟩ | ⟨hx, x, m, t, hl, hm, rfl, hb⟩
  · exact ⟨x, n, _, rfl, Lib.hid ⟨h32, hr x hx, .inl ⟨hx, rfl, rfl⟩⟩, hb⟩
  · exact ⟨x, m, _, rfl, Lib.hid ⟨hm, hl, .inr ⟨hx, t, rfl⟩⟩, hb⟩
theorem setMk {n : Nat} {r : Option Nat} {w : World} {x m : Nat} {E : Value} {w' : World} (h : m ≤ 32 ∧ x < 2 ^ m ∧ ((r = some x ∧ m = n ∧ E = .nilIface) ∨ (r = none ∧ ∃ t, E = faultK t 70))) (hb : Below w.heap.size w w') :
    SetPost n r w (.returned (.tuple #[.agg #[.int .i64 (x : Nat), .int .i64 (m : Nat)], E])) w' := by
  rcases h with ⟨h1, h2, (⟨h3, rfl, rfl⟩ | ⟨h3, t, rfl⟩)⟩
  · exact .inl ⟨x, h3, rfl, hb⟩
  · exact .inr ⟨h3, x, m, t, h2, h1, rfl, hb⟩
set_option maxRecDepth 100000 in
set_option maxHeartbeats 4000000 in
theorem read_anyK (o : Option Addr) (ns : List ByteArray) (cap b n : Nat) (s : ByteArray) (hs : s.size ≤ 1000000) (hn : ns.length = n) (h32 : n ≤ 32) (w : World) (hV : ValsOf w b ns) :
    Calls Tryz.prog 191 #[.agg #[.slice o n cap, .map (some b)], .string s] w (SetPost n (readL ns s.data.toList) w) := by
  obtain ⟨P, hP⟩ : ∃ P, SetPost n (readL ns s.data.toList) w = P := ⟨_, rfl⟩
  rw [hP]
  have hb := hV.lt
  obtain ⟨w0, hw0⟩ : ∃ w0, (w.alloc (rdO o n cap b)).alloc (.cells #[.int .i64 0, .int .i64 0] 180) = w0 := ⟨_, rfl⟩
  have B0 : Below w.heap.size w w0 := by rw [← hw0]; exact ((Below.refl _ _).alloc (Nat.le_refl _) _).alloc (by simp) _
  have a0 : w0.heap[w.heap.size]? = some (rdO o n cap b) := by rw [← hw0, Below.heap_alloc _ _ _ (by simp)]; exact heap_alloc_new _ _
  have a1 : w0.heap[w.heap.size + 1]? = some (.cells #[.int .i64 0, .int .i64 0] 180 (0, 0)) := by
    rw [← hw0]
    have := heap_alloc_new (w.alloc (rdO o n cap b)) (.cells #[.int .i64 0, .int .i64 0] 180)
    rwa [World.size_alloc] at this
  obtain ⟨r0, r1⟩ := row_cells a0
  obtain ⟨i0, i1⟩ := row_cells a1
  have f0 : w0.frozen? ⟨w.heap.size + 1, 0, none⟩ = false := frozen_of_row _ _ _ _ _ a1
  have f1 : w0.frozen? ⟨w.heap.size + 1, 1, none⟩ = false := frozen_of_row _ _ _ _ _ a1
  have HCS := Lib.hid (Tryz.strings_CutSuffix s ⟨#[93]⟩ w0 (by omega))
  have HV0 := Lib.hid (hV.below B0)
  have HW0 := Lib.hid hw0
  have HP := Lib.hid hP
  have HB0 := Lib.hid B0
  have HA0 := Lib.hid a0
  have HA1 := Lib.hid a1
  rw [show (⟨#[93]⟩ : ByteArray).data.toList = [93] from rfl, suffixK] at HCS
  obtain ⟨cl, hcl⟩ : ∃ cl, decide (s.data.toList.getLast? = some 93) = cl := ⟨_, rfl⟩
  obtain ⟨T, hT⟩ : ∃ T : ByteArray, (⟨(Lib.trimSuffix s.data.toList [93]).toArray⟩ : ByteArray) = T := ⟨_, rfl⟩
  rw [hcl, hT] at HCS
  clear hw0 B0 a0 a1 hP hV
  by_cases h46 : s.data.toList = [46]
  · have he : readL ns s.data.toList = some (2 ^ n - 1) := by unfold readL; rw [if_pos h46, hn]
    obtain rfl : s = ⟨#[46]⟩ := bytes_ext h46
    rw [he] at HP
    have KW := Lib.hid (fun W => whole_any n h32 W)
    obtain ⟨p, hp⟩ : ∃ p, 2 ^ n - 1 = p := ⟨_, rfl⟩
    rw [hp] at HP KW
    clear h46 he hp
    go_enter Tryz.func191, Tryz.ntmps191
    go_wp2_with fail
    rw [HW0.out]
    refine HCS.out.mono ?_
    rintro e w1 ⟨rfl, rfl⟩
    go_wp2_with fail
    refine (KW.out _).mono ?_
    rintro e w2 ⟨rfl, b2⟩
    have q1 := row_below HA1.out b2
    obtain ⟨j0, j1⟩ := row_cells q1
    have g0 : w2.frozen? ⟨w.heap.size + 1, 0, none⟩ = false := frozen_of_row _ _ _ _ _ q1
    have g1 : w2.frozen? ⟨w.heap.size + 1, 1, none⟩ = false := frozen_of_row _ _ _ _ _ q1
    have hbw := HB0.out.trans (b2.mono HB0.out.size)
    have HQ : Hid (P (.returned (.tuple #[.agg #[.int .i64 (p : Nat), .int .i64 (n : Nat)], .nilIface])) ((w2.setCell ⟨w.heap.size + 1, 0, none⟩ (.int .i64 (p : Nat))).setCell ⟨w.heap.size + 1, 1, none⟩ (.int .i64 (n : Nat))) ∧ ((w2.setCell ⟨w.heap.size + 1, 0, none⟩ (.int .i64 (p : Nat))).setCell ⟨w.heap.size + 1, 1, none⟩ (.int .i64 (n : Nat))).heap[w.heap.size + 1]? = some (.cells (setC ((p : Nat) : Int) ((n : Nat) : Int)) 180 (0, 0))) := by
      rw [← HP.out]
      exact Lib.hid ⟨.inl ⟨p, rfl, rfl, Moves.below (S := fun k => k = w.heap.size + 1) hbw hbw.size ((Moves.setCell (S := fun k => k = w.heap.size + 1) rfl).trans (Moves.setCell (S := fun k => k = w.heap.size + 1) rfl)) (fun k h => by omega)⟩, heap_setCell_same _ _ 1 _ _ (.int .i64 ((n : Nat) : Int)) (heap_setCell_same w2 _ 0 _ _ (.int .i64 ((p : Nat) : Int)) q1)⟩
    clear b2 q1 hbw
    go_wp2
    refine bodyPost_ret (v := .tuple #[.agg #[.int .i64 (p : Nat), .int .i64 (n : Nat)], .nilIface]) ?_ rfl HQ.out.1
    exact results_set_tmp rfl _ _ (w.heap.size + 1) (setC ((p : Nat) : Int) ((n : Nat) : Int)) _ rfl rfl rfl HQ.out.2
  · have h46b : (s.toList == [46]) = false := by
      rw [Lib.toList_data, beq_eq_false_iff_ne]
      exact h46
    have KON := Lib.hid (one_any o ns cap b n s hs hn h32 w0 HV0.out)
    have FIN : Hid (∀ W x m (E : Value), Below w0.heap.size w0 W → (m ≤ 32 ∧ x < 2 ^ m ∧ ((readL ns s.data.toList = some x ∧ m = n ∧ E = .nilIface) ∨ (readL ns s.data.toList = none ∧ ∃ t, E = faultK t 70))) → P (.returned (.tuple #[.agg #[.int .i64 (x : Nat), .int .i64 (m : Nat)], E])) ((W.setCell ⟨w.heap.size + 1, 0, none⟩ (.int .i64 (x : Nat))).setCell ⟨w.heap.size + 1, 1, none⟩ (.int .i64 (m : Nat))) ∧ ((W.setCell ⟨w.heap.size + 1, 0, none⟩ (.int .i64 (x : Nat))).setCell ⟨w.heap.size + 1, 1, none⟩ (.int .i64 (m : Nat))).heap[w.heap.size + 1]? = some (.cells (setC ((x : Nat) : Int) ((m : Nat) : Int)) 180 (0, 0)) ∧
        W.cell? ⟨w.heap.size + 1, 0, none⟩ = some (.int .i64 0) ∧ W.cell? ⟨w.heap.size + 1, 1, none⟩ = some (.int .i64 0) ∧ W.frozen? ⟨w.heap.size + 1, 0, none⟩ = false ∧ W.frozen? ⟨w.heap.size + 1, 1, none⟩ = false) := Lib.hid fun W x m E hb h => by
      rw [← HP.out]
      have hbw := HB0.out.trans (hb.mono HB0.out.size)
      have q1 := row_below HA1.out hb
      obtain ⟨j0, j1⟩ := row_cells q1
      exact ⟨setMk h (Moves.below (S := fun k => k = w.heap.size + 1) hbw hbw.size ((Moves.setCell (S := fun k => k = w.heap.size + 1) rfl).trans (Moves.setCell (S := fun k => k = w.heap.size + 1) rfl)) (fun k h => by omega)), heap_setCell_same _ _ 1 _ _ (.int .i64 ((m : Nat) : Int)) (heap_setCell_same W _ 0 _ _ (.int .i64 ((x : Nat) : Int)) q1), j0, j1, frozen_of_row _ _ _ _ _ q1, frozen_of_row _ _ _ _ _ q1⟩
    have hvl : ∀ x, (valueL ns s).map (2 ^ ·) = some x → x < 2 ^ n := fun x hx => by
      obtain ⟨c, hc, rfl⟩ := Option.map_eq_some_iff.1 hx
      have := valueL_lt hc
      rw [hn] at this
      exact Nat.pow_lt_pow_right (by decide) this
    have HVL := Lib.hid hvl
    have KN : Hid (∀ (x m : Nat) W, m ≤ 32 → x < 2 ^ m → Calls Tryz.prog 176 #[.agg #[.int .i64 (x : Nat), .int .i64 (m : Nat)]] W fun e w' => e = .returned (.agg #[.int .i64 ((notN m x : Nat) : Int), .int .i64 (m : Nat)]) ∧ Below W.heap.size W w') := Lib.hid fun x m W hm hx => not_anyK x m hm hx W
    have LAST : Hid (∀ W2 x m E, readL ns s.data.toList = (valueL ns s).map (2 ^ ·) → Below w0.heap.size w0 W2 → (m ≤ 32 ∧ x < 2 ^ m ∧ (((valueL ns s).map (2 ^ ·) = some x ∧ m = n ∧ E = .nilIface) ∨ ((valueL ns s).map (2 ^ ·) = none ∧ ∃ t, E = faultK t 70))) → (m ≤ 32 ∧ x < 2 ^ m ∧ ((readL ns s.data.toList = some x ∧ m = n ∧ E = .nilIface) ∨ (readL ns s.data.toList = none ∧ ∃ t, E = faultK t 70)))) := Lib.hid fun W2 x m E h _ h2 => by rw [h]; exact h2
    clear hvl h46
    cases cl with
    | false =>
      have hng : ¬ s.data.toList.getLast? = some 93 := of_decide_eq_false hcl
      have he : readL ns s.data.toList = (valueL ns s).map (2 ^ ·) := by
        unfold readL
        rw [if_neg (by intro h; rw [Lib.toList_data, h] at h46b; simp at h46b), if_neg (fun h => hng h.1), if_neg (fun h => hng h.1), arr_data]
      have HE := Lib.hid he
      clear he hng hcl hT
      go_enter Tryz.func191, Tryz.ntmps191
      go_wp2_with fail
      rw [HW0.out]
      refine HCS.out.mono ?_
      rintro e w1 ⟨rfl, rfl⟩
      go_wp2_with fail
      refine KON.out.mono ?_
      intro e w2 hp
      obtain ⟨x, m, E, rfl, hf, b2⟩ := setForm h32 HVL.out hp
      obtain ⟨g1, g2, j0, j1, g3, g4⟩ := FIN.out w2 x m E b2 (LAST.out w2 x m E HE.out b2 hf.out)
      have HG1 := Lib.hid g1
      have HG2 := Lib.hid g2
      clear g1 g2 hp b2
      go_wp2
      refine bodyPost_ret (v := .tuple #[.agg #[.int .i64 (x : Nat), .int .i64 (m : Nat)], E]) ?_ rfl HG1.out
      exact results_set_tmp rfl _ _ (w.heap.size + 1) (setC ((x : Nat) : Int) ((m : Nat) : Int)) E rfl rfl rfl HG2.out
    | true =>
      have hng : s.data.toList.getLast? = some 93 := of_decide_eq_true hcl
      have hTd : T.data.toList = s.data.toList.dropLast := by rw [← hT, trimK hng]
      have HPF := Lib.hid (fun (p : ByteArray) => Tryz.strings_HasPrefix T p w0)
      simp only [prefixK, hTd] at HPF
      have h46d : ¬ s.data.toList = [46] := by intro h; rw [Lib.toList_data, h] at h46b; simp at h46b
      have hTs : T.size ≤ 1000000 := by
        have h1 : T.data.toList.length = T.size := Array.length_toList
        have h2 : s.data.toList.length = s.size := Array.length_toList
        rw [hTd, List.length_dropLast, h2] at h1
        omega
      by_cases p1 : [91, 94] <+: s.data.toList.dropLast
      · have he : readL ns s.data.toList = (listedL ns (s.data.toList.dropLast.drop 2)).map (notN n) := by
          unfold readL
          rw [if_neg h46d, if_pos ⟨hng, p1⟩, hn]
        have h2T : 2 ≤ T.size := by
          have h1 : T.data.toList.length = T.size := Array.length_toList
          have := p1.length_le
          rw [← hTd, h1] at this
          simpa using this
        have hxd : (T.extract 2 T.size).data.toList = s.data.toList.dropLast.drop 2 := by rw [drop_toList, hTd]
        have hdr : Below w0.heap.size w0 w0.drew := (Below.refl _ _).drew
        have hal : Below w0.heap.size w0 (w0.alloc (.cells #[.int .i64 0, .int .i64 0] 180)).drew := ((Below.refl _ _).alloc (Nat.le_refl _) _).drew
        have ral : (w0.alloc (.cells #[.int .i64 0, .int .i64 0] 180)).drew.heap[w0.heap.size]? = some (.cells #[.int .i64 0, .int .i64 0] 180 (0, 0)) := heap_alloc_new w0 (.cells #[.int .i64 0, .int .i64 0] 180)
        have hll : ∀ x, listedL ns (s.data.toList.dropLast.drop 2) = some x → x < 2 ^ n := fun x hx => by have := listedL_lt hx; rwa [hn] at this
        have KWI := fun W (hb : Below w0.heap.size w0 W) => within_any o ns cap b n (T.extract 2 T.size) (by rw [ByteArray.size_extract]; omega) hn h32 W (HV0.out.below hb)
        simp only [hxd] at KWI
        have C1 : Hid (Calls Tryz.prog 193 #[.agg #[.slice o n cap, .map (some b)], .string (T.extract 2 T.size)] w0.drew fun e w2 => ∃ (x m : Nat) (E : Value), e = .returned (.tuple #[.agg #[.int .i64 (x : Nat), .int .i64 (m : Nat)], E]) ∧ Hid (m ≤ 32 ∧ x < 2 ^ m ∧ ((listedL ns (s.data.toList.dropLast.drop 2) = some x ∧ m = n ∧ E = .nilIface) ∨ (listedL ns (s.data.toList.dropLast.drop 2) = none ∧ ∃ t, E = faultK t 70))) ∧ Hid (Below w0.heap.size w0 w2)) := by
          refine Lib.hid ((KWI _ hdr).mono fun e w2 hp => ?_)
          obtain ⟨x, m, E, h1, h2, h3⟩ := setForm h32 hll hp
          exact ⟨x, m, E, h1, h2, Lib.hid (hdr.trans (h3.mono (Nat.le_refl _)))⟩
        have C2 : Hid (Calls Tryz.prog 193 #[.agg #[.slice o n cap, .map (some b)], .string (T.extract 2 T.size)] (w0.alloc (.cells #[.int .i64 0, .int .i64 0] 180)).drew fun e w2 => ∃ (x m : Nat) (E : Value), e = .returned (.tuple #[.agg #[.int .i64 (x : Nat), .int .i64 (m : Nat)], E]) ∧ Hid (m ≤ 32 ∧ x < 2 ^ m ∧ ((listedL ns (s.data.toList.dropLast.drop 2) = some x ∧ m = n ∧ E = .nilIface) ∨ (listedL ns (s.data.toList.dropLast.drop 2) = none ∧ ∃ t, E = faultK t 70))) ∧ Hid (Below w0.heap.size w0 w2) ∧
            Hid (w2.heap[w0.heap.size]? = some (.cells #[.int .i64 0, .int .i64 0] 180 (0, 0))) ∧ w2.cell? ⟨w0.heap.size, 0, none⟩ = some (.int .i64 0) ∧ w2.cell? ⟨w0.heap.size, 1, none⟩ = some (.int .i64 0) ∧ w2.frozen? ⟨w0.heap.size, 0, none⟩ = false ∧ w2.frozen? ⟨w0.heap.size, 1, none⟩ = false ∧ w0.heap.size < w2.heap.size) := by
          refine Lib.hid ((KWI _ hal).mono fun e w2 hp => ?_)
          obtain ⟨x, m, E, h1, h2, h3⟩ := setForm h32 hll hp
          have hr := row_below ral h3
          obtain ⟨j0, j1⟩ := row_cells hr
          exact ⟨x, m, E, h1, h2, Lib.hid (hal.trans (h3.mono hal.size)), Lib.hid hr, j0, j1, frozen_of_row _ _ _ _ _ hr, frozen_of_row _ _ _ _ _ hr, (Array.getElem?_eq_some_iff.1 hr).1⟩
        have u0 : (w0.alloc (.cells #[.int .i64 0, .int .i64 0] 180)).cell? ⟨w.heap.size, 0, none⟩ = some (.slice o n cap) := cell_keep ((Below.refl _ _).alloc (Nat.le_refl _) _) r0
        have u1 : (w0.alloc (.cells #[.int .i64 0, .int .i64 0] 180)).cell? ⟨w.heap.size, 1, none⟩ = some (.map (some b)) := cell_keep ((Below.refl _ _).alloc (Nat.le_refl _) _) r1
        have hP1 : Hid (Calls Tryz.prog 145 #[.string T, .string ⟨#[91, 94]⟩] w0 fun e w' => e = .returned (.bool true) ∧ w' = w0) := by
          have := HPF.out ⟨#[91, 94]⟩
          rw [show (⟨#[91, 94]⟩ : ByteArray).data.toList = [91, 94] from rfl, decide_eq_true p1] at this
          exact Lib.hid this
        have HE := Lib.hid he
        have h2I : (2 : Int) ≤ (T.size : Nat) := by omega
        clear he hng hcl hT hTd HPF p1 hxd h46d KON LAST HVL hdr hal ral KWI hll
        go_enter Tryz.func191, Tryz.ntmps191
        go_wp2_with fail
        rw [HW0.out]
        refine HCS.out.mono ?_
        rintro e w1 ⟨rfl, rfl⟩
        go_wp2_with fail
        refine hP1.out.mono ?_
        rintro e w1' ⟨rfl, rfl⟩
        go_wp2_with fail
        go_region_with (first | (go_at_call 193; with_reducible refine C1.out.mono ?_; rintro e w2 ⟨x, m, E, rfl, hf, hb⟩) | (go_at_call 193; with_reducible refine C2.out.mono ?_; rintro e w2 ⟨x, m, E, rfl, hf, hb, hrr, j0, j1, g0, g1, hlt⟩))
        all_goals
          go_simp
          go_wp2_with fail
          refine (KN.out x m _ hf.out.1 hf.out.2.1).mono ?_
          rintro e w4 ⟨rfl, b4⟩
          have hb4 : Below w1'.heap.size w1' w4 := by
            first
              | exact (hb.out.alloc hb.out.size _).trans (b4.mono (hb.out.alloc hb.out.size _).size)
              | exact (Moves.below (S := fun k => k = w1'.heap.size) hb.out hb.out.size ((Moves.setCell (S := fun k => k = w1'.heap.size) rfl).trans (Moves.setCell (S := fun k => k = w1'.heap.size) rfl)) (fun k h => by omega)).trans (b4.mono (Moves.below (S := fun k => k = w1'.heap.size) hb.out hb.out.size ((Moves.setCell (S := fun k => k = w1'.heap.size) rfl).trans (Moves.setCell (S := fun k => k = w1'.heap.size) rfl)) (fun k h => by omega)).size)
          obtain ⟨v1, v2, v3, v4, v5, v6⟩ := FIN.out w4 (notN m x) m E hb4 (by
            refine ⟨hf.out.1, notN_lt, ?_⟩
            rcases hf.out.2.2 with ⟨q1, rfl, q3⟩ | ⟨q1, q2⟩
            · exact .inl ⟨by rw [HE.out, q1]; rfl, rfl, q3⟩
            · exact .inr ⟨by rw [HE.out, q1]; rfl, q2⟩)
          have HG1 := Lib.hid v1
          have HG2 := Lib.hid v2
          obtain ⟨y, hy⟩ : ∃ y, notN m x = y := ⟨_, rfl⟩
          rw [hy] at HG1 HG2 ⊢
          clear v1 v2 b4 hb4 hb hf hy
          go_wp2
          refine bodyPost_ret (v := .tuple #[.agg #[.int .i64 (y : Nat), .int .i64 (m : Nat)], E]) ?_ rfl HG1.out
          exact results_set_tmp rfl _ _ (w.heap.size + 1) (setC ((y : Nat) : Int) ((m : Nat) : Int)) E rfl rfl rfl HG2.out
      · have hP1 : Hid (Calls Tryz.prog 145 #[.string T, .string ⟨#[91, 94]⟩] w0 fun e w' => e = .returned (.bool false) ∧ w' = w0) := by
          have := HPF.out ⟨#[91, 94]⟩
          rw [show (⟨#[91, 94]⟩ : ByteArray).data.toList = [91, 94] from rfl, decide_eq_false p1] at this
          exact Lib.hid this
        by_cases p2 : [91] <+: s.data.toList.dropLast
        · have he : readL ns s.data.toList = listedL ns (s.data.toList.dropLast.drop 1) := by
            unfold readL
            rw [if_neg h46d, if_neg (fun h => p1 h.2), if_pos ⟨hng, p2⟩]
          have h2T : 1 ≤ T.size := by
            have h1 : T.data.toList.length = T.size := Array.length_toList
            have := p2.length_le
            rw [← hTd, h1] at this
            simpa using this
          have hxd : (T.extract 1 T.size).data.toList = s.data.toList.dropLast.drop 1 := by rw [drop_toList, hTd]
          have hdr : Below w0.heap.size w0 w0.drew := (Below.refl _ _).drew
          have hll : ∀ x, listedL ns (s.data.toList.dropLast.drop 1) = some x → x < 2 ^ n := fun x hx => by have := listedL_lt hx; rwa [hn] at this
          have KWI := within_any o ns cap b n (T.extract 1 T.size) (by rw [ByteArray.size_extract]; omega) hn h32 w0.drew (HV0.out.below hdr)
          rw [hxd] at KWI
          have hP2 : Hid (Calls Tryz.prog 145 #[.string T, .string ⟨#[91]⟩] w0 fun e w' => e = .returned (.bool true) ∧ w' = w0) := by
            have := HPF.out ⟨#[91]⟩
            rw [show (⟨#[91]⟩ : ByteArray).data.toList = [91] from rfl, decide_eq_true p2] at this
            exact Lib.hid this
          have C1 : Hid (Calls Tryz.prog 193 #[.agg #[.slice o n cap, .map (some b)], .string (T.extract 1 T.size)] w0.drew fun e w2 => ∃ (x m : Nat) (E : Value), e = .returned (.tuple #[.agg #[.int .i64 (x : Nat), .int .i64 (m : Nat)], E]) ∧
              Hid (P (.returned (.tuple #[.agg #[.int .i64 (x : Nat), .int .i64 (m : Nat)], E])) ((w2.setCell ⟨w.heap.size + 1, 0, none⟩ (.int .i64 (x : Nat))).setCell ⟨w.heap.size + 1, 1, none⟩ (.int .i64 (m : Nat))) ∧ ((w2.setCell ⟨w.heap.size + 1, 0, none⟩ (.int .i64 (x : Nat))).setCell ⟨w.heap.size + 1, 1, none⟩ (.int .i64 (m : Nat))).heap[w.heap.size + 1]? = some (.cells (setC ((x : Nat) : Int) ((m : Nat) : Int)) 180 (0, 0))) ∧
              w2.cell? ⟨w.heap.size + 1, 0, none⟩ = some (.int .i64 0) ∧ w2.cell? ⟨w.heap.size + 1, 1, none⟩ = some (.int .i64 0) ∧ w2.frozen? ⟨w.heap.size + 1, 0, none⟩ = false ∧ w2.frozen? ⟨w.heap.size + 1, 1, none⟩ = false) := by
            refine Lib.hid (KWI.mono fun e w2 hp => ?_)
            obtain ⟨x, m, E, h1, h2, h3⟩ := setForm h32 hll hp
            obtain ⟨v1, v2, v3, v4, v5, v6⟩ := FIN.out w2 x m E (hdr.trans (h3.mono (Nat.le_refl _))) (by rw [he]; exact h2.out)
            exact ⟨x, m, E, h1, Lib.hid ⟨v1, v2⟩, v3, v4, v5, v6⟩
          have h2I : (1 : Int) ≤ (T.size : Nat) := by omega
          clear he hng hcl hT hTd HPF p1 p2 hxd h46d KON LAST HVL hdr KWI hll FIN
          go_enter Tryz.func191, Tryz.ntmps191
          go_wp2_with fail
          rw [HW0.out]
          refine HCS.out.mono ?_
          rintro e w1 ⟨rfl, rfl⟩
          go_wp2_with fail
          refine hP1.out.mono ?_
          rintro e w1' ⟨rfl, rfl⟩
          go_wp2_with fail
          refine hP2.out.mono ?_
          rintro e w1'' ⟨rfl, rfl⟩
          go_wp2_with fail
          go_region_with (go_at_call 193; refine C1.out.mono ?_; rintro e w2 ⟨x, m, E, rfl, hq, j0, j1, g0, g1⟩)
          all_goals
            go_simp
            go_wp2
            refine bodyPost_ret (v := .tuple #[.agg #[.int .i64 (x : Nat), .int .i64 (m : Nat)], E]) ?_ rfl hq.out.1
            exact results_set_tmp rfl _ _ (w.heap.size + 1) (setC ((x : Nat) : Int) ((m : Nat) : Int)) E rfl rfl rfl hq.out.2
        · have he : readL ns s.data.toList = (valueL ns s).map (2 ^ ·) := by
            unfold readL
            rw [if_neg h46d, if_neg (fun h => p1 h.2), if_neg (fun h => p2 h.2), arr_data]
          have HE := Lib.hid he
          have hP2 : Hid (Calls Tryz.prog 145 #[.string T, .string ⟨#[91]⟩] w0 fun e w' => e = .returned (.bool false) ∧ w' = w0) := by
            have := HPF.out ⟨#[91]⟩
            rw [show (⟨#[91]⟩ : ByteArray).data.toList = [91] from rfl, decide_eq_false p2] at this
            exact Lib.hid this
          clear he hng hcl hT hTd HPF p1 p2 h46d
          go_enter Tryz.func191, Tryz.ntmps191
          go_wp2_with fail
          rw [HW0.out]
          refine HCS.out.mono ?_
          rintro e w1 ⟨rfl, rfl⟩
          go_wp2_with fail
          refine hP1.out.mono ?_
          rintro e w1' ⟨rfl, rfl⟩
          go_wp2_with fail
          refine hP2.out.mono ?_
          rintro e w1'' ⟨rfl, rfl⟩
          go_wp2_with fail
          refine KON.out.mono ?_
          intro e w2 hp
          obtain ⟨x, m, E, rfl, hf, b2⟩ := setForm h32 HVL.out hp
          obtain ⟨g1, g2, j0, j1, g3, g4⟩ := FIN.out w2 x m E b2 (LAST.out w2 x m E HE.out b2 hf.out)
          have HG1 := Lib.hid g1
          have HG2 := Lib.hid g2
          clear g1 g2 hp b2
          go_wp2
          refine bodyPost_ret (v := .tuple #[.agg #[.int .i64 (x : Nat), .int .i64 (m : Nat)], E]) ?_ rfl HG1.out
          exact results_set_tmp rfl _ _ (w.heap.size + 1) (setC ((x : Nat) : Int) ((m : Nat) : Int)) E rfl rfl rfl HG2.out
end Go.Proofs.YtnmhdcbpbaanoaaGreatDoor

namespace Go.Proofs.YtnmhdcbpbaanoaaGreatDoor
open Go.RowKit Go.Shelf Go.Maps
attribute [local go_sem] Oper.semAt_some

/-- The set that Parse answers, and the number. -/
def parseV (ns : List ByteArray) (s : List UInt8) : Int := if namesL ns then (match readL ns s with | some x => ((x : Nat) : Int) | none => 0) else 0
def parseE (ns : List ByteArray) (s : List UInt8) : Int := if namesL ns then errZ (readL ns s) else 2
def ParsedPost (ns : List ByteArray) (s : List UInt8) (w : World) (e : Ending) (w' : World) : Prop :=
  ∃ E, e = .returned (.tuple #[.int .i64 (parseV ns s), E]) ∧ ((E = .nilIface ∧ parseE ns s = 0) ∨ ∃ t, E = faultK t (parseE ns s)) ∧ Below w.heap.size w w'
set_option maxRecDepth 100000 in
set_option maxHeartbeats 4000000 in
theorem parsed_any (o : Option Addr) (ns : List ByteArray) (cap : Nat) (s : ByteArray) (hs : s.size ≤ 1000000) (hn : ns.length ≤ 1000) (hz : ∀ s ∈ ns, s.size ≤ 1000) (w : World) (hA : TxtAt w o ns) :
    Calls Tryz.prog 187 #[.string s, .slice o ns.length cap] w (ParsedPost ns s.data.toList w) := by
  have A0 : Below w.heap.size w (w.alloc (.cells #[.int .i64 0, .int .i64 0] 180)) := (Below.refl _ _).alloc (Nat.le_refl _) _
  have r0 : (w.alloc (.cells #[.int .i64 0, .int .i64 0] 180)).heap[w.heap.size]? = some (.cells #[.int .i64 0, .int .i64 0] 180 (0, 0)) := heap_alloc_new _ _
  have HN := Lib.hid (namesOfK_any o ns cap hn (fun s h => by have := hz s h; omega) (w.alloc (.cells #[.int .i64 0, .int .i64 0] 180)) (hA.below A0))
  obtain ⟨P, hP⟩ : ∃ P, ParsedPost ns s.data.toList w = P := ⟨_, rfl⟩
  have HP := Lib.hid hP
  rw [hP]
  obtain ⟨n, hnn⟩ : ∃ n, ns.length = n := ⟨_, rfl⟩
  have HNN := Lib.hid hnn
  have HA0 := Lib.hid A0
  have R0 := Lib.hid r0
  unfold NamesPost at HN
  rw [hnn] at HN ⊢
  clear hP hA hz hnn A0 r0
  go_enter Tryz.func187, Tryz.ntmps187
  go_wp2_with fail
  refine wp_scope_forth 0 (by simp [findLabel]; rfl) ?_
  go_wp2_with fail
  refine HN.out.mono ?_
  rintro e w1 (⟨hnl, b, rfl, hV, b1⟩ | ⟨hnl, t, rfl, b1⟩)
  · have h32 : n ≤ 32 := by have := hnl.2.2.2; rwa [HNN.out] at this
    obtain ⟨w2, hw2⟩ : ∃ w2, w1.alloc (knO o n cap b) = w2 := ⟨_, rfl⟩
    have B2 : Below w1.heap.size w1 w2 := by rw [← hw2]; exact (Below.refl _ _).alloc (Nat.le_refl _) _
    have q0 : w2.heap[w1.heap.size]? = some (knO o n cap b) := by rw [← hw2]; exact heap_alloc_new _ _
    have q1 := row_below (row_below R0.out b1) B2
    have HRD := Lib.hid (read_anyK o ns cap b n s hs HNN.out h32 w2 (hV.below B2))
    have BW := Lib.hid ((HA0.out.trans (b1.mono HA0.out.size)).trans (B2.mono (HA0.out.trans (b1.mono HA0.out.size)).size))
    have HW2 := Lib.hid hw2
    have HQ1 := Lib.hid q1
    have HNL := Lib.hid hnl
    have k0 : w2.cell? ⟨w1.heap.size, 0, none⟩ = some (.slice o n cap) := cell_of_row _ _ 0 _ _ _ q0
    have k1 : w2.cell? ⟨w1.heap.size, 1, none⟩ = some (.map (some b)) := cell_of_row _ _ 1 _ _ _ q0
    have hrl : ∀ x, readL ns s.data.toList = some x → x < 2 ^ n := fun x hx => by have := readL_lt hx; rwa [HNN.out] at this
    have HRL := Lib.hid hrl
    clear b1 B2 q0 q1 hV hnl HN hw2 hrl
    go_wp2_with fail
    rw [HW2.out]
    refine HRD.out.mono ?_
    rintro e w3 (⟨x, hx, rfl, b3⟩ | ⟨hx, x, m, t, hxl, hm, rfl, b3⟩)
    · have q3 := row_below HQ1.out b3
      obtain ⟨j0, j1⟩ := row_cells q3
      have f0 : w3.frozen? ⟨w.heap.size, 0, none⟩ = false := frozen_of_row _ _ _ _ _ q3
      have f1 : w3.frozen? ⟨w.heap.size, 1, none⟩ = false := frozen_of_row _ _ _ _ _ q3
      have hbw := BW.out.trans (b3.mono BW.out.size)
      have HQ : Hid (P (.returned (.tuple #[.int .i64 (x : Nat), .nilIface])) ((w3.setCell ⟨w.heap.size, 0, none⟩ (.int .i64 (x : Nat))).setCell ⟨w.heap.size, 1, none⟩ (.int .i64 (n : Nat)))) := by
        rw [← HP.out]
        refine Lib.hid ⟨.nilIface, ?_, .inl ⟨rfl, ?_⟩, Moves.below (S := fun k => k = w.heap.size) hbw hbw.size ((Moves.setCell (S := fun k => k = w.heap.size) rfl).trans (Moves.setCell (S := fun k => k = w.heap.size) rfl)) (fun k h => by omega)⟩
        · unfold parseV; rw [if_pos HNL.out, hx]
        · unfold parseE; rw [if_pos HNL.out, hx]; rfl
      clear b3 q3 hbw hx
      go_wp2
      first | exact HQ.out | (simp only [Exit.jump]; exact HQ.out) | (go_ret2; exact HQ.out)
    · have q3 := row_below HQ1.out b3
      obtain ⟨j0, j1⟩ := row_cells q3
      have f0 : w3.frozen? ⟨w.heap.size, 0, none⟩ = false := frozen_of_row _ _ _ _ _ q3
      have f1 : w3.frozen? ⟨w.heap.size, 1, none⟩ = false := frozen_of_row _ _ _ _ _ q3
      have hbw := BW.out.trans (b3.mono BW.out.size)
      have HQ : Hid (P (.returned (.tuple #[.int .i64 0, faultK t 70])) ((w3.setCell ⟨w.heap.size, 0, none⟩ (.int .i64 (x : Nat))).setCell ⟨w.heap.size, 1, none⟩ (.int .i64 (m : Nat)))) := by
        rw [← HP.out]
        refine Lib.hid ⟨faultK t 70, ?_, .inr ⟨t, ?_⟩, Moves.below (S := fun k => k = w.heap.size) hbw hbw.size ((Moves.setCell (S := fun k => k = w.heap.size) rfl).trans (Moves.setCell (S := fun k => k = w.heap.size) rfl)) (fun k h => by omega)⟩
        · unfold parseV; rw [if_pos HNL.out, hx]
        · unfold parseE; rw [if_pos HNL.out, hx]; rfl
      clear b3 q3 hbw hx hxl hm
      go_wp2_with fail
      refine wp_goto ?_
      simp only [Exit.then]
      show Exit.jump _ _ _ _ _ _
      simp only [Exit.jump, true_and]
      go_wp2
      first | exact HQ.out | (go_ret2; exact HQ.out)
  · have HPP : Hid (∀ W, Below w1.heap.size w1 W → P (.returned (.tuple #[.int .i64 0, faultK t 2])) W) := Lib.hid fun W hb => by
      rw [← HP.out]
      refine ⟨faultK t 2, ?_, .inr ⟨t, ?_⟩, (HA0.out.trans (b1.mono HA0.out.size)).trans (hb.mono (HA0.out.trans (b1.mono HA0.out.size)).size)⟩
      · unfold parseV; rw [if_neg hnl]
      · unfold parseE; rw [if_neg hnl]
    have HQ := Lib.hid (HPP.out _ ((Below.refl w1.heap.size w1).alloc (Nat.le_refl _) (.cells #[.slice none 0 0, .map none] 229)))
    clear hnl b1 HN HPP
    go_wp2_with fail
    refine wp_goto ?_
    simp only [Exit.then]
    show Exit.jump _ _ _ _ _ _
    simp only [Exit.jump, true_and]
    go_wp2
    first | exact HQ.out | (go_ret2; exact HQ.out)
set_option maxHeartbeats 1000000 in
theorem Parse_anyK (o : Option Addr) (ns : List ByteArray) (cap : Nat) (s : ByteArray) (hs : s.size ≤ 1000000) (hn : ns.length ≤ 1000) (hz : ∀ s ∈ ns, s.size ≤ 1000) (w : World) (hG : KGlob w) (hA : TxtAt w o ns) :
    Calls Tryz.prog 179 #[.string s, .slice o ns.length cap] w fun e w' => e = .returned (.tuple #[.int .i64 (parseV ns s.data.toList), .int .i64 (parseE ns s.data.toList)]) ∧ Below w.heap.size w w' := by
  have HC := Lib.hid (parsed_any o ns cap s hs hn hz w hA)
  have HG := Lib.hid hG
  unfold ParsedPost at HC
  obtain ⟨V, hV⟩ : ∃ V, parseV ns s.data.toList = V := ⟨_, rfl⟩
  obtain ⟨E, hE⟩ : ∃ E, parseE ns s.data.toList = E := ⟨_, rfl⟩
  obtain ⟨n, hnn⟩ : ∃ n, ns.length = n := ⟨_, rfl⟩
  rw [hV, hE, hnn] at HC
  rw [hV, hE, hnn]
  clear hV hE hnn hA hG hz hn
  go_enter Tryz.func179, Tryz.ntmps179
  go_wp2_with fail
  refine HC.out.mono ?_
  rintro e w1 ⟨F, rfl, (⟨rfl, rfl⟩ | ⟨t, rfl⟩), b1⟩
  · have B1 := Lib.hid b1
    clear b1
    go_wp2_with fail
    refine (toldK_nil w1).mono ?_
    rintro e w2 ⟨rfl, b2⟩
    have HB := Lib.hid (B1.out.trans (b2.mono B1.out.size))
    clear b2
    go_wp2
    go_ret2
    exact ⟨rfl, HB.out⟩
  · have B1 := Lib.hid b1
    have HT := Lib.hid (toldK_fault t E w1 (HG.out.below b1).et)
    clear b1
    go_wp2_with fail
    refine HT.out.mono ?_
    rintro e w2 ⟨rfl, b2⟩
    have HB := Lib.hid (B1.out.trans (b2.mono B1.out.size))
    clear b2
    go_wp2
    go_ret2
    exact ⟨rfl, HB.out⟩
end Go.Proofs.YtnmhdcbpbaanoaaGreatDoor

namespace Go.Proofs.YtnmhdcbpbaanoaaGreatDoor
open Go.RowKit Go.Shelf Go.Maps
attribute [local go_sem] Oper.semAt_some

section
variable {P : Program}
theorem results_cell_tmpQ {fn : Func} {p q : Tmp} {ty : TypeId} (h : fn.results = #[.cell p ty, .tmp q]) (tmps : Array Value) (w : World) (g : Nat) (t : TypeId) (cs : Array Value) (fr : Nat × Nat) (d : TypeDesc) (v : Value)
    (hp : tmps.getD p undef = .pointer (some ⟨g, 0, none⟩)) (hq : tmps.getD q undef = v) (hg : w.heap[g]? = some (.cells cs t fr))
    (hu : P.underlying ty = some d) (hd : (match d with | .struct _ | .array _ _ => true | _ => false) = true) (hi : (P.info? ty).map (·.size) = some cs.size) :
    (results fn tmps).run P w = .ok (.tuple #[.agg cs, v]) w := by
  have hp' : tmps[p]?.getD undef = .pointer (some ⟨g, 0, none⟩) := by simpa using hp
  have hq' : tmps[q]?.getD undef = v := by simpa using hq
  simp [results, h, hp', hq', asAddr, run_loadVar_row w g t ty cs fr d hg hu hd hi]
end
def errP {α : Type} (aU : Addr) (o : Option α) : Value := match o with | some _ => .nilIface | none => errVQ aU
def ItemQ (ns : List ByteArray) (s : List UInt8) (aU : Addr) (w : World) (e : Ending) (w' : World) : Prop := e = .returned (.tuple #[itV ((itemZ ns s).getD (0, 0)), errP aU (itemZ ns s)]) ∧ Below w.heap.size w w'
theorem two_set {w : World} {g : Nat} {u v : Value} {t : TypeId} (a b : Value) (h : w.heap[g]? = some (.cells #[u, v] t (0, 0))) :
    ((w.setCell ⟨g, 0, none⟩ a).setCell ⟨g, 1, none⟩ b).heap[g]? = some (.cells #[a, b] t (0, 0)) ∧ Moves (fun k => k = g) w ((w.setCell ⟨g, 0, none⟩ a).setCell ⟨g, 1, none⟩ b) := by
  have h1 : (w.setCell ⟨g, 0, none⟩ a).heap[g]? = some (.cells #[a, v] t (0, 0)) := by rw [heap_setCell_same _ _ _ _ _ _ h]; rfl
  exact ⟨by rw [heap_setCell_same _ _ _ _ _ _ h1]; rfl, (Moves.setCell (S := fun k => k = g) rfl).trans (Moves.setCell (S := fun k => k = g) rfl)⟩
set_option maxRecDepth 100000 in
set_option maxHeartbeats 4000000 in
theorem itemOf_any (s : ByteArray) (hs : s.size ≤ 1000000) (on : Option Addr) (ns : List ByteArray) (ncap : Nat) (hns : namesL ns) (hn : ns.length ≤ 1000) (hz : ∀ s ∈ ns, s.size ≤ 1000) (w : World) (aU aS : Addr) (hQ : GlobQ w aU aS) (hG : KGlob w) (hN : TxtAt w on ns) :
    Calls Tryz.prog 165 #[.string s, .slice on ns.length ncap] w (ItemQ ns s.data.toList aU w) := by
  obtain ⟨w1, hw1⟩ : ∃ w1, w.alloc (itO (0, 0)) = w1 := ⟨_, rfl⟩
  have b1 : Below w.heap.size w w1 := by rw [← hw1]; exact (Below.refl _ _).alloc (Nat.le_refl _) _
  have r1 : w1.heap[w.heap.size]? = some (itO (0, 0)) := by rw [← hw1]; exact heap_alloc_new _ _
  obtain ⟨P, hP⟩ : ∃ P, ItemQ ns s.data.toList aU w = P := ⟨_, rfl⟩
  have HP := Lib.hid hP
  rw [hP]
  have HTR := Lib.hid (Tryz.strings_TrimRight_one s 42 (by decide) w1 (by omega))
  obtain ⟨T, hT⟩ : ∃ T : ByteArray, ⟨(Lib.trimRightB s.data.toList 42).toArray⟩ = T := ⟨_, rfl⟩
  have hTl : T.data.toList = bareB s.data.toList := by rw [← hT]; rfl
  rw [hT] at HTR
  have hsl : s.data.toList.length = s.size := Array.length_toList
  have hTz : (bareB s.data.toList).length = T.size := by rw [← hTl]; exact Array.length_toList
  have hle : T.size ≤ s.size := by rw [← hTz, ← hsl]; exact bareB_length _
  have HPA := Lib.hid (Parse_anyK on ns ncap T (by omega) hn hz w1 (hG.below b1) (hN.below b1))
  have HIT : Hid (itemZ ns s.data.toList = if s.size - T.size ≤ 2 then (readL ns (bareB s.data.toList)).map fun x => (((x : Nat) : Int), ((s.size - T.size : Nat) : Int)) else none) := by
    refine Lib.hid ?_
    unfold itemZ itemR
    rw [hTz, hsl]
    split
    · rw [Option.map_map]; rfl
    · rfl
  have BAD : itemZ ns s.data.toList = none → Hid (∀ W, Below w.heap.size w W → P (.returned (.tuple #[itV (0, 0), errVQ aU])) W) := fun h => Lib.hid fun W hb => by
    rw [← HP.out]
    refine ⟨?_, hb⟩
    rw [h]; rfl
  obtain ⟨d, hd⟩ : ∃ d, s.size - T.size = d := ⟨_, rfl⟩
  rw [hd] at HIT
  have hsub : wrap64 ((s.size : Int) - (T.size : Int)) = ((d : Nat) : Int) := by unfold wrap64; omega
  have hdl : d ≤ 1000000 := by omega
  unfold parseV parseE at HPA
  rw [if_pos hns, if_pos hns, hTl] at HPA
  obtain ⟨n, hnn⟩ : ∃ n, ns.length = n := ⟨_, rfl⟩
  rw [hnn] at HPA ⊢
  have HW1 := Lib.hid hw1
  have HB1 := Lib.hid b1
  have HR1 := Lib.hid r1
  have HQ := Lib.hid hQ
  have HS := Lib.hid hle
  cases hr : readL ns (bareB s.data.toList) with
  | none =>
    rw [hr] at HPA HIT
    have HF := BAD (by rw [HIT.out]; split <;> rfl)
    have HPA' : Hid (Calls Tryz.prog 179 #[.string T, .slice on n ncap] w1 fun e w' => e = .returned (.tuple #[.int .i64 0, .int .i64 70]) ∧ Below w1.heap.size w1 w') := HPA
    clear hP hw1 b1 r1 hQ hG hN hns hz hn hnn hT hTl hsl hTz hle hr BAD HIT HPA hd
    go_enter Tryz.func165, Tryz.ntmps165
    go_wp2_with fail
    rw [HW1.out]
    refine HTR.out.mono ?_
    rintro e _ ⟨rfl, rfl⟩
    go_wp2_with fail
    refine HPA'.out.mono ?_
    rintro e w2 ⟨rfl, b2⟩
    have B2 := HB1.out.trans (b2.mono HB1.out.size)
    have r2 := row_below HR1.out b2
    obtain ⟨t0, t1⟩ := it_cells r2
    have f0 := frozen_of_row w2 w.heap.size 0 _ _ r2
    have f1 := frozen_of_row w2 w.heap.size 1 _ _ r2
    have hu := (HQ.out.below B2).utf
    have hlu := HQ.out.ltU
    have hg1 : ¬ w.heap.size = 2 := by omega
    have hg2 : ¬ 2 = w.heap.size := by omega
    obtain ⟨r3, m3⟩ := two_set (.int .i64 0) (.int .i64 0) r2
    obtain ⟨w3, hw3⟩ : ∃ w3, (w2.setCell ⟨w.heap.size, 0, none⟩ (.int .i64 0)).setCell ⟨w.heap.size, 1, none⟩ (.int .i64 0) = w3 := ⟨_, rfl⟩
    rw [hw3] at r3 m3
    have HPP := Lib.hid (HF.out w3.drew (Moves.below B2 B2.size m3.drew (fun k hk => by omega)))
    have HW3 := Lib.hid hw3
    have HR3 := Lib.hid r3
    clear b2 B2 r2 hw3 r3 m3 hlu
    go_wp2_with fail
    go_region
    go_wp2_with fail
    rw [HW3.out]
    exact bodyPost_ret (v := .tuple #[itV (0, 0), errVQ aU]) (results_cell_tmpQ rfl _ _ w.heap.size _ _ _ _ _ rfl rfl (show w3.drew.heap[w.heap.size]? = _ from HR3.out) Tryz.underlying97 rfl (by kernel_rfl)) rfl HPP.out
  | some x =>
    rw [hr] at HPA HIT
    by_cases h2 : d ≤ 2
    · have HD : Hid (decide (((d : Nat) : Int) = 0 ∨ ((d : Nat) : Int) = 1 ∨ ((d : Nat) : Int) = 2) = true) := Lib.hid (decide_eq_true (by omega))
      have HF : Hid (∀ W, Below w.heap.size w W → P (.returned (.tuple #[itV ((x : Nat), (d : Nat)), .nilIface])) W) := Lib.hid fun W hb => by
        rw [← HP.out]
        refine ⟨?_, hb⟩
        rw [HIT.out, if_pos h2]; rfl
      have HPA' : Hid (Calls Tryz.prog 179 #[.string T, .slice on n ncap] w1 fun e w' => e = .returned (.tuple #[.int .i64 (x : Nat), .int .i64 0]) ∧ Below w1.heap.size w1 w') := HPA
      clear h2 hP hw1 b1 r1 hQ hG hN hns hz hn hnn hT hTl hsl hTz hle hr BAD HIT HPA hd
      go_enter Tryz.func165, Tryz.ntmps165
      go_wp2_with fail
      rw [HW1.out]
      refine HTR.out.mono ?_
      rintro e _ ⟨rfl, rfl⟩
      go_wp2_with fail
      refine HPA'.out.mono ?_
      rintro e w2 ⟨rfl, b2⟩
      have HH := Lib.hid (isHow_any ((d : Nat) : Int) w2)
      rw [HD.out] at HH
      have B2L := Lib.hid b2
      clear b2
      go_wp2_with fail
      refine HH.out.mono ?_
      rintro e _ ⟨rfl, rfl⟩
      have b2 := B2L.out
      have B2 := HB1.out.trans (b2.mono HB1.out.size)
      have r2 := row_below HR1.out b2
      obtain ⟨t0, t1⟩ := it_cells r2
      have f0 := frozen_of_row w2 w.heap.size 0 _ _ r2
      have f1 := frozen_of_row w2 w.heap.size 1 _ _ r2
      obtain ⟨r3, m3⟩ := two_set (.int .i64 (x : Nat)) (.int .i64 (d : Nat)) r2
      obtain ⟨w3, hw3⟩ : ∃ w3, (w2.setCell ⟨w.heap.size, 0, none⟩ (.int .i64 (x : Nat))).setCell ⟨w.heap.size, 1, none⟩ (.int .i64 (d : Nat)) = w3 := ⟨_, rfl⟩
      rw [hw3] at r3 m3
      have HPP := Lib.hid (HF.out w3 (Moves.below B2 B2.size m3 (fun k hk => by omega)))
      have HW3 := Lib.hid hw3
      have HR3 := Lib.hid r3
      clear b2 B2 r2 hw3 r3 m3
      go_wp2_with fail
      rw [HW3.out]
      exact bodyPost_ret (v := .tuple #[itV ((x : Nat), (d : Nat)), .nilIface]) (results_cell_tmpQ rfl _ _ w.heap.size _ _ _ _ _ rfl rfl HR3.out Tryz.underlying97 rfl (by kernel_rfl)) rfl HPP.out
    · have HD : Hid (decide (((d : Nat) : Int) = 0 ∨ ((d : Nat) : Int) = 1 ∨ ((d : Nat) : Int) = 2) = false) := Lib.hid (decide_eq_false (by omega))
      have HF := BAD (by rw [HIT.out, if_neg h2])
      have HPA' : Hid (Calls Tryz.prog 179 #[.string T, .slice on n ncap] w1 fun e w' => e = .returned (.tuple #[.int .i64 (x : Nat), .int .i64 0]) ∧ Below w1.heap.size w1 w') := HPA
      clear h2 hP hw1 b1 r1 hQ hG hN hns hz hn hnn hT hTl hsl hTz hle hr BAD HIT HPA hd
      go_enter Tryz.func165, Tryz.ntmps165
      go_wp2_with fail
      rw [HW1.out]
      refine HTR.out.mono ?_
      rintro e _ ⟨rfl, rfl⟩
      go_wp2_with fail
      refine HPA'.out.mono ?_
      rintro e w2 ⟨rfl, b2⟩
      have HH := Lib.hid (isHow_any ((d : Nat) : Int) w2)
      rw [HD.out] at HH
      have B2L := Lib.hid b2
      clear b2
      go_wp2_with fail
      refine HH.out.mono ?_
      rintro e _ ⟨rfl, rfl⟩
      have b2 := B2L.out
      have B2 := HB1.out.trans (b2.mono HB1.out.size)
      have r2 := row_below HR1.out b2
      obtain ⟨t0, t1⟩ := it_cells r2
      have f0 := frozen_of_row w2 w.heap.size 0 _ _ r2
      have f1 := frozen_of_row w2 w.heap.size 1 _ _ r2
      have hu := (HQ.out.below B2).utf
      have hlu := HQ.out.ltU
      have hg1 : ¬ w.heap.size = 2 := by omega
      have hg2 : ¬ 2 = w.heap.size := by omega
      obtain ⟨r3, m3⟩ := two_set (.int .i64 0) (.int .i64 0) r2
      obtain ⟨w3, hw3⟩ : ∃ w3, (w2.setCell ⟨w.heap.size, 0, none⟩ (.int .i64 0)).setCell ⟨w.heap.size, 1, none⟩ (.int .i64 0) = w3 := ⟨_, rfl⟩
      rw [hw3] at r3 m3
      have HPP := Lib.hid (HF.out w3.drew (Moves.below B2 B2.size m3.drew (fun k hk => by omega)))
      have HW3 := Lib.hid hw3
      have HR3 := Lib.hid r3
      clear b2 B2 r2 hw3 r3 m3 hlu
      go_wp2_with fail
      go_region
      go_wp2_with fail
      rw [HW3.out]
      exact bodyPost_ret (v := .tuple #[itV (0, 0), errVQ aU]) (results_cell_tmpQ rfl _ _ w.heap.size _ _ _ _ _ rfl rfl (show w3.drew.heap[w.heap.size]? = _ from HR3.out) Tryz.underlying97 rfl (by kernel_rfl)) rfl HPP.out
end Go.Proofs.YtnmhdcbpbaanoaaGreatDoor
