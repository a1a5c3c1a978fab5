/- one, read: the set that a text says. -/
import Derived.Test.YtnpbbmoknlbfaaaGreatDoorKWithin
namespace Go.Proofs.YtnpbbmoknlbfaaaGreatDoor
open Go.RowKit Go.Shelf Go.Maps
attribute [local go_sem] Oper.semAt_some

theorem suffixK (l : List UInt8) : Lib.hasSuffix l [93] = decide (l.getLast? = some 93) := by
  unfold Lib.hasSuffix
  by_cases h : l.getLast? = some 93
  · rw [decide_eq_true h, List.isSuffixOf_iff_suffix]
    obtain ⟨t, ht⟩ := List.getLast?_eq_some_iff.1 h
    exact ⟨t, ht.symm⟩
  · rw [decide_eq_false h, Bool.eq_false_iff, ne_eq, List.isSuffixOf_iff_suffix]
    rintro ⟨t, ht⟩
    exact h (List.getLast?_eq_some_iff.2 ⟨t, ht.symm⟩)
theorem trimK {l : List UInt8} (h : l.getLast? = some 93) : Lib.trimSuffix l [93] = l.dropLast := by
  unfold Lib.trimSuffix
  rw [suffixK, decide_eq_true h, if_pos rfl, List.dropLast_eq_take]
  rfl
theorem prefixK (l p : List UInt8) : Lib.hasPrefix l p = decide (p <+: l) := by
  unfold Lib.hasPrefix
  by_cases h : p <+: l
  · rw [decide_eq_true h, List.isPrefixOf_iff_prefix]; exact h
  · rw [decide_eq_false h, Bool.eq_false_iff, ne_eq, List.isPrefixOf_iff_prefix]; exact h
set_option maxRecDepth 100000 in
set_option maxHeartbeats 2000000 in
theorem one_any (o : Option Addr) (ns : List ByteArray) (cap b n : Nat) (s : ByteArray) (hs : s.size ≤ 1000000) (hn : ns.length = n) (h32 : n ≤ 32) (w : World) (hV : ValsOf w b ns) :
    Calls Tryz.prog 112 #[.agg #[.slice o n cap, .map (some b)], .string s] w (SetPost n ((valueL ns s).map (2 ^ ·)) w) := by
  obtain ⟨P, hP⟩ : ∃ P, SetPost n ((valueL ns s).map (2 ^ ·)) w = P := ⟨_, rfl⟩
  rw [hP]
  have hb := hV.lt
  obtain ⟨w0, hw0⟩ : ∃ w0, (w.alloc (rdO o n cap b)).alloc (.cells #[.int .i64 0, .int .i64 0] 63) = w0 := ⟨_, rfl⟩
  have B0 : Below w.heap.size w w0 := by rw [← hw0]; exact ((Below.refl _ _).alloc (Nat.le_refl _) _).alloc (by simp) _
  have a0 : w0.heap[w.heap.size]? = some (rdO o n cap b) := by rw [← hw0, Below.heap_alloc _ _ _ (by simp)]; exact heap_alloc_new _ _
  have a1 : w0.heap[w.heap.size + 1]? = some (.cells #[.int .i64 0, .int .i64 0] 63 (0, 0)) := by
    rw [← hw0]
    have := heap_alloc_new (w.alloc (rdO o n cap b)) (.cells #[.int .i64 0, .int .i64 0] 63)
    rwa [World.size_alloc] at this
  obtain ⟨D, nn, v1, v2, v3, v4, v5, v6, v7⟩ := hV.below B0
  have HO := Lib.hid v1
  have HO' : Hid (((w.alloc (rdO o n cap b)).alloc (.cells #[.int .i64 0, .int .i64 0] 63)).ownsMap Tryz.prog 9 (plainElem (H := Unit) Tryz.prog 3) b nn D) := by rw [hw0]; exact HO
  have hhas := v4 s
  have HXZ : Hid (s.size ≤ maxLen) := Lib.hid (by unfold maxLen; omega)
  have HP := Lib.hid hP
  have HW0 := Lib.hid hw0
  have HB0 := Lib.hid B0
  have HA1 := Lib.hid a1
  obtain ⟨r0, r1⟩ := row_cells a0
  obtain ⟨i0, i1⟩ := row_cells a1
  have f0 : w0.frozen? ⟨w.heap.size + 1, 0, none⟩ = false := frozen_of_row _ _ _ _ _ a1
  have f1 : w0.frozen? ⟨w.heap.size + 1, 1, none⟩ = false := frozen_of_row _ _ _ _ _ a1
  cases hv : valueL ns s with
  | none =>
    rw [hv] at hhas
    have hhas2 : Maps.has D (.string s.data.toList) = false := hhas
    rw [hv] at HP
    have HAT := Lib.hid (fun (c : Int) (hat : D.atKey (.string s.data.toList) (.lit (.int .i64 0)) = .lit (.int .i64 c)) => (show (0 : Int) = c from by
      rw [atKey_of_not_has hhas2] at hat
      injection hat with h; injection h with _ h))
    have HQ : Hid (∀ t, P (.returned (.tuple #[.agg #[.int .i64 0, .int .i64 0], faultK t 70])) ((w0.setCell ⟨w.heap.size + 1, 0, none⟩ (.int .i64 0)).setCell ⟨w.heap.size + 1, 1, none⟩ (.int .i64 0)) ∧ ((w0.setCell ⟨w.heap.size + 1, 0, none⟩ (.int .i64 0)).setCell ⟨w.heap.size + 1, 1, none⟩ (.int .i64 0)).heap[w.heap.size + 1]? = some (.cells (setC 0 0) 63 (0, 0))) := Lib.hid fun t => by
      rw [← HP.out]
      exact ⟨.inr ⟨rfl, 0, 0, t, by decide, by omega, rfl, Moves.below (S := fun k => k = w.heap.size + 1) B0 B0.size ((Moves.setCell (S := fun k => k = w.heap.size + 1) rfl).trans (Moves.setCell (S := fun k => k = w.heap.size + 1) rfl)) (fun k h => by omega)⟩, heap_setCell_same _ _ 1 _ _ (.int .i64 0) (heap_setCell_same w0 _ 0 _ _ (.int .i64 0) a1)⟩
    clear v1 v2 v3 v4 v5 v6 v7 hhas hv hP a0 a1 B0 hw0 hV
    go_enter Tryz.func112, Tryz.ntmps112
    go_wp2_with (at_lookup; refine wpList_lookup_own_ok_int _ rfl _ _ 105 rfl 9 3 .i64 keyStr Tryz.underlying105 Tryz.underlying3 (zeroInt _) b nn _ rfl HO'.out _ _ rfl (WideMaps.keyOf_string_mk Tryz.underlying9 HXZ.out) ?_; intro c hat hwc; obtain rfl := HAT.out c hat; clear hat hwc)
    rw [HW0.out]
    refine (inK_any _ 70 _).mono ?_
    rintro e w4 ⟨rfl, rfl⟩
    go_wp2
    refine bodyPost_ret (v := .tuple #[.agg #[.int .i64 0, .int .i64 0], faultK ⟨#[115, 101, 116]⟩ 70]) ?_ rfl (HQ.out _).1
    exact results_set_tmp rfl _ _ (w.heap.size + 1) (setC 0 0) _ rfl rfl rfl (HQ.out ⟨#[115, 101, 116]⟩).2
  | some u =>
    rw [hv] at hhas
    have hhas2 : Maps.has D (.string s.data.toList) = true := hhas
    rw [hv] at HP
    have hu : u < n := by have := valueL_lt hv; rwa [hn] at this
    have HAT := Lib.hid (fun (c : Int) (hat : D.atKey (.string s.data.toList) (.lit (.int .i64 0)) = .lit (.int .i64 c)) => (show ((u : Nat) : Int) = c from by
      rw [v5 s u hv] at hat
      injection hat with h; injection h with _ h))
    have HWI := Lib.hid (fun W => with_any 0 n u (by decide) (by omega) W)
    rw [Nat.zero_or] at HWI
    have HQ : Hid (∀ W, Below w0.heap.size w0 W → P (.returned (.tuple #[.agg #[.int .i64 ((2 ^ u : Nat) : Int), .int .i64 (n : Nat)], .nilIface])) ((W.setCell ⟨w.heap.size + 1, 0, none⟩ (.int .i64 ((2 ^ u : Nat) : Int))).setCell ⟨w.heap.size + 1, 1, none⟩ (.int .i64 (n : Nat))) ∧ ((W.setCell ⟨w.heap.size + 1, 0, none⟩ (.int .i64 ((2 ^ u : Nat) : Int))).setCell ⟨w.heap.size + 1, 1, none⟩ (.int .i64 (n : Nat))).heap[w.heap.size + 1]? = some (.cells (setC ((2 ^ u : Nat) : Int) ((n : Nat) : Int)) 63 (0, 0))) := Lib.hid fun W hb => by
      rw [← HP.out]
      have hbw := B0.trans (hb.mono B0.size)
      exact ⟨.inl ⟨2 ^ u, rfl, rfl, Moves.below (S := fun k => k = w.heap.size + 1) hbw hbw.size ((Moves.setCell (S := fun k => k = w.heap.size + 1) rfl).trans (Moves.setCell (S := fun k => k = w.heap.size + 1) rfl)) (fun k h => by omega)⟩, heap_setCell_same _ _ 1 _ _ (.int .i64 ((n : Nat) : Int)) (heap_setCell_same W _ 0 _ _ (.int .i64 ((2 ^ u : Nat) : Int)) (row_below a1 hb))⟩
    obtain ⟨p, hp⟩ : ∃ p, 2 ^ u = p := ⟨_, rfl⟩
    rw [hp] at HQ HWI
    clear v1 v2 v3 v4 v5 v6 v7 hhas hv hP a0 a1 B0 hw0 hV hp hn
    have u0 := r0
    rw [← HW0.out] at u0
    go_enter Tryz.func112, Tryz.ntmps112
    go_wp2_with (at_lookup; refine wpList_lookup_own_ok_int _ rfl _ _ 105 rfl 9 3 .i64 keyStr Tryz.underlying105 Tryz.underlying3 (zeroInt _) b nn _ rfl HO'.out _ _ rfl (WideMaps.keyOf_string_mk Tryz.underlying9 HXZ.out) ?_; intro c hat hwc; obtain rfl := HAT.out c hat; clear hat hwc)
    rw [HW0.out]
    refine (HWI.out _).mono ?_
    rintro e w4 ⟨rfl, b4⟩
    have q1 := row_below HA1.out b4
    obtain ⟨j0, j1⟩ := row_cells q1
    have g0 : w4.frozen? ⟨w.heap.size + 1, 0, none⟩ = false := frozen_of_row _ _ _ _ _ q1
    have g1 : w4.frozen? ⟨w.heap.size + 1, 1, none⟩ = false := frozen_of_row _ _ _ _ _ q1
    have HQ4 := Lib.hid (HQ.out w4 b4)
    clear b4 q1
    go_wp2
    refine bodyPost_ret (v := .tuple #[.agg #[.int .i64 (p : Nat), .int .i64 (n : Nat)], .nilIface]) ?_ rfl HQ4.out.1
    exact results_set_tmp rfl _ _ (w.heap.size + 1) (setC ((p : Nat) : Int) ((n : Nat) : Int)) _ rfl rfl rfl HQ4.out.2
/-- The same in one way. -/
theorem setForm {n : Nat} (h32 : n ≤ 32) {r : Option Nat} (hr : ∀ x, r = some x → x < 2 ^ n) {w : World} {e : Ending} {w' : World} (h : SetPost n r w e w') :
    ∃ (x m : Nat) (E : Value), e = .returned (.tuple #[.agg #[.int .i64 (x : Nat), .int .i64 (m : Nat)], E]) ∧ Hid (m ≤ 32 ∧ x < 2 ^ m ∧ ((r = some x ∧ m = n ∧ E = .nilIface) ∨ (r = none ∧ ∃ t, E = faultK t 70))) ∧ Below w.heap.size w w' := by
  rcases h with ⟨x, hx, rfl, hb⟩ | ⟨hx, x, m, t, hl, hm, rfl, hb⟩
  · exact ⟨x, n, _, rfl, Lib.hid ⟨h32, hr x hx, .inl ⟨hx, rfl, rfl⟩⟩, hb⟩
  · exact ⟨x, m, _, rfl, Lib.hid ⟨hm, hl, .inr ⟨hx, t, rfl⟩⟩, hb⟩
theorem setMk {n : Nat} {r : Option Nat} {w : World} {x m : Nat} {E : Value} {w' : World} (h : m ≤ 32 ∧ x < 2 ^ m ∧ ((r = some x ∧ m = n ∧ E = .nilIface) ∨ (r = none ∧ ∃ t, E = faultK t 70))) (hb : Below w.heap.size w w') :
    SetPost n r w (.returned (.tuple #[.agg #[.int .i64 (x : Nat), .int .i64 (m : Nat)], E])) w' := by
  rcases h with ⟨h1, h2, (⟨h3, rfl, rfl⟩ | ⟨h3, t, rfl⟩)⟩
  · exact .inl ⟨x, h3, rfl, hb⟩
  · exact .inr ⟨h3, x, m, t, h2, h1, rfl, hb⟩
set_option maxRecDepth 100000 in
set_option maxHeartbeats 4000000 in
theorem read_anyK (o : Option Addr) (ns : List ByteArray) (cap b n : Nat) (s : ByteArray) (hs : s.size ≤ 1000000) (hn : ns.length = n) (h32 : n ≤ 32) (w : World) (hV : ValsOf w b ns) :
    Calls Tryz.prog 89 #[.agg #[.slice o n cap, .map (some b)], .string s] w (SetPost n (readL ns s.data.toList) w) := by
  obtain ⟨P, hP⟩ : ∃ P, SetPost n (readL ns s.data.toList) w = P := ⟨_, rfl⟩
  rw [hP]
  have hb := hV.lt
  obtain ⟨w0, hw0⟩ : ∃ w0, (w.alloc (rdO o n cap b)).alloc (.cells #[.int .i64 0, .int .i64 0] 63) = w0 := ⟨_, rfl⟩
  have B0 : Below w.heap.size w w0 := by rw [← hw0]; exact ((Below.refl _ _).alloc (Nat.le_refl _) _).alloc (by simp) _
  have a0 : w0.heap[w.heap.size]? = some (rdO o n cap b) := by rw [← hw0, Below.heap_alloc _ _ _ (by simp)]; exact heap_alloc_new _ _
  have a1 : w0.heap[w.heap.size + 1]? = some (.cells #[.int .i64 0, .int .i64 0] 63 (0, 0)) := by
    rw [← hw0]
    have := heap_alloc_new (w.alloc (rdO o n cap b)) (.cells #[.int .i64 0, .int .i64 0] 63)
    rwa [World.size_alloc] at this
  obtain ⟨r0, r1⟩ := row_cells a0
  obtain ⟨i0, i1⟩ := row_cells a1
  have f0 : w0.frozen? ⟨w.heap.size + 1, 0, none⟩ = false := frozen_of_row _ _ _ _ _ a1
  have f1 : w0.frozen? ⟨w.heap.size + 1, 1, none⟩ = false := frozen_of_row _ _ _ _ _ a1
  have HCS := Lib.hid (Tryz.strings_CutSuffix s ⟨#[93]⟩ w0 (by omega))
  have HV0 := Lib.hid (hV.below B0)
  have HW0 := Lib.hid hw0
  have HP := Lib.hid hP
  have HB0 := Lib.hid B0
  have HA0 := Lib.hid a0
  have HA1 := Lib.hid a1
  rw [show (⟨#[93]⟩ : ByteArray).data.toList = [93] from rfl, suffixK] at HCS
  obtain ⟨cl, hcl⟩ : ∃ cl, decide (s.data.toList.getLast? = some 93) = cl := ⟨_, rfl⟩
  obtain ⟨T, hT⟩ : ∃ T : ByteArray, (⟨(Lib.trimSuffix s.data.toList [93]).toArray⟩ : ByteArray) = T := ⟨_, rfl⟩
  rw [hcl, hT] at HCS
  clear hw0 B0 a0 a1 hP hV
  by_cases h46 : s.data.toList = [46]
  · have he : readL ns s.data.toList = some (2 ^ n - 1) := by unfold readL; rw [if_pos h46, hn]
    obtain rfl : s = ⟨#[46]⟩ := bytes_ext h46
    rw [he] at HP
    have KW := Lib.hid (fun W => whole_any n h32 W)
    obtain ⟨p, hp⟩ : ∃ p, 2 ^ n - 1 = p := ⟨_, rfl⟩
    rw [hp] at HP KW
    clear h46 he hp
    go_enter Tryz.func89, Tryz.ntmps89
    go_wp2_with fail
    rw [HW0.out]
    refine HCS.out.mono ?_
    rintro e w1 ⟨rfl, rfl⟩
    go_wp2_with fail
    refine (KW.out _).mono ?_
    rintro e w2 ⟨rfl, b2⟩
    have q1 := row_below HA1.out b2
    obtain ⟨j0, j1⟩ := row_cells q1
    have g0 : w2.frozen? ⟨w.heap.size + 1, 0, none⟩ = false := frozen_of_row _ _ _ _ _ q1
    have g1 : w2.frozen? ⟨w.heap.size + 1, 1, none⟩ = false := frozen_of_row _ _ _ _ _ q1
    have hbw := HB0.out.trans (b2.mono HB0.out.size)
    have HQ : Hid (P (.returned (.tuple #[.agg #[.int .i64 (p : Nat), .int .i64 (n : Nat)], .nilIface])) ((w2.setCell ⟨w.heap.size + 1, 0, none⟩ (.int .i64 (p : Nat))).setCell ⟨w.heap.size + 1, 1, none⟩ (.int .i64 (n : Nat))) ∧ ((w2.setCell ⟨w.heap.size + 1, 0, none⟩ (.int .i64 (p : Nat))).setCell ⟨w.heap.size + 1, 1, none⟩ (.int .i64 (n : Nat))).heap[w.heap.size + 1]? = some (.cells (setC ((p : Nat) : Int) ((n : Nat) : Int)) 63 (0, 0))) := by
      rw [← HP.out]
      exact Lib.hid ⟨.inl ⟨p, rfl, rfl, Moves.below (S := fun k => k = w.heap.size + 1) hbw hbw.size ((Moves.setCell (S := fun k => k = w.heap.size + 1) rfl).trans (Moves.setCell (S := fun k => k = w.heap.size + 1) rfl)) (fun k h => by omega)⟩, heap_setCell_same _ _ 1 _ _ (.int .i64 ((n : Nat) : Int)) (heap_setCell_same w2 _ 0 _ _ (.int .i64 ((p : Nat) : Int)) q1)⟩
    clear b2 q1 hbw
    go_wp2
    refine bodyPost_ret (v := .tuple #[.agg #[.int .i64 (p : Nat), .int .i64 (n : Nat)], .nilIface]) ?_ rfl HQ.out.1
    exact results_set_tmp rfl _ _ (w.heap.size + 1) (setC ((p : Nat) : Int) ((n : Nat) : Int)) _ rfl rfl rfl HQ.out.2
  · have h46b : (s.toList == [46]) = false := by
      rw [Lib.toList_data, beq_eq_false_iff_ne]
      exact h46
    have KON := Lib.hid (one_any o ns cap b n s hs hn h32 w0 HV0.out)
    have FIN : Hid (∀ W x m (E : Value), Below w0.heap.size w0 W → (m ≤ 32 ∧ x < 2 ^ m ∧ ((readL ns s.data.toList = some x ∧ m = n ∧ E = .nilIface) ∨ (readL ns s.data.toList = none ∧ ∃ t, E = faultK t 70))) → P (.returned (.tuple #[.agg #[.int .i64 (x : Nat), .int .i64 (m : Nat)], E])) ((W.setCell ⟨w.heap.size + 1, 0, none⟩ (.int .i64 (x : Nat))).setCell ⟨w.heap.size + 1, 1, none⟩ (.int .i64 (m : Nat))) ∧ ((W.setCell ⟨w.heap.size + 1, 0, none⟩ (.int .i64 (x : Nat))).setCell ⟨w.heap.size + 1, 1, none⟩ (.int .i64 (m : Nat))).heap[w.heap.size + 1]? = some (.cells (setC ((x : Nat) : Int) ((m : Nat) : Int)) 63 (0, 0)) ∧
        W.cell? ⟨w.heap.size + 1, 0, none⟩ = some (.int .i64 0) ∧ W.cell? ⟨w.heap.size + 1, 1, none⟩ = some (.int .i64 0) ∧ W.frozen? ⟨w.heap.size + 1, 0, none⟩ = false ∧ W.frozen? ⟨w.heap.size + 1, 1, none⟩ = false) := Lib.hid fun W x m E hb h => by
      rw [← HP.out]
      have hbw := HB0.out.trans (hb.mono HB0.out.size)
      have q1 := row_below HA1.out hb
      obtain ⟨j0, j1⟩ := row_cells q1
      exact ⟨setMk h (Moves.below (S := fun k => k = w.heap.size + 1) hbw hbw.size ((Moves.setCell (S := fun k => k = w.heap.size + 1) rfl).trans (Moves.setCell (S := fun k => k = w.heap.size + 1) rfl)) (fun k h => by omega)), heap_setCell_same _ _ 1 _ _ (.int .i64 ((m : Nat) : Int)) (heap_setCell_same W _ 0 _ _ (.int .i64 ((x : Nat) : Int)) q1), j0, j1, frozen_of_row _ _ _ _ _ q1, frozen_of_row _ _ _ _ _ q1⟩
    have hvl : ∀ x, (valueL ns s).map (2 ^ ·) = some x → x < 2 ^ n := fun x hx => by
      obtain ⟨c, hc, rfl⟩ := Option.map_eq_some_iff.1 hx
      have := valueL_lt hc
      rw [hn] at this
      exact Nat.pow_lt_pow_right (by decide) this
    have HVL := Lib.hid hvl
    have KN : Hid (∀ (x m : Nat) W, m ≤ 32 → x < 2 ^ m → Calls Tryz.prog 60 #[.agg #[.int .i64 (x : Nat), .int .i64 (m : Nat)]] W fun e w' => e = .returned (.agg #[.int .i64 ((notN m x : Nat) : Int), .int .i64 (m : Nat)]) ∧ Below W.heap.size W w') := Lib.hid fun x m W hm hx => not_anyK x m hm hx W
    have LAST : Hid (∀ W2 x m E, readL ns s.data.toList = (valueL ns s).map (2 ^ ·) → Below w0.heap.size w0 W2 → (m ≤ 32 ∧ x < 2 ^ m ∧ (((valueL ns s).map (2 ^ ·) = some x ∧ m = n ∧ E = .nilIface) ∨ ((valueL ns s).map (2 ^ ·) = none ∧ ∃ t, E = faultK t 70))) → (m ≤ 32 ∧ x < 2 ^ m ∧ ((readL ns s.data.toList = some x ∧ m = n ∧ E = .nilIface) ∨ (readL ns s.data.toList = none ∧ ∃ t, E = faultK t 70)))) := Lib.hid fun W2 x m E h _ h2 => by rw [h]; exact h2
    clear hvl h46
    cases cl with
    | false =>
      have hng : ¬ s.data.toList.getLast? = some 93 := of_decide_eq_false hcl
      have he : readL ns s.data.toList = (valueL ns s).map (2 ^ ·) := by
        unfold readL
        rw [if_neg (by intro h; rw [Lib.toList_data, h] at h46b; simp at h46b), if_neg (fun h => hng h.1), if_neg (fun h => hng h.1), arr_data]
      have HE := Lib.hid he
      clear he hng hcl hT
      go_enter Tryz.func89, Tryz.ntmps89
      go_wp2_with fail
      rw [HW0.out]
      refine HCS.out.mono ?_
      rintro e w1 ⟨rfl, rfl⟩
      go_wp2_with fail
      refine KON.out.mono ?_
      intro e w2 hp
      obtain ⟨x, m, E, rfl, hf, b2⟩ := setForm h32 HVL.out hp
      obtain ⟨g1, g2, j0, j1, g3, g4⟩ := FIN.out w2 x m E b2 (LAST.out w2 x m E HE.out b2 hf.out)
      have HG1 := Lib.hid g1
      have HG2 := Lib.hid g2
      clear g1 g2 hp b2
      go_wp2
      refine bodyPost_ret (v := .tuple #[.agg #[.int .i64 (x : Nat), .int .i64 (m : Nat)], E]) ?_ rfl HG1.out
      exact results_set_tmp rfl _ _ (w.heap.size + 1) (setC ((x : Nat) : Int) ((m : Nat) : Int)) E rfl rfl rfl HG2.out
    | true =>
      have hng : s.data.toList.getLast? = some 93 := of_decide_eq_true hcl
      have hTd : T.data.toList = s.data.toList.dropLast := by rw [← hT, trimK hng]
      have HPF := Lib.hid (fun (p : ByteArray) => Tryz.strings_HasPrefix T p w0)
      simp only [prefixK, hTd] at HPF
      have h46d : ¬ s.data.toList = [46] := by intro h; rw [Lib.toList_data, h] at h46b; simp at h46b
      have hTs : T.size ≤ 1000000 := by
        have h1 : T.data.toList.length = T.size := Array.length_toList
        have h2 : s.data.toList.length = s.size := Array.length_toList
        rw [hTd, List.length_dropLast, h2] at h1
        omega
      by_cases p1 : [91, 94] <+: s.data.toList.dropLast
      · have he : readL ns s.data.toList = (listedL ns (s.data.toList.dropLast.drop 2)).map (notN n) := by
          unfold readL
          rw [if_neg h46d, if_pos ⟨hng, p1⟩, hn]
        have h2T : 2 ≤ T.size := by
          have h1 : T.data.toList.length = T.size := Array.length_toList
          have := p1.length_le
          rw [← hTd, h1] at this
          simpa using this
        have hxd : (T.extract 2 T.size).data.toList = s.data.toList.dropLast.drop 2 := by rw [drop_toList, hTd]
        have hdr : Below w0.heap.size w0 w0.drew := (Below.refl _ _).drew
        have hal : Below w0.heap.size w0 (w0.alloc (.cells #[.int .i64 0, .int .i64 0] 63)).drew := ((Below.refl _ _).alloc (Nat.le_refl _) _).drew
        have ral : (w0.alloc (.cells #[.int .i64 0, .int .i64 0] 63)).drew.heap[w0.heap.size]? = some (.cells #[.int .i64 0, .int .i64 0] 63 (0, 0)) := heap_alloc_new w0 (.cells #[.int .i64 0, .int .i64 0] 63)
        have hll : ∀ x, listedL ns (s.data.toList.dropLast.drop 2) = some x → x < 2 ^ n := fun x hx => by have := listedL_lt hx; rwa [hn] at this
        have KWI := fun W (hb : Below w0.heap.size w0 W) => within_any o ns cap b n (T.extract 2 T.size) (by rw [ByteArray.size_extract]; omega) hn h32 W (HV0.out.below hb)
        simp only [hxd] at KWI
        have C1 : Hid (Calls Tryz.prog 111 #[.agg #[.slice o n cap, .map (some b)], .string (T.extract 2 T.size)] w0.drew fun e w2 => ∃ (x m : Nat) (E : Value), e = .returned (.tuple #[.agg #[.int .i64 (x : Nat), .int .i64 (m : Nat)], E]) ∧ Hid (m ≤ 32 ∧ x < 2 ^ m ∧ ((listedL ns (s.data.toList.dropLast.drop 2) = some x ∧ m = n ∧ E = .nilIface) ∨ (listedL ns (s.data.toList.dropLast.drop 2) = none ∧ ∃ t, E = faultK t 70))) ∧ Hid (Below w0.heap.size w0 w2)) := by
          refine Lib.hid ((KWI _ hdr).mono fun e w2 hp => ?_)
          obtain ⟨x, m, E, h1, h2, h3⟩ := setForm h32 hll hp
          exact ⟨x, m, E, h1, h2, Lib.hid (hdr.trans (h3.mono (Nat.le_refl _)))⟩
        have C2 : Hid (Calls Tryz.prog 111 #[.agg #[.slice o n cap, .map (some b)], .string (T.extract 2 T.size)] (w0.alloc (.cells #[.int .i64 0, .int .i64 0] 63)).drew fun e w2 => ∃ (x m : Nat) (E : Value), e = .returned (.tuple #[.agg #[.int .i64 (x : Nat), .int .i64 (m : Nat)], E]) ∧ Hid (m ≤ 32 ∧ x < 2 ^ m ∧ ((listedL ns (s.data.toList.dropLast.drop 2) = some x ∧ m = n ∧ E = .nilIface) ∨ (listedL ns (s.data.toList.dropLast.drop 2) = none ∧ ∃ t, E = faultK t 70))) ∧ Hid (Below w0.heap.size w0 w2) ∧
            Hid (w2.heap[w0.heap.size]? = some (.cells #[.int .i64 0, .int .i64 0] 63 (0, 0))) ∧ w2.cell? ⟨w0.heap.size, 0, none⟩ = some (.int .i64 0) ∧ w2.cell? ⟨w0.heap.size, 1, none⟩ = some (.int .i64 0) ∧ w2.frozen? ⟨w0.heap.size, 0, none⟩ = false ∧ w2.frozen? ⟨w0.heap.size, 1, none⟩ = false ∧ w0.heap.size < w2.heap.size) := by
          refine Lib.hid ((KWI _ hal).mono fun e w2 hp => ?_)
          obtain ⟨x, m, E, h1, h2, h3⟩ := setForm h32 hll hp
          have hr := row_below ral h3
          obtain ⟨j0, j1⟩ := row_cells hr
          exact ⟨x, m, E, h1, h2, Lib.hid (hal.trans (h3.mono hal.size)), Lib.hid hr, j0, j1, frozen_of_row _ _ _ _ _ hr, frozen_of_row _ _ _ _ _ hr, (Array.getElem?_eq_some_iff.1 hr).1⟩
        have u0 : (w0.alloc (.cells #[.int .i64 0, .int .i64 0] 63)).cell? ⟨w.heap.size, 0, none⟩ = some (.slice o n cap) := cell_keep ((Below.refl _ _).alloc (Nat.le_refl _) _) r0
        have u1 : (w0.alloc (.cells #[.int .i64 0, .int .i64 0] 63)).cell? ⟨w.heap.size, 1, none⟩ = some (.map (some b)) := cell_keep ((Below.refl _ _).alloc (Nat.le_refl _) _) r1
        have hP1 : Hid (Calls Tryz.prog 110 #[.string T, .string ⟨#[91, 94]⟩] w0 fun e w' => e = .returned (.bool true) ∧ w' = w0) := by
          have := HPF.out ⟨#[91, 94]⟩
          rw [show (⟨#[91, 94]⟩ : ByteArray).data.toList = [91, 94] from rfl, decide_eq_true p1] at this
          exact Lib.hid this
        have HE := Lib.hid he
        have h2I : (2 : Int) ≤ (T.size : Nat) := by omega
        clear he hng hcl hT hTd HPF p1 hxd h46d KON LAST HVL hdr hal ral KWI hll
        go_enter Tryz.func89, Tryz.ntmps89
        go_wp2_with fail
        rw [HW0.out]
        refine HCS.out.mono ?_
        rintro e w1 ⟨rfl, rfl⟩
        go_wp2_with fail
        refine hP1.out.mono ?_
        rintro e w1' ⟨rfl, rfl⟩
        go_wp2_with fail
        go_region_with (first | (go_at_call 111; with_reducible refine C1.out.mono ?_; rintro e w2 ⟨x, m, E, rfl, hf, hb⟩) | (go_at_call 111; with_reducible refine C2.out.mono ?_; rintro e w2 ⟨x, m, E, rfl, hf, hb, hrr, j0, j1, g0, g1, hlt⟩))
        all_goals
          go_simp
          go_wp2_with fail
          refine (KN.out x m _ hf.out.1 hf.out.2.1).mono ?_
          rintro e w4 ⟨rfl, b4⟩
          have hb4 : Below w1'.heap.size w1' w4 := by
            first
              | exact (hb.out.alloc hb.out.size _).trans (b4.mono (hb.out.alloc hb.out.size _).size)
              | exact (Moves.below (S := fun k => k = w1'.heap.size) hb.out hb.out.size ((Moves.setCell (S := fun k => k = w1'.heap.size) rfl).trans (Moves.setCell (S := fun k => k = w1'.heap.size) rfl)) (fun k h => by omega)).trans (b4.mono (Moves.below (S := fun k => k = w1'.heap.size) hb.out hb.out.size ((Moves.setCell (S := fun k => k = w1'.heap.size) rfl).trans (Moves.setCell (S := fun k => k = w1'.heap.size) rfl)) (fun k h => by omega)).size)
          obtain ⟨v1, v2, v3, v4, v5, v6⟩ := FIN.out w4 (notN m x) m E hb4 (by
            refine ⟨hf.out.1, notN_lt, ?_⟩
            rcases hf.out.2.2 with ⟨q1, rfl, q3⟩ | ⟨q1, q2⟩
            · exact .inl ⟨by rw [HE.out, q1]; rfl, rfl, q3⟩
            · exact .inr ⟨by rw [HE.out, q1]; rfl, q2⟩)
          have HG1 := Lib.hid v1
          have HG2 := Lib.hid v2
          obtain ⟨y, hy⟩ : ∃ y, notN m x = y := ⟨_, rfl⟩
          rw [hy] at HG1 HG2 ⊢
          clear v1 v2 b4 hb4 hb hf hy
          go_wp2
          refine bodyPost_ret (v := .tuple #[.agg #[.int .i64 (y : Nat), .int .i64 (m : Nat)], E]) ?_ rfl HG1.out
          exact results_set_tmp rfl _ _ (w.heap.size + 1) (setC ((y : Nat) : Int) ((m : Nat) : Int)) E rfl rfl rfl HG2.out
      · have hP1 : Hid (Calls Tryz.prog 110 #[.string T, .string ⟨#[91, 94]⟩] w0 fun e w' => e = .returned (.bool false) ∧ w' = w0) := by
          have := HPF.out ⟨#[91, 94]⟩
          rw [show (⟨#[91, 94]⟩ : ByteArray).data.toList = [91, 94] from rfl, decide_eq_false p1] at this
          exact Lib.hid this
        by_cases p2 : [91] <+: s.data.toList.dropLast
        · have he : readL ns s.data.toList = listedL ns (s.data.toList.dropLast.drop 1) := by
            unfold readL
            rw [if_neg h46d, if_neg (fun h => p1 h.2), if_pos ⟨hng, p2⟩]
          have h2T : 1 ≤ T.size := by
            have h1 : T.data.toList.length = T.size := Array.length_toList
            have := p2.length_le
            rw [← hTd, h1] at this
            simpa using this
          have hxd : (T.extract 1 T.size).data.toList = s.data.toList.dropLast.drop 1 := by rw [drop_toList, hTd]
          have hdr : Below w0.heap.size w0 w0.drew := (Below.refl _ _).drew
          have hll : ∀ x, listedL ns (s.data.toList.dropLast.drop 1) = some x → x < 2 ^ n := fun x hx => by have := listedL_lt hx; rwa [hn] at this
          have KWI := within_any o ns cap b n (T.extract 1 T.size) (by rw [ByteArray.size_extract]; omega) hn h32 w0.drew (HV0.out.below hdr)
          rw [hxd] at KWI
          have hP2 : Hid (Calls Tryz.prog 110 #[.string T, .string ⟨#[91]⟩] w0 fun e w' => e = .returned (.bool true) ∧ w' = w0) := by
            have := HPF.out ⟨#[91]⟩
            rw [show (⟨#[91]⟩ : ByteArray).data.toList = [91] from rfl, decide_eq_true p2] at this
            exact Lib.hid this
          have C1 : Hid (Calls Tryz.prog 111 #[.agg #[.slice o n cap, .map (some b)], .string (T.extract 1 T.size)] w0.drew fun e w2 => ∃ (x m : Nat) (E : Value), e = .returned (.tuple #[.agg #[.int .i64 (x : Nat), .int .i64 (m : Nat)], E]) ∧
              Hid (P (.returned (.tuple #[.agg #[.int .i64 (x : Nat), .int .i64 (m : Nat)], E])) ((w2.setCell ⟨w.heap.size + 1, 0, none⟩ (.int .i64 (x : Nat))).setCell ⟨w.heap.size + 1, 1, none⟩ (.int .i64 (m : Nat))) ∧ ((w2.setCell ⟨w.heap.size + 1, 0, none⟩ (.int .i64 (x : Nat))).setCell ⟨w.heap.size + 1, 1, none⟩ (.int .i64 (m : Nat))).heap[w.heap.size + 1]? = some (.cells (setC ((x : Nat) : Int) ((m : Nat) : Int)) 63 (0, 0))) ∧
              w2.cell? ⟨w.heap.size + 1, 0, none⟩ = some (.int .i64 0) ∧ w2.cell? ⟨w.heap.size + 1, 1, none⟩ = some (.int .i64 0) ∧ w2.frozen? ⟨w.heap.size + 1, 0, none⟩ = false ∧ w2.frozen? ⟨w.heap.size + 1, 1, none⟩ = false) := by
            refine Lib.hid (KWI.mono fun e w2 hp => ?_)
            obtain ⟨x, m, E, h1, h2, h3⟩ := setForm h32 hll hp
            obtain ⟨v1, v2, v3, v4, v5, v6⟩ := FIN.out w2 x m E (hdr.trans (h3.mono (Nat.le_refl _))) (by rw [he]; exact h2.out)
            exact ⟨x, m, E, h1, Lib.hid ⟨v1, v2⟩, v3, v4, v5, v6⟩
          have h2I : (1 : Int) ≤ (T.size : Nat) := by omega
          clear he hng hcl hT hTd HPF p1 p2 hxd h46d KON LAST HVL hdr KWI hll FIN
          go_enter Tryz.func89, Tryz.ntmps89
          go_wp2_with fail
          rw [HW0.out]
          refine HCS.out.mono ?_
          rintro e w1 ⟨rfl, rfl⟩
          go_wp2_with fail
          refine hP1.out.mono ?_
          rintro e w1' ⟨rfl, rfl⟩
          go_wp2_with fail
          refine hP2.out.mono ?_
          rintro e w1'' ⟨rfl, rfl⟩
          go_wp2_with fail
          go_region_with (go_at_call 111; refine C1.out.mono ?_; rintro e w2 ⟨x, m, E, rfl, hq, j0, j1, g0, g1⟩)
          all_goals
            go_simp
            go_wp2
            refine bodyPost_ret (v := .tuple #[.agg #[.int .i64 (x : Nat), .int .i64 (m : Nat)], E]) ?_ rfl hq.out.1
            exact results_set_tmp rfl _ _ (w.heap.size + 1) (setC ((x : Nat) : Int) ((m : Nat) : Int)) E rfl rfl rfl hq.out.2
        · have he : readL ns s.data.toList = (valueL ns s).map (2 ^ ·) := by
            unfold readL
            rw [if_neg h46d, if_neg (fun h => p1 h.2), if_neg (fun h => p2 h.2), arr_data]
          have HE := Lib.hid he
          have hP2 : Hid (Calls Tryz.prog 110 #[.string T, .string ⟨#[91]⟩] w0 fun e w' => e = .returned (.bool false) ∧ w' = w0) := by
            have := HPF.out ⟨#[91]⟩
            rw [show (⟨#[91]⟩ : ByteArray).data.toList = [91] from rfl, decide_eq_false p2] at this
            exact Lib.hid this
          clear he hng hcl hT hTd HPF p1 p2 h46d
          go_enter Tryz.func89, Tryz.ntmps89
          go_wp2_with fail
          rw [HW0.out]
          refine HCS.out.mono ?_
          rintro e w1 ⟨rfl, rfl⟩
          go_wp2_with fail
          refine hP1.out.mono ?_
          rintro e w1' ⟨rfl, rfl⟩
          go_wp2_with fail
          refine hP2.out.mono ?_
          rintro e w1'' ⟨rfl, rfl⟩
          go_wp2_with fail
          refine KON.out.mono ?_
          intro e w2 hp
          obtain ⟨x, m, E, rfl, hf, b2⟩ := setForm h32 HVL.out hp
          obtain ⟨g1, g2, j0, j1, g3, g4⟩ := FIN.out w2 x m E b2 (LAST.out w2 x m E HE.out b2 hf.out)
          have HG1 := Lib.hid g1
          have HG2 := Lib.hid g2
          clear g1 g2 hp b2
          go_wp2
          refine bodyPost_ret (v := .tuple #[.agg #[.int .i64 (x : Nat), .int .i64 (m : Nat)], E]) ?_ rfl HG1.out
          exact results_set_tmp rfl _ _ (w.heap.size + 1) (setC ((x : Nat) : Int) ((m : Nat) : Int)) E rfl rfl rfl HG2.out
end Go.Proofs.YtnpbbmoknlbfaaaGreatDoor
