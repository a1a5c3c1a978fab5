/- ClassUnions: the set of two lists' classes is both sets together. -/
import Derived.Test.YtnpbbmoknlbfaaaGreatDoorKSetsL
namespace Go.Proofs.YtnpbbmoknlbfaaaGreatDoor
open Go.RowKit Go.Shelf Go.Maps
attribute [local go_sem] Oper.semAt_some
attribute [local go_sem ↓] app_hide

theorem app_noneK (W : World) (v : Value) {k : Nat} {base : Nat} {xs : List Value} (ho : W.ownsRow base 3 1 v k xs) (c : Nat) :
    (appSem #[22, 22] 22 #[v, .slice none 0 c]).run Tryz.prog W = .ok v W := by
  obtain ⟨i0, hi, hz0, hz1, hz2⟩ := info_parts infoInt
  rcases ho.2 with ⟨rfl, rfl⟩ | ⟨g, cap, cur, rfl, _, _, hnc, _, _, _⟩
  · simp [appSem, Builtin.append_, run_underlying Tryz.underlying22, sizeOf, typeInfo, hi, Builtin.lenOf, Builtin.firstCells]
  · simp [appSem, Builtin.append_, run_underlying Tryz.underlying22, sizeOf, typeInfo, hi, Builtin.lenOf, Builtin.firstCells, loadCells, storeCells, hnc]
theorem nums_ownK {W : World} {base k : Nat} {v : Value} {xs : List Value} (l : List Int) (o : Option Addr) (c : Nat) (hA : NumsAt W o l) (ho : W.ownsRow base 3 1 v k xs) (hk : k + l.length ≤ 100000) (hbase : base ≤ W.heap.size) :
    ∃ o' cap w6, (appSem #[22, 22] 22 #[v, .slice o l.length c]).run Tryz.prog W = .ok (.slice o' (k + l.length) cap) w6 ∧
      w6.ownsRow base 3 1 (.slice o' (k + l.length) cap) (k + l.length) (xs ++ l.map (.int .i64)) ∧ W.grownBy w6 v.ownBlock := by
  obtain ⟨i0, hi, hz0, hz1, hz2⟩ := info_parts infoInt
  have main : ∀ a : Addr, (∀ j u, (l.map (Value.int .i64))[j]? = some u → W.cell? (a.add j) = some u) → o = some a → ∃ o' cap w6, (appSem #[22, 22] 22 #[v, .slice o l.length c]).run Tryz.prog W = .ok (.slice o' (k + l.length) cap) w6 ∧
      w6.ownsRow base 3 1 (.slice o' (k + l.length) cap) (k + l.length) (xs ++ l.map (.int .i64)) ∧ W.grownBy w6 v.ownBlock := by
    rintro a hc rfl
    obtain ⟨v', w6, hr, h2, h3, _⟩ := run_append_own (P := Tryz.prog) W base 22 22 3 i0 (.int .i64 0) 1 8 Tryz.underlying22 hi hz0 hz1 hz2 rfl (by decide) v k xs ho a l.length c (l.map (.int .i64)) (by simp) hc (fun u hu => by obtain ⟨y, _, rfl⟩ := List.mem_map.1 hu; rfl) (by unfold maxLen; omega) (by omega) hbase
    obtain ⟨o', cap, rfl⟩ := own_form h2
    exact ⟨o', cap, w6, hr, h2, h3⟩
  rcases Nat.eq_zero_or_pos l.length with h0 | h0
  · obtain rfl := List.eq_nil_of_length_eq_zero h0
    cases o with
    | none =>
      obtain ⟨o', cap, rfl⟩ := own_form ho
      exact ⟨o', cap, W, app_noneK W _ ho c, by simpa using ho, ⟨rfl, rfl, rfl, Nat.le_refl _, fun _ _ _ => rfl⟩⟩
    | some a => exact main a (fun j u hj => by simp at hj) rfl
  · obtain ⟨g, off, rfl, hc⟩ := hA h0
    refine main _ (fun j u hj => ?_) rfl
    rw [List.getElem?_map] at hj
    obtain ⟨y, hy, rfl⟩ := Option.map_eq_some_iff.1 hj
    have hadd : (⟨g, off, none⟩ : Addr).add j = ⟨g, off + j, none⟩ := add_atK _ _ _
    rw [hadd]
    exact hc j y hy
theorem nums_rowK {w : World} {base cap n : Nat} {o : Option Addr} {l : List Int} (hn : l.length = n) (h : w.ownsRow base 3 1 (.slice o n cap) n (l.map (.int .i64))) : NumsAt w o l := fun h0 => by
  obtain ⟨g, ho, hc⟩ := row_placeK h (by omega)
  refine ⟨g, 0, ho, fun j x hx => ?_⟩
  have := hc j (.int .i64 x) (by rw [List.getElem?_map, hx]; rfl)
  rw [Nat.zero_add]
  exact this
theorem orZ {x y : Nat} (hx : x < 2 ^ 32) (hy : y < 2 ^ 32) : bits .or .i64 ((x : Nat) : Int) ((y : Nat) : Int) = ((x ||| y : Nat) : Int) :=
  (bits_nat .i64 32 (by decide) (fun n h0 h1 => by rw [IntKind.wrap_i64]; omega) x y hx hy).2
set_option maxRecDepth 100000 in
set_option maxHeartbeats 4000000 in
theorem unions_anyK (o : Option Addr) (l : List Int) (cap : Nat) (o2 : Option Addr) (l2 : List Int) (cap2 : Nat) (hc : l.length ≤ cap) (hc2 : l2.length ≤ cap2) (w : World) (hA : NumsIn w o l) (hA2 : NumsIn w o2 l2) (hG : KGlob w) :
    Calls Tryz.prog 8 #[.slice o l.length cap, .slice o2 l2.length cap2] w fun e w' => e = .returned (.bool true) ∧ Below w.heap.size w w' := by
  have HS := Lib.hid (shownK_any w hG)
  have hB := hA.take 50
  have hB2 := hA2.take 50
  have la : (l.take 50).length = min l.length 50 := by rw [List.length_take]; omega
  have lb : (l2.take 50).length = min l2.length 50 := by rw [List.length_take]; omega
  obtain ⟨k, hk⟩ : ∃ n, l.length = n := ⟨_, rfl⟩
  obtain ⟨k2, hk2⟩ : ∃ n, l2.length = n := ⟨_, rfl⟩
  rw [hk] at la hc ⊢
  rw [hk2] at lb hc2 ⊢
  obtain ⟨L, hL⟩ : ∃ A, l.take 50 = A := ⟨_, rfl⟩
  obtain ⟨M, hM⟩ : ∃ A, l2.take 50 = A := ⟨_, rfl⟩
  rw [hL] at hB la
  rw [hM] at hB2 lb
  obtain ⟨m, hm⟩ : ∃ m, min k 50 = m := ⟨_, rfl⟩
  obtain ⟨m2, hmm⟩ : ∃ m, min k2 50 = m := ⟨_, rfl⟩
  rw [hm] at la
  rw [hmm] at lb
  have hm2 : min ((k : Nat) : Int) 50 = ((m : Nat) : Int) := by omega
  have hm3 : min ((k2 : Nat) : Int) 50 = ((m2 : Nat) : Int) := by omega
  have hmc : m ≤ cap := by omega
  have hmc2 : m2 ≤ cap2 := by omega
  have hmb : m ≤ 50 := by omega
  have hmb2 : m2 ≤ 50 := by omega
  have K1 : Hid (∀ W, Below w.heap.size w W → Calls Tryz.prog 18 #[.slice o m cap] W fun e' w' => e' = .returned (.tuple #[.int .i64 (ofV L), .int .i64 (errZ (ofZ L))]) ∧ Below W.heap.size W w') := Lib.hid fun W hb => by
    have := Of_anyK o L cap (by omega) hB.2 W (hG.below hb) (hB.1.below hb)
    rwa [la] at this
  have K2 : Hid (∀ W, Below w.heap.size w W → Calls Tryz.prog 18 #[.slice o2 m2 cap2] W fun e' w' => e' = .returned (.tuple #[.int .i64 (ofV M), .int .i64 (errZ (ofZ M))]) ∧ Below W.heap.size W w') := Lib.hid fun W hb => by
    have := Of_anyK o2 M cap2 (by omega) hB2.2 W (hG.below hb) (hB2.1.below hb)
    rwa [lb] at this
  have APP : Hid (∀ w1, Below w.heap.size w w1 → ∃ o5 c5 w5 o6 c6 w6, (appSem #[22, 22] 22 #[.slice none 0 0, .slice o2 m2 cap2]).run Tryz.prog w1 = .ok (.slice o5 m2 c5) w5 ∧ (appSem #[22, 22] 22 #[.slice o5 m2 c5, .slice o m cap]).run Tryz.prog w5 = .ok (.slice o6 (m2 + m) c6) w6 ∧ Below w.heap.size w w6 ∧
      (∀ W, Below w6.heap.size w6 W → Calls Tryz.prog 18 #[.slice o6 (m2 + m) c6] W fun e' w' => e' = .returned (.tuple #[.int .i64 (ofV (M ++ L)), .int .i64 (errZ (ofZ (M ++ L)))]) ∧ Below W.heap.size W w')) := Lib.hid fun w1 hb => by
    obtain ⟨o5, c5, w5, hr5, ho5, hg5⟩ := nums_ownK (W := w1) (base := w1.heap.size) M o2 cap2 (hB2.1.below hb) (World.ownsRow_nil _ _ _ _) (by omega) (Nat.le_refl _)
    rw [lb, Nat.zero_add, List.nil_append] at ho5
    rw [lb, Nat.zero_add] at hr5
    have hb5 : Below w1.heap.size w1 w5 := (Below.refl _ w1).grown hg5 (Nat.le_refl _) (fun g h => by simp [Value.ownBlock] at h)
    obtain ⟨o6, c6, w6, hr6, ho6, hg6⟩ := nums_ownK (W := w5) (base := w1.heap.size) L o cap ((hB.1.below hb).below hb5) ho5 (by omega) hb5.size
    rw [la] at hr6 ho6
    rw [← List.map_append] at ho6
    have hb6 : Below w1.heap.size w1 w6 := hb5.grown hg6 hb5.size (fun g h => own_rowK ho5 h)
    have hlen : (M ++ L).length = m2 + m := by rw [List.length_append, la, lb]
    refine ⟨o5, c5, w5, o6, c6, w6, hr5, hr6, hb.trans (hb6.mono hb.size), fun W hW => ?_⟩
    have := Of_anyK o6 (M ++ L) c6 (by omega) (fun c h => by rcases List.mem_append.1 h with h | h; exact hB2.2 c h; exact hB.2 c h) W (((hG.below hb).below hb6).below (hW.mono hb6.size |> fun _ => hW)) ((nums_rowK hlen ho6).below hW)
    rwa [hlen] at this
  have happ := ofZ_append L M
  obtain ⟨P, hP⟩ : ∃ P, (fun (e : Ending) w' => e = .returned (.bool true) ∧ Below w.heap.size w w') = P := ⟨_, rfl⟩
  have HP := Lib.hid hP
  rw [hP]
  have FACT : ∃ (x ex y ey z ez : Int), ofV L = x ∧ errZ (ofZ L) = ex ∧ ofV M = y ∧ errZ (ofZ M) = ey ∧ ofV (M ++ L) = z ∧ errZ (ofZ (M ++ L)) = ez ∧ ((ex = 70 ∧ ez = 70 ∧ z = 0) ∨ (ex = 0 ∧ ey = 70 ∧ ez = 70 ∧ z = 0) ∨ (ex = 0 ∧ ey = 0 ∧ ez = 0 ∧ bits .or .i64 x y = z)) := by
    refine ⟨_, _, _, _, _, _, rfl, rfl, rfl, rfl, rfl, rfl, ?_⟩
    cases h1 : ofZ L with
    | none =>
      rw [h1] at happ
      have h3 : ofZ (M ++ L) = none := happ
      rw [h3, ofV_none h3]
      exact .inl ⟨rfl, rfl, rfl⟩
    | some x =>
      cases h2 : ofZ M with
      | none =>
        rw [h1, h2] at happ
        have h3 : ofZ (M ++ L) = none := happ
        rw [h3, ofV_none h3]
        exact .inr (.inl ⟨rfl, rfl, rfl, rfl⟩)
      | some y =>
        rw [h1, h2] at happ
        have h3 : ofZ (M ++ L) = some (x ||| y) := happ
        rw [h3, ofV_some h3, ofV_some h1, ofV_some h2]
        exact .inr (.inr ⟨rfl, rfl, rfl, orZ (ofZ_lt h1) (ofZ_lt h2)⟩)
  obtain ⟨x, ex, y, ey, z, ez, f1, f2, f3, f4, f5, f6, f7⟩ := FACT
  rw [f1, f2] at K1
  rw [f3, f4] at K2
  rw [f5, f6] at APP
  clear hA hA2 hB hB2 la lb hk hk2 hL hM hm hmm hG hP hc hc2 f1 f2 f3 f4 f5 f6 happ
  have e1 : (z == z) = true := by simp
  rcases f7 with ⟨rfl, rfl, rfl⟩ | ⟨rfl, rfl, rfl, rfl⟩ | ⟨rfl, rfl, rfl, f8⟩
  focus
    go_enter Tryz.func8, Tryz.ntmps8
  rotate_left 1
  focus
    go_enter Tryz.func8, Tryz.ntmps8
  rotate_left 1
  focus
    go_enter Tryz.func8, Tryz.ntmps8
  all_goals
    go_wp2_with fail
    refine HS.out.mono ?_
    rintro e' w1 ⟨rfl, b1'⟩
    obtain ⟨o5, c5, w5, o6, c6, w6, hr5, hr6, b6, KA⟩ := APP.out w1 b1'
    have B6 := Lib.hid b6
    have KAH := Lib.hid KA
    clear b1' b6 KA
    go_wp2_with fail
    refine (K1.out _ B6.out).mono ?_
    rintro e' w7 ⟨rfl, d7⟩
    have B7 := Lib.hid (B6.out.trans (d7.mono B6.out.size))
    have E7 := Lib.hid d7
    clear d7
    go_wp2_with fail
    refine (K2.out _ B7.out).mono ?_
    rintro e' w8 ⟨rfl, d8⟩
    have B8 := Lib.hid (B7.out.trans (d8.mono B7.out.size))
    have KA8 := Lib.hid (KAH.out w8 (E7.out.trans (d8.mono E7.out.size)))
    clear d8
    go_wp2_with fail
    refine KA8.out.mono ?_
    rintro e' w9 ⟨rfl, d9⟩
    have HQ : Hid (P (.returned (.bool true)) w9) := by
      rw [← HP.out]
      exact Lib.hid ⟨rfl, B8.out.trans (d9.mono B8.out.size)⟩
    clear d9
    go_wp2
    exact HQ.out
end Go.Proofs.YtnpbbmoknlbfaaaGreatDoor
