/- Shaken by bunq.py. -/
import Derived.Test.YtaoooocalpkhjaaDoorBuq2
import Derived.Test.YtaoooocalpkhjaaDoorBuq1
import Derived.Maps.Views
import Derived.Maps.OwnSet
import Derived.Maps.Keyed
import Derived.DeepKeys4
import Derived.StringKeys
import Derived.WideMake
import Derived.Maps.AppendAt
import Derived.OrdersHeld
import Derived.Deep.RegionHeld
namespace Go.Proofs.YtaoooocalpkhjaaDoor
open Go.RowKit Go.Shelf Go.Maps
attribute [local go_sem] Oper.semAt_some

abbrev wayV (B : Nat) : Value := .func (.func 145) #[] #[.pointer (some ⟨B, 0, none⟩)]
theorem wayOf_any (x : ItemP) (w : World) : Calls Tryd.prog 141 #[itV x] w fun e w' => e = .returned (wayV w.heap.size) ∧ w.alloc (itO x) = w' := by
  go_enter Tryd.func141, Tryd.ntmps141
  go_wp2
  go_ret
  exact ⟨rfl, rfl⟩
def wayA (x : ItemP) (c : Int) (n : Nat) : Value := match wayH x c n with | some m => .tuple #[.int .i64 (m : Nat), .bool true] | none => .tuple #[.int .i64 0, .bool false]
set_option maxRecDepth 100000 in
set_option maxHeartbeats 4000000 in
theorem way1_any (x : ItemP) (B n : Nat) (c : Int) (hx : x.2 = 0 ∨ x.2 = 1 ∨ x.2 = 2) (hn : n ≤ 1000) (w : World) (aP aS : Addr) (hQ : GlobH w aP aS) (hB : w.heap[B]? = some (itO x)) :
    Calls Tryd.prog 145 #[.int .i64 (n : Nat), .int .i64 c, .pointer (some ⟨B, 0, none⟩)] w fun e w' => e = .returned (wayA x c n) ∧ Below w.heap.size w w' := by
  have HH := Lib.hid (Has_anyK x.1 c w)
  obtain ⟨k0, k1⟩ := it_cells hB
  obtain ⟨P, hP⟩ : ∃ P, (fun (e : Ending) w' => e = .returned (wayA x c n) ∧ Below w.heap.size w w') = P := ⟨_, rfl⟩
  have HP := Lib.hid hP
  rw [hP]
  have FIN : Hid (∀ W m, Below w.heap.size w W → wayH x c n = some m → P (.returned (.tuple #[.int .i64 (m : Nat), .bool true])) W) := Lib.hid fun W m hb h => by
    rw [← HP.out]
    refine ⟨?_, hb⟩
    unfold wayA
    rw [h]
  obtain ⟨s, h⟩ := x
  simp only at k0 k1 hx
  cases hh : hasZ s c with
  | false =>
    have HNO : Hid (∀ W, Below w.heap.size w W → P (.returned (.tuple #[.int .i64 0, .bool false])) W) := Lib.hid fun W hb => by
      rw [← HP.out]
      refine ⟨?_, hb⟩
      unfold wayA wayH
      rw [hh]
      rfl
    simp only at HH
    rw [hh] at HH
    clear hP hh hB hQ FIN
    go_enter Tryd.func145, Tryd.ntmps145
    go_wp2_with fail
    refine HH.out.mono ?_
    rintro e w2 ⟨rfl, b2⟩
    have HF := Lib.hid (HNO.out w2 b2)
    clear b2
    go_wp2
    first | exact HF.out | (go_ret; exact HF.out)
  | true =>
    simp only at HH
    rw [hh] at HH
    have hwy : ∀ m, wayH (s, h) c n = some m ↔ m = if n % 2 = 1 then n - 1 else n + farH h := fun m => by
      unfold wayH
      rw [if_pos hh]
      simp only [Option.some.injEq]
      exact eq_comm
    have HG := Lib.hid hQ
    by_cases ho : n % 2 = 1
    · have HY : Hid (∀ W, Below w.heap.size w W → P (.returned (.tuple #[.int .i64 ((n - 1 : Nat) : Int), .bool true])) W) := Lib.hid fun W hb => FIN.out W (n - 1) hb ((hwy _).2 (by rw [if_pos ho]))
      have r1 : (((n : Nat) : Int) % 2 == 1) = true := by rw [beq_iff_eq]; omega
      have r2 : Int.tmod ((n : Nat) : Int) 2 = 1 := by rw [Int.tmod_eq_emod_of_nonneg (by omega)]; omega
      have r3 : ((n : Nat) : Int) - 1 = ((n - 1 : Nat) : Int) := by omega
      obtain ⟨m, hm⟩ : ∃ m, n - 1 = m := ⟨_, rfl⟩
      have hsub : wrap64 (((n : Nat) : Int) - 1) = ((m : Nat) : Int) := by unfold wrap64; omega
      rw [hm] at HY r3
      clear hP hh hB hQ FIN hwy ho hm
      go_enter Tryd.func145, Tryd.ntmps145
      go_wp2_with fail
      refine HH.out.mono ?_
      rintro e w2 ⟨rfl, b2⟩
      have HF := Lib.hid (HY.out w2 b2)
      clear b2
      go_wp2
      try rw [r3]
      first | exact HF.out | (go_ret; exact HF.out)
    · have r1 : (((n : Nat) : Int) % 2 == 1) = false := by rw [beq_eq_false_iff_ne]; omega
      have r2 : Int.tmod ((n : Nat) : Int) 2 = 0 := by rw [Int.tmod_eq_emod_of_nonneg (by omega)]; omega
      have HY : Hid (∀ W, Below w.heap.size w W → P (.returned (.tuple #[.int .i64 ((n + farH h : Nat) : Int), .bool true])) W) := Lib.hid fun W hb => FIN.out W (n + farH h) hb ((hwy _).2 (by rw [if_neg ho]))
      rcases hx with rfl | rfl | rfl
      · have HY2 : Hid (∀ W, Below w.heap.size w W → P (.returned (.tuple #[.int .i64 (((n : Nat) : Int) + 2), .bool true])) W) := HY
        clear hP hh hB hQ FIN hwy ho HY
        go_enter Tryd.func145, Tryd.ntmps145
        go_wp2_with fail
        refine HH.out.mono ?_
        rintro e w2 ⟨rfl, b2⟩
        have HF := Lib.hid (HY2.out w2 b2)
        have g2 := HG.out.below b2
        have f0 := g2.far0
        have f1 := cell_keepQ b2 k1
        clear b2 g2 k0 k1
        go_wp2
        first | exact HF.out | (go_ret; exact HF.out)
      · have HY2 : Hid (∀ W, Below w.heap.size w W → P (.returned (.tuple #[.int .i64 ((n : Nat) : Int), .bool true])) W) := HY
        clear hP hh hB hQ FIN hwy ho HY
        go_enter Tryd.func145, Tryd.ntmps145
        go_wp2_with fail
        refine HH.out.mono ?_
        rintro e w2 ⟨rfl, b2⟩
        have HF := Lib.hid (HY2.out w2 b2)
        have g2 := HG.out.below b2
        have f0 := g2.far1
        have f1 := cell_keepQ b2 k1
        clear b2 g2 k0 k1
        go_wp2
        first | exact HF.out | (go_ret; exact HF.out)
      · have HY2 : Hid (∀ W, Below w.heap.size w W → P (.returned (.tuple #[.int .i64 (((n : Nat) : Int) + 1), .bool true])) W) := HY
        clear hP hh hB hQ FIN hwy ho HY
        go_enter Tryd.func145, Tryd.ntmps145
        go_wp2_with fail
        refine HH.out.mono ?_
        rintro e w2 ⟨rfl, b2⟩
        have HF := Lib.hid (HY2.out w2 b2)
        have g2 := HG.out.below b2
        have f0 := g2.far2
        have f1 := cell_keepQ b2 k1
        clear b2 g2 k0 k1
        go_wp2
        first | exact HF.out | (go_ret; exact HF.out)
end Go.Proofs.YtaoooocalpkhjaaDoor
namespace Go.Proofs.YtaoooocalpkhjaaDoor
open Go.RowKit Go.Shelf Go.Maps
attribute [local go_sem] Oper.semAt_some

def fits64 (x : ItemP) : Prop := (-9223372036854775808 ≤ x.1 ∧ x.1 ≤ 9223372036854775807) ∧ (-9223372036854775808 ≤ x.2 ∧ x.2 ≤ 9223372036854775807)
theorem itLaid : laidOutB Tryd.prog = true := by kernel_rfl
theorem itRow : 69 < Tryd.prog.types.size := of_decide_eq_true (by kernel_rfl)
theorem itKeyT : Tryd.prog.keyType 69 = true := by kernel_rfl
theorem itWide : (match Tryd.prog.underlying 69 with | some (.array _ _) | some (.struct _) => true | _ => false) = true := by kernel_rfl
set_option maxRecDepth 100000 in
theorem itLaw : WideMaps.KeyLaw Tryd.prog 69 := deep_law_laid itLaid (m := 3) (by omega) itRow (by kernel_rfl) itWide
theorem keyIt : Keyed Tryd.prog 69 := Keyed.of_law itLaw
def kI (x : ItemP) : Lit := .string (keyBytes [Lit.int .i64 x.1, Lit.int .i64 x.2])
theorem key_it {x : ItemP} (hx : fits64 x) : keyOf Tryd.prog 69 (itV x) = some (kI x) := by
  have e1 : IntKind.i64.min = -9223372036854775808 := by decide
  have e2 : IntKind.i64.max = 9223372036854775807 := by decide
  have w0 : (Lit.int .i64 x.1).wf = true := by have := hx.1; simp [Lit.wf, e1, e2]; omega
  have w1 : (Lit.int .i64 x.2).wf = true := by have := hx.2; simp [Lit.wf, e1, e2]; omega
  have k0 : ∀ d, Tryd.prog.keyLits (d + 1) 2 [.int .i64 x.1] = some [Lit.int .i64 x.1] := fun d => by
    unfold Program.keyLits
    simp only [Tryd.underlying2]
    rw [if_pos ⟨trivial, w0⟩]
  have k1 : ∀ d, Tryd.prog.keyLits (d + 1) 3 [.int .i64 x.2] = some [Lit.int .i64 x.2] := fun d => by
    unfold Program.keyLits
    simp only [Tryd.underlying3]
    rw [if_pos ⟨trivial, w1⟩]
  have hform : (Value.agg (itC x)).formed Tryd.prog 69 = true := by
    obtain ⟨a, b⟩ := x
    kernel_rfl
  have hsz : Tryd.prog.types.size = 240 := by kernel_rfl
  have hc0 : Tryd.prog.cellsOf 2 = 1 := by kernel_rfl
  have hc1 : Tryd.prog.cellsOf 3 = 1 := by kernel_rfl
  have hcI : Tryd.prog.cellsOf 69 = 2 := by kernel_rfl
  have hl : Tryd.prog.keyLits (Tryd.prog.types.size + 1) 69 (itC x).toList = some [Lit.int .i64 x.1, Lit.int .i64 x.2] := by
    rw [hsz]
    unfold Program.keyLits
    simp only [Tryd.underlying69]
    rw [if_pos ⟨by rw [hcI]; rfl, by kernel_rfl⟩]
    simp only [List.mapM_cons, List.mapM_nil, hc0, hc1, List.drop_zero, List.take_succ_cons, List.take_zero, List.drop_succ_cons, k0, k1]
    rfl
  unfold keyOf
  rw [Tryd.underlying69]
  simp only
  rw [if_pos (by rw [itKeyT, hform]; rfl), show (Value.agg (itC x)).cells.toList = (itC x).toList from rfl, hl]
  rfl
theorem kI_key (x : ItemP) : WideAt.IsKeyLit (kI x) := trivial
set_option maxRecDepth 100000 in
theorem kI_inj {x y : ItemP} (hx : fits64 x) (hy : fits64 y) (h : kI x = kI y) : x = y := by
  have h1 := key_it hx
  have h2 := key_it hy
  rw [← h] at h2
  have h3 := keyIt.inj h1 h2
  obtain ⟨a, b⟩ := x
  obtain ⟨c, d⟩ := y
  injection h3 with h3
  have h4 := congrArg Array.toList h3
  simp only [List.cons.injEq, Value.int.injEq, true_and, and_true] at h4
  rw [h4.1, h4.2]
theorem zeroWay (w : World) : (zeroValue 195).run Tryd.prog w = .ok .nilFunc w := by kernel_rfl
def WayMap (W : World) (M N : Nat) (X : Nat → Prop) : Prop := ∃ (D : DataW Value) (n : Nat), W.ownsMap Tryd.prog 69 heldQ M n D ∧ n ≤ N ∧
  ∀ x, fits64 x → has D (kI x) = false ∨ ∃ B, X B ∧ B < W.heap.size ∧ B ≠ M ∧ D.atKey (kI x) (.held .nilFunc) = .held (wayV B) ∧ has D (kI x) = true ∧ W.heap[B]? = some (itO x)
theorem WayMap.lt {W : World} {M N : Nat} {X : Nat → Prop} (h : WayMap W M N X) : M < W.heap.size := by
  obtain ⟨D, n, h, _⟩ := h
  exact h.lt
theorem WayMap.mono {W : World} {M N N' : Nat} {X X' : Nat → Prop} (h : WayMap W M N X) (hn : N ≤ N') (hX : ∀ k, X k → X' k) : WayMap W M N' X' := by
  obtain ⟨D, n, h1, h2, h3⟩ := h
  refine ⟨D, n, h1, by omega, fun x hx => ?_⟩
  rcases h3 x hx with h | ⟨B, hB, r⟩
  · exact .inl h
  · exact .inr ⟨B, hX B hB, r⟩
theorem WayMap.moves {W W' : World} {M N : Nat} {X S : Nat → Prop} (h : WayMap W M N X) (hm : Moves S W W') (hs : ¬ S M) (hx : ∀ k, X k → ¬ S k) : WayMap W' M N X := by
  obtain ⟨D, n, ⟨es, clock, hb, F⟩, h2, h3⟩ := h
  refine ⟨D, n, ⟨es, clock, (hm.block M (Array.getElem?_eq_some_iff.1 hb).1 hs).trans hb, F⟩, h2, fun x hx' => ?_⟩
  rcases h3 x hx' with h | ⟨B, hB, hl, r1, r2, r3, r4⟩
  · exact .inl h
  · exact .inr ⟨B, hB, Nat.lt_of_lt_of_le hl hm.size, r1, r2, r3, (hm.block B hl (hx B hB)).trans r4⟩
theorem WayMap.below {W W' : World} {M N : Nat} {X : Nat → Prop} (h : WayMap W M N X) (hb : Below W.heap.size W W') : WayMap W' M N X := h.moves (S := fun _ => False) (Moves.of_below hb) (fun h => h) fun _ _ h => h
theorem WayMap.made (w : World) : WayMap (w.alloc (.map #[] 0)) w.heap.size 0 fun _ => False := ⟨.map [], 0, World.ownsMap_made _ _ _ _, Nat.le_refl _, fun _ _ => .inl rfl⟩
theorem WayMap.more {W W' : World} {M N B : Nat} {X X' : Nat → Prop} {D : DataW Value} {n : Nat} {x : ItemP} (h1 : W.ownsMap Tryd.prog 69 heldQ M n D) (h2 : n ≤ N)
    (h3 : ∀ x, fits64 x → has D (kI x) = false ∨ ∃ B, X B ∧ B < W.heap.size ∧ B ≠ M ∧ D.atKey (kI x) (.held .nilFunc) = .held (wayV B) ∧ has D (kI x) = true ∧ W.heap[B]? = some (itO x))
    (ho : W'.ownsMap Tryd.prog 69 heldQ M (n + 1) (D.put (kI x) (.held (wayV B)))) (hg : W.grownBy W' (some M)) (hx : fits64 x) (hB : X' B) (hBl : B < W'.heap.size) (hBM : B ≠ M) (hBi : W'.heap[B]? = some (itO x)) (hX : ∀ k, X k → X' k) : WayMap W' M (N + 1) X' := by
  have hD := h1.isMap
  refine ⟨_, n + 1, ho, by omega, fun y hy => ?_⟩
  by_cases e : x = y
  · subst e
    exact .inr ⟨B, hB, hBl, hBM, atKey_put_same hD (kI_key x) _ _, has_put_same hD (kI_key x) _, hBi⟩
  · have hne : kI y ≠ kI x := fun h => e (kI_inj hx hy h.symm)
    rw [has_put_other hne, atKey_put_other hne]
    rcases h3 y hy with h | ⟨C, hC, hl, r1, r2, r3, r4⟩
    · exact .inl h
    · exact .inr ⟨C, hX C hC, Nat.lt_of_lt_of_le hl hg.size, r1, r2, r3, (hg.block C hl (fun e => r1 (Option.some.inj e))).trans r4⟩
end Go.Proofs.YtaoooocalpkhjaaDoor
namespace Go.Proofs.YtaoooocalpkhjaaDoor
open Go.RowKit Go.Shelf Go.Maps
attribute [local go_sem] Oper.semAt_some

def grownX (X : Nat → Prop) (w w' : World) (k : Nat) : Prop := X k ∨ (w.heap.size ≤ k ∧ k < w'.heap.size)
def WayQ (x : ItemP) (M N : Nat) (X : Nat → Prop) (w : World) (e : Ending) (w' : World) : Prop := ∃ B, e = .returned (wayV B) ∧ w'.heap[B]? = some (itO x) ∧ Moves (fun k => k = M) w w' ∧ WayMap w' M (N + 1) (grownX X w w')
theorem held_eq {v u : Value} {ps : List MemPlace} (h : heldQ v = some (.held u, ps)) : v = u := by
  unfold heldQ at h
  simp only [Option.some.injEq, Prod.mk.injEq, DataW.held.injEq] at h
  exact h.1
theorem moves_grownH {a b : World} {row : Option Nat} (h : a.grownBy b row) : Moves (fun k => row = some k) a b := ⟨h.os, h.tape, h.output, h.size, fun k hk hr => h.block k hk (fun e => hr e.symm)⟩
set_option maxRecDepth 100000 in
set_option maxHeartbeats 4000000 in
theorem way_any (st : Bool) (o : Option Addr) (n cap M N : Nat) (X : Nat → Prop) (x : ItemP) (hx : fits64 x) (hN : N ≤ 100000) (w : World) (hM : WayMap w M N X) :
    Calls Tryd.prog 131 #[rnrV st o n cap (.map (some M)), itV x] w (WayQ x M N X w) := by
  obtain ⟨wa, hwa⟩ : ∃ wa, w.alloc (rnrO st o n cap (.map (some M))) = wa := ⟨_, rfl⟩
  have ba : Below w.heap.size w wa := by rw [← hwa]; exact (Below.refl _ _).alloc (Nat.le_refl _) _
  have za : wa.heap.size = w.heap.size + 1 := by rw [← hwa]; simp
  have ra : wa.heap[w.heap.size]? = some (rnrO st o n cap (.map (some M))) := by rw [← hwa]; exact heap_alloc_new _ _
  obtain ⟨w1, hw1⟩ : ∃ w1, wa.alloc (itO x) = w1 := ⟨_, rfl⟩
  have b1' : Below wa.heap.size wa w1 := by rw [← hw1]; exact (Below.refl _ _).alloc (Nat.le_refl _) _
  have z1 : w1.heap.size = w.heap.size + 2 := by rw [← hw1]; simp; omega
  have r1 : w1.heap[w.heap.size + 1]? = some (itO x) := by rw [← hw1, ← za]; exact heap_alloc_new _ _
  have r0 := row_below ra b1'
  have b1 := ba.trans (b1'.mono ba.size)
  have hMl := hM.lt
  have hM1 := hM.below b1
  obtain ⟨P, hP⟩ : ∃ P, WayQ x M N X w = P := ⟨_, rfl⟩
  have HP := Lib.hid hP
  rw [hP]
  obtain ⟨c0, c1, c2⟩ := rnr_cells r0
  obtain ⟨k0, k1⟩ := it_cells r1
  obtain ⟨D, nn, hown, hle, hall⟩ := id hM1
  obtain ⟨v, ps, hlk, hv⟩ := hown.look_ok keyIt Tryd.underlying168 (zeroWay w1) (show heldQ .nilFunc = _ from rfl) (key_it hx)
  have HW : Hid (wa.alloc (itO x) = w1) := Lib.hid hw1
  have HWA := Lib.hid hwa
  rcases hall x hx with hno | ⟨B, hXB, hBl, hBM, hat, hhas, hBi⟩
  · have hat : D.atKey (kI x) (.held .nilFunc) = .held .nilFunc := by
      rcases hall x hx with h | ⟨B, _, _, _, _, h, _⟩
      · exact atKey_of_not_has hno _
      · rw [hno] at h; cases h
    rw [hat] at hv
    obtain rfl := held_eq hv
    rw [hno] at hlk
    obtain ⟨w2, hw2⟩ : ∃ w2, w1.alloc (itO x) = w2 := ⟨_, rfl⟩
    have b2 : Below w1.heap.size w1 w2 := by rw [← hw2]; exact (Below.refl _ _).alloc (Nat.le_refl _) _
    have z2 : w2.heap.size = w.heap.size + 3 := by rw [← hw2]; simp; omega
    have r2 : w2.heap[w1.heap.size]? = some (itO x) := by rw [← hw2]; exact heap_alloc_new _ _
    obtain ⟨w3, hup, hown3, hg3⟩ := (show w2.ownsMap Tryd.prog 69 heldQ M nn D by rw [← hw2]; exact hown.alloc _).update keyIt Tryd.underlying168 (by unfold maxLen; omega) (val := wayV w1.heap.size) (key_it hx) (show heldQ _ = _ from rfl)
    have hM3 : WayMap w3 M (N + 1) (grownX X w w3) := by
      refine WayMap.more (W := w2) (X := X) (by rw [← hw2]; exact hown.alloc _) hle (fun y hy => ?_) hown3 hg3 hx (.inr ⟨by omega, by have := hg3.size; omega⟩) (by have := hg3.size; omega) (by omega) ((hg3.block _ (by omega) (fun e => by have := Option.some.inj e; omega)).trans r2) (fun k h => .inl h)
      rcases hall y hy with h | ⟨C, hC, hl, q1, q2, q3, q4⟩
      · exact .inl h
      · exact .inr ⟨C, hC, by omega, q1, q2, q3, row_below q4 b2⟩
    have m3 : Moves (fun k => k = M) w w3 := (Moves.of_below (b1.trans (b2.mono b1.size))).trans ((moves_grownH hg3).mono fun k h => (Option.some.inj h).symm)
    have r3 : w3.heap[w1.heap.size]? = some (itO x) := (hg3.block _ (by omega) (fun e => by have := Option.some.inj e; omega)).trans r2
    have HF : Hid (P (.returned (wayV w1.heap.size)) w3) := by
      rw [← HP.out]
      exact Lib.hid ⟨_, rfl, r3, m3, hM3⟩
    have HC := Lib.hid (wayOf_any x w1)
    have HW2 := Lib.hid hw2
    have d2 := cell_keepQ b2 c2
    have e0 := cell_keepQ b2 k0
    have e1 := cell_keepQ b2 k1
    rw [← hw1, ← hwa] at hlk
    clear hP hwa ba za ra hw1 b1' z1 r1 r0 b1 hM hM1 hMl hall hno c0 c1 c2 k0 k1 hat hv hw2 b2 z2 r2 hown3 hg3 hM3 m3 r3 hown hle
    go_enter Tryd.func131, Tryd.ntmps131
    go_wp2_with fail
    rw [HWA.out, HW.out]
    refine HC.out.mono ?_
    rintro e w2' ⟨rfl, h2'⟩
    obtain rfl : w2 = w2' := HW2.out.symm.trans h2'
    clear h2'
    go_wp2
    first | exact HF.out | (go_ret; exact HF.out)
  · rw [hat] at hv
    obtain rfl := held_eq hv
    rw [hhas] at hlk
    have HF : Hid (P (.returned (wayV B)) w1) := by
      rw [← HP.out]
      exact Lib.hid ⟨_, rfl, hBi, Moves.of_below b1, hM1.mono (by omega) fun k h => .inl h⟩
    rw [← hw1, ← hwa] at hlk
    clear hP hwa ba za ra hw1 b1' z1 r1 r0 b1 hM hM1 hMl hall hat hhas c0 c1 c2 k0 k1 hv hown hle hXB hBl hBM hBi
    go_enter Tryd.func131, Tryd.ntmps131
    go_wp2_with fail
    rw [HWA.out, HW.out]
    first | exact HF.out | (go_ret; exact HF.out)
end Go.Proofs.YtaoooocalpkhjaaDoor
namespace Go.Proofs.YtaoooocalpkhjaaDoor
open Go.RowKit Go.Shelf Go.Maps
attribute [local go_sem] Oper.semAt_some

theorem close_lt {xs : List ItemP} {s : Nat} (h : s < 2 ^ (2 * xs.length + 1)) : ∀ j, j ≤ xs.length → closeN xs s j < 2 ^ (2 * xs.length + 1)
  | 0, _ => h
  | j + 1, hj => by
    have ih := close_lt h j (by omega)
    rw [closeN]
    split
    · split
      · exact or_two_lt ih (by omega)
      · exact ih
    · exact ih
theorem close_some {xs : List ItemP} {s j : Nat} {x : ItemP} (h : xs[j]? = some x) : closeN xs s (j + 1) = if (closeN xs s j).testBit (2 * j) = true ∧ x.2 ≠ 0 then closeN xs s j ||| 2 ^ (2 * j + 2) else closeN xs s j := by
  rw [closeN, h]
theorem setOf_one (k : Nat) (hk : k < 32) (W : World) : Calls Tryd.prog 129 #[.slice (some ⟨W.heap.size, 0, none⟩) 1 1] (W.alloc (.cells #[.int .i64 (k : Nat)] 3 (0, 0))) fun e w' => e = .returned (.int .i64 ((2 ^ k : Nat) : Int)) ∧ (W.alloc (.cells #[.int .i64 (k : Nat)] 3 (0, 0))) = w' := by
  have := setOf_any (some ⟨W.heap.size, 0, none⟩) [k] 1 (by simp) (by simpa using hk) (W.alloc (.cells #[.int .i64 (k : Nat)] 3 (0, 0))) (num_new (heap_alloc_new _ _))
  have e : setOfN [k] = 2 ^ k := by unfold setOfN orN; simp
  rw [e] at this
  exact this
set_option maxRecDepth 100000 in
set_option maxHeartbeats 4000000 in
theorem closed_any (st : Bool) (o lo : Option Addr) (xs : List ItemP) (cap lcap : Nat) (m : Option Nat) (l : List Nat) (hxl : xs.length ≤ 10) (hl : l.length ≤ 1000) (hlt : ∀ c ∈ l, c < 2 * xs.length + 1) (w : World) (hA : AtI w o xs) (hL : NumsAt w lo (natsZ l)) :
    Calls Tryd.prog 121 #[rnrV st o xs.length cap (.map m), .slice lo l.length lcap] w fun e w' => e = .returned (.int .i64 ((closedH xs (setOfN l) : Nat) : Int)) ∧ Below w.heap.size w w' := by
  obtain ⟨P, hP⟩ : ∃ P, (fun (e : Ending) w' => e = .returned (.int .i64 ((closedH xs (setOfN l) : Nat) : Int)) ∧ Below w.heap.size w w') = P := ⟨_, rfl⟩
  have HP := Lib.hid hP
  rw [hP]
  obtain ⟨w1, hw1⟩ : ∃ w1, w.alloc (rnrO st o xs.length cap (.map m)) = w1 := ⟨_, rfl⟩
  have b1 : Below w.heap.size w w1 := by rw [← hw1]; exact (Below.refl _ _).alloc (Nat.le_refl _) _
  have r1 : w1.heap[w.heap.size]? = some (rnrO st o xs.length cap (.map m)) := by rw [← hw1]; exact heap_alloc_new _ _
  obtain ⟨c0, c1, c2⟩ := rnr_cells r1
  have HS := Lib.hid (setOf_any lo l lcap hl (fun c hc => by have := hlt c hc; omega) w1 (hL.below b1))
  have s0 : setOfN l < 2 ^ (2 * xs.length + 1) := setOfN_lt hlt
  obtain ⟨s, hs⟩ : ∃ s, setOfN l = s := ⟨_, rfl⟩
  rw [hs] at HS HP s0
  have HLT : Hid (∀ j, j ≤ xs.length → closeN xs s j < 2 ^ 32) := Lib.hid fun j hj => Nat.lt_of_lt_of_le (close_lt s0 j hj) (Nat.pow_le_pow_right (by decide) (by omega))
  have HB1 := Lib.hid b1
  have HW1 := Lib.hid hw1
  have HA1 := Lib.hid (hA.below b1)
  obtain ⟨n, hn⟩ : ∃ n, xs.length = n := ⟨_, rfl⟩
  have HN := Lib.hid hn
  rw [hn] at hxl c1 HW1 HLT ⊢
  clear hP hw1 b1 r1 hA hL hl hlt hs s0 hn
  go_enter Tryd.func121, Tryd.ntmps121
  go_wp2_with fail
  rw [HW1.out]
  refine HS.out.mono ?_
  rintro e _ ⟨rfl, rfl⟩
  go_wp2_with fail
  go_loopg [5, 14] n (fun k' v5 v14 wr => ∃ (j z : Nat), v14 = .int .i64 (j : Nat) ∧ v5 = .int .i64 (z : Nat) ∧ Hid (z = closeN xs s j) ∧ j ≤ n ∧ k' = n - j ∧ Hid (Below w1.heap.size w1 wr))
  case atStart => exact ⟨0, s, rfl, rfl, Lib.hid rfl, Nat.zero_le _, rfl, Lib.hid (Below.refl _ _)⟩
  case round =>
    clear c0 c1 c2
    obtain ⟨j, z, rfl, rfl, HZ, hj, rfl, HB⟩ := hrel
    rcases Nat.lt_or_ge j n with hlt | hge
    · have hj6 : j < 1000000 := by omega
      obtain ⟨x, hx⟩ : ∃ x, xs[j]? = some x := ⟨_, List.getElem?_eq_getElem (by rw [HN.out]; exact hlt)⟩
      have hcs := close_some (s := s) hx
      rw [← HZ.out] at hcs
      obtain ⟨g, off, rfl, hc⟩ := (HA1.out.below HB.out) (by rw [HN.out]; omega)
      obtain ⟨k0, k1⟩ := hc j x hx
      have hz32 : z < 2 ^ 32 := by rw [HZ.out]; exact HLT.out j hj
      have hz32' := HLT.out (j + 1) hlt
      obtain ⟨q, hq⟩ : ∃ q, 2 * j = q := ⟨_, rfl⟩
      have hq32 : q + 2 < 32 := by omega
      have hqi : ((q : Nat) : Int) = 2 * ((j : Nat) : Int) := by omega
      have hqi2 : ((q + 2 : Nat) : Int) = 2 * ((j : Nat) : Int) + 2 := by omega
      have b2 : Below wr.heap.size wr (wr.alloc (itO x)) := (Below.refl _ _).alloc (Nat.le_refl _) _
      have HB2 := Lib.hid (HB.out.trans (b2.mono HB.out.size))
      have HH := Lib.hid (hasS_any z q hz32 (by omega) (wr.alloc (itO x)))
      rw [hqi] at HH
      rw [hq] at hcs
      have HCS := Lib.hid hcs
      obtain ⟨a, h⟩ := x
      simp only at k0 k1
      cases hb : z.testBit q with
      | false =>
        rw [hb] at HH
        have HZ2 : Hid (z = closeN xs s (j + 1)) := Lib.hid (by rw [HCS.out, hb, if_neg (fun h => by cases h.1)])
        clear hcs hc hx hq hqi hqi2 hb b2
        go_wp2_with fail
        refine HH.out.mono ?_
        rintro e _ ⟨rfl, rfl⟩
        go_wp2
        go_roundg (n - (j + 1))
        case measure => omega
        case rel => exact ⟨j + 1, z, by simp, rfl, HZ2, by omega, rfl, HB2⟩
      | true =>
        rw [hb] at HH
        by_cases h0 : h = 0
        · subst h0
          have HZ2 : Hid (z = closeN xs s (j + 1)) := Lib.hid (by rw [HCS.out, if_neg (fun h => h.2 rfl)])
          clear hcs hc hx hq hqi hqi2 hb b2
          go_wp2_with fail
          refine HH.out.mono ?_
          rintro e _ ⟨rfl, rfl⟩
          go_wp2
          go_roundg (n - (j + 1))
          case measure => omega
          case rel => exact ⟨j + 1, z, by simp, rfl, HZ2, by omega, rfl, HB2⟩
        · have h0b : (h == 0) = false := by simpa using h0
          have h0c : (h != 0) = true := by unfold bne; rw [h0b]; rfl
          have e2 := orK hz32 hq32
          have HZ2 : Hid (z ||| 2 ^ (q + 2) = closeN xs s (j + 1)) := Lib.hid (by rw [HCS.out, hb, if_pos ⟨rfl, h0⟩])
          have HSO := Lib.hid (setOf_one (q + 2) hq32 (wr.alloc (itO (a, h))))
          have b3 : Below wr.heap.size wr ((wr.alloc (itO (a, h))).alloc (.cells #[.int .i64 ((q + 2 : Nat) : Int)] 3 (0, 0))) := b2.alloc b2.size _
          have HB3 := Lib.hid (HB.out.trans (b3.mono HB.out.size))
          obtain ⟨p, hp⟩ : ∃ p, 2 ^ (q + 2) = p := ⟨_, rfl⟩
          rw [hp] at HSO e2 HZ2
          rw [hqi2] at HSO HB3
          rw [World.size_alloc] at HSO
          obtain ⟨y, hy⟩ : ∃ y, z ||| p = y := ⟨_, rfl⟩
          rw [hy] at e2 HZ2
          clear hcs hc hx hq hqi hqi2 hb b2 b3 hp hy h0
          go_wp2_with fail
          refine HH.out.mono ?_
          rintro e _ ⟨rfl, rfl⟩
          go_wp2_with fail
          with_reducible refine HSO.out.mono ?_
          rintro e _ ⟨rfl, rfl⟩
          go_wp2
          go_roundg (n - (j + 1))
          case measure => omega
          case rel => exact ⟨j + 1, y, by simp, rfl, HZ2, by omega, rfl, HB3⟩
    · obtain rfl : j = n := by omega
      have HQ : Hid (P (.returned (.int .i64 (z : Nat))) wr) := by
        rw [← HP.out]
        refine Lib.hid ⟨?_, HB1.out.trans (HB.out.mono HB1.out.size)⟩
        unfold closedH
        rw [HZ.out, HN.out]
      go_wp2
      first | exact HQ.out | (go_ret; exact HQ.out)
end Go.Proofs.YtaoooocalpkhjaaDoor
namespace Go.Proofs.YtaoooocalpkhjaaDoor
open Go.RowKit Go.Shelf Go.Maps
attribute [local go_sem] Oper.semAt_some
attribute [local go_sem ↓] app_hide

abbrev natC (l : List Nat) : List Value := l.map fun c => .int .i64 ((c : Nat) : Int)
theorem infoIntH : (Tryd.prog.info? 3).map (fun i => (i.zero, i.size, i.bytes)) = some (some (.int .i64 0), 1, 8) := by kernel_rfl
theorem nat_ownH {W : World} {base k : Nat} {v : Value} {xs : List Value} (q : Nat) (ho : W.ownsRow base 3 1 v k xs) (hk : k ≤ 2000000) (hbase : base ≤ W.heap.size) :
    ∃ g cap w6, (appSem #[26, 26] 26 #[v, .slice (some ⟨W.heap.size, 0, none⟩) 1 1]).run Tryd.prog (W.alloc (.cells #[.int .i64 (q : Nat)] 3)) = .ok (.slice (some ⟨g, 0, none⟩) (k + 1) cap) w6 ∧
      w6.ownsRow base 3 1 (.slice (some ⟨g, 0, none⟩) (k + 1) cap) (k + 1) (xs ++ [.int .i64 (q : Nat)]) ∧ (W.alloc (.cells #[.int .i64 (q : Nat)] 3)).grownBy w6 v.ownBlock ∧ (∀ j, (Value.slice (some ⟨g, 0, none⟩) (k + 1) cap).ownBlock = some j → v.ownBlock = some j ∨ W.heap.size ≤ j) := by
  obtain ⟨i0, hi, hz0, hz1, hz2⟩ := info_parts infoIntH
  have hb : Below W.heap.size W (W.alloc (.cells #[.int .i64 (q : Nat)] 3)) := (Below.refl _ _).alloc (Nat.le_refl _) _
  obtain ⟨v', w6, hr, h2, h3, h4, h5⟩ := run_append_own_at (P := Tryd.prog) _ base 26 26 3 i0 (.int .i64 0) 1 8 Tryd.underlying26 hi hz0 hz1 hz2 rfl (by decide) v k xs (own_below ho hb) ⟨W.heap.size, 0, none⟩ 1 1 [.int .i64 (q : Nat)] rfl
    (cell_one_new _ _ _) (by simp [Value.oneCell']) (by unfold maxLen; omega) (by omega) (by simp; omega)
  obtain ⟨g, cap, rfl⟩ := ownsRow_succ h2
  refine ⟨g, cap, w6, hr, h2, h3, fun j hj => ?_⟩
  rcases h5 with h | h
  · exact .inl (h.symm.trans hj)
  · right
    rw [h] at hj
    have := Option.some.inj hj
    rw [World.size_alloc] at this
    omega
theorem WayMap.moves2 {W W' : World} {M N : Nat} {X S : Nat → Prop} (h : WayMap W M N X) (hm : Moves S W W') (hs : ¬ S M) (hx : ∀ k, X k → S k → ∀ x, W.heap[k]? ≠ some (itO x)) : WayMap W' M N X := by
  obtain ⟨D, n, ⟨es, clock, hb, F⟩, h2, h3⟩ := h
  refine ⟨D, n, ⟨es, clock, (hm.block M (Array.getElem?_eq_some_iff.1 hb).1 hs).trans hb, F⟩, h2, fun x hx' => ?_⟩
  rcases h3 x hx' with h | ⟨B, hB, hl, r1, r2, r3, r4⟩
  · exact .inl h
  · exact .inr ⟨B, hB, Nat.lt_of_lt_of_le hl hm.size, r1, r2, r3, (hm.block B hl (fun hS => hx B hB hS x r4)).trans r4⟩
theorem own_movesH {A B : World} {base : Nat} {e : TypeId} {size : Nat} {v : Value} {n : Nat} {xs : List Value} {S : Nat → Prop} (h : A.ownsRow base e size v n xs) (hm : Moves S A B) (hS : ∀ k, v.ownBlock = some k → ¬ S k) : B.ownsRow base e size v n xs := by
  refine ⟨h.1, ?_⟩
  rcases h.2 with hn | ⟨g, cap, cur, rfl, hg, hh, rest⟩
  · exact .inl hn
  · exact .inr ⟨g, cap, cur, rfl, hg, (hm.block _ (Array.getElem?_eq_some_iff.1 hh).1 (hS g (by simp [Value.ownBlock]))).trans hh, rest⟩
def startL (st : Bool) : List Nat := if st then [] else [0]
structure StepI (w w5 : World) (bx s : Nat) (st : Bool) (o : Option Addr) (n cap M N : Nat) (X0 : Nat → Prop) (c : Int) (L : List Nat) (q : Nat) (X : Nat → Prop) (W : World) : Prop where
  big : w5.heap.size ≤ W.heap.size
  far : ∀ k, X k → w5.heap.size ≤ k
  rb : W.heap[w.heap.size]? = some (rnrO st o n cap (.map (some M)))
  cb : Boxed W (w.heap.size + 1) 3 (.int .i64 c)
  sb : Boxed W bx 156 (.int .i64 (s : Nat))
  nb : ∃ v, Boxed W (w.heap.size + 2) 26 v ∧ W.ownsRow (w.heap.size + 3) 3 1 v L.length (natC L) ∧ ∀ k, v.ownBlock = some k → ¬ X k
  wm : ∃ XW, WayMap W M (N + q) XW ∧ ∀ k, XW k → (X0 k ∨ w.heap.size ≤ k) ∧ ¬ X k ∧ k < W.heap.size
  mv : Moves (fun k => k = M) w W
theorem StepI.moves {w w5 A B : World} {bx s : Nat} {st : Bool} {o : Option Addr} {n cap M N q : Nat} {X0 X X' : Nat → Prop} {c : Int} {L : List Nat} (h : StepI w w5 bx s st o n cap M N X0 c L q X A) (hz : w.heap.size + 3 ≤ bx ∧ bx < w5.heap.size) (hM : M < w.heap.size) (hm : Moves X A B) (hX : ∀ k, X' k → (X k ∨ A.heap.size ≤ k) ∧ k < B.heap.size) : StepI w w5 bx s st o n cap M N X0 c L q X' B := by
  have hn : ∀ k, k < w5.heap.size → ¬ X k := fun k h1 hx => by have := h.far k hx; omega
  have hb := h.big
  obtain ⟨v, h1, h2, h3⟩ := h.nb
  obtain ⟨XW, h4, h5⟩ := h.wm
  refine ⟨Nat.le_trans h.big hm.size, fun k hk => ?_, row_keep h.rb hm (hn _ (by omega)), row_keep h.cb hm (hn _ (by omega)), row_keep h.sb hm (hn _ hz.2), ⟨v, row_keep h1 hm (hn _ (by omega)), own_movesH h2 hm h3, fun k hk hx => ?_⟩, ⟨XW, h4.moves hm (hn _ (by omega)) (fun k hk => (h5 k hk).2.1), fun k hk => ⟨(h5 k hk).1, fun hx => ?_, Nat.lt_of_lt_of_le (h5 k hk).2.2 hm.size⟩⟩, ?_⟩
  · rcases (hX k hk).1 with h1 | h1
    · exact h.far k h1
    · omega
  · rcases (hX k hx).1 with h6 | h6
    · exact h3 k hk h6
    · have := h2.lt k hk; omega
  · rcases (hX k hx).1 with h6 | h6
    · exact (h5 k hk).2.1 h6
    · have := (h5 k hk).2.2; omega
  · exact ⟨hm.os.trans h.mv.os, hm.tape.trans h.mv.tape, hm.output.trans h.mv.output, Nat.le_trans h.mv.size hm.size, fun k hk hs => (hm.block k (by have := h.mv.size; omega) (hn k (by omega))).trans (h.mv.block k hk hs)⟩
theorem StepI.way {w w5 W6 W7 W8 : World} {bx s : Nat} {st : Bool} {o : Option Addr} {n cap M N q : Nat} {X0 X XW : Nat → Prop} {c : Int} {L : List Nat} (h : StepI w w5 bx s st o n cap M N X0 c L q X W6) (hz : w.heap.size + 3 ≤ bx ∧ bx < w5.heap.size) (hM : M < w.heap.size) (hXW : ∀ k, XW k → (X0 k ∨ w.heap.size ≤ k) ∧ ¬ X k ∧ k < W6.heap.size)
    (hXl : ∀ k, X k → k < W6.heap.size) (m7 : Moves (fun k => k = M) W6 W7) (wm7 : WayMap W7 M (N + q + 1) (grownX XW W6 W7)) (b8 : Below W7.heap.size W7 W8) : StepI w w5 bx s st o n cap M N X0 c L (q + 1) X W8 := by
  have hb := h.big
  have m8 : Moves (fun k => k = M) W6 W8 := m7.trans (Moves.of_below b8)
  obtain ⟨v, h1, h2, h3⟩ := h.nb
  refine ⟨Nat.le_trans hb m8.size, h.far, row_keep h.rb m8 (by omega), row_keep h.cb m8 (by omega), row_keep h.sb m8 (by omega), ⟨v, row_keep h1 m8 (by omega), own_movesH h2 m8 (fun k hk e => by have := (h2.lt k hk).1; omega), h3⟩, ⟨_, wm7.below b8, fun k hk => ?_⟩, h.mv.trans m8⟩
  have s7 := m7.size
  have s8 := b8.size
  rcases hk with hk | ⟨h4, h5⟩
  · obtain ⟨r1, r2, r3⟩ := hXW k hk
    exact ⟨r1, r2, by omega⟩
  · have := h.mv.size
    exact ⟨.inr (by omega), fun hx => by have := hXl k hx; omega, by omega⟩
theorem cells_type {c d : Array Value} {t u : TypeId} {f g : Nat × Nat} {W : World} {k : Nat} (h1 : W.heap[k]? = some (.cells c t f)) (h2 : W.heap[k]? = some (.cells d u g)) : t = u := by
  have := Option.some.inj (h1.symm.trans h2)
  injection this
theorem StepI.app {w w5 W : World} {bx s : Nat} {st : Bool} {o : Option Addr} {n cap M N q : Nat} {X0 X : Nat → Prop} {c : Int} {L : List Nat} (h : StepI w w5 bx s st o n cap M N X0 c L q X W) (hz : w.heap.size + 3 ≤ bx ∧ bx < w5.heap.size) (hM : M < w.heap.size) (hL : L.length ≤ 1000) (hXl : ∀ k, X k → k < W.heap.size) (m : Nat) :
    ∃ o' c' g cap' w6, W.cell? ⟨w.heap.size + 1 + 1, 0, none⟩ = some (.slice o' L.length c') ∧ (appSem #[26, 26] 26 #[.slice o' L.length c', .slice (some ⟨W.heap.size, 0, none⟩) 1 1]).run Tryd.prog (W.alloc (.cells #[.int .i64 (m : Nat)] 3)) = .ok (.slice (some ⟨g, 0, none⟩) (L.length + 1) cap') w6 ∧
      w6.cell? ⟨w.heap.size + 1 + 1, 0, none⟩ = some (.slice o' L.length c') ∧ w6.frozen? ⟨w.heap.size + 1 + 1, 0, none⟩ = false ∧
      StepI w w5 bx s st o n cap M N X0 c (L ++ [m]) q X (w6.setCell ⟨w.heap.size + 1 + 1, 0, none⟩ (.slice (some ⟨g, 0, none⟩) (L.length + 1) cap')) ∧
      Moves (fun k => ¬ X k ∧ k ≠ bx) W (w6.setCell ⟨w.heap.size + 1 + 1, 0, none⟩ (.slice (some ⟨g, 0, none⟩) (L.length + 1) cap')) := by
  have hb := h.big
  have hsz := h.mv.size
  obtain ⟨v, h1, h2, h3⟩ := h.nb
  obtain ⟨XW, wm, hXW⟩ := h.wm
  obtain ⟨o', c', rfl⟩ := own_form h2
  obtain ⟨g, cap', w6, hrun, hown, hgr, hwh⟩ := nat_ownH m h2 (by omega) (by omega)
  have b1 : Below W.heap.size W (W.alloc (.cells #[.int .i64 (m : Nat)] 3)) := (Below.refl _ _).alloc (Nat.le_refl _) _
  have hlt := h2.lt
  have m6 : Moves (fun k => (Value.slice o' L.length c').ownBlock = some k) W w6 := (Moves.of_below b1).trans (moves_grownH hgr)
  have n6 : Boxed w6 (w.heap.size + 2) 26 (.slice o' L.length c') := row_keep h1 m6 (fun e => by have := hlt _ e; omega)
  have m10 : Moves (fun k => k = w.heap.size + 2) w6 (w6.setCell ⟨w.heap.size + 1 + 1, 0, none⟩ (.slice (some ⟨g, 0, none⟩) (L.length + 1) cap')) := Moves.setCell rfl
  have MV : Moves (fun k => k = w.heap.size + 2 ∨ (Value.slice o' L.length c').ownBlock = some k) W (w6.setCell ⟨w.heap.size + 1 + 1, 0, none⟩ (.slice (some ⟨g, 0, none⟩) (L.length + 1) cap')) := (m6.mono fun k e => .inr e).trans (m10.mono fun k e => .inl e)
  have hty : ∀ k, (k = w.heap.size + 2 ∨ (Value.slice o' L.length c').ownBlock = some k) → ∃ cs t, W.heap[k]? = some (.cells cs t (0, 0)) ∧ (t = 26 ∨ t = 3) := by
    rintro k (rfl | hk)
    · exact ⟨_, _, h1, .inl rfl⟩
    · rcases h2.2 with ⟨e, _⟩ | ⟨g', cap2, cur, e, _, hg', _⟩
      · rw [e] at hk; simp [Value.ownBlock] at hk
      · rw [e] at hk
        obtain rfl : g' = k := by simpa [Value.ownBlock] using hk
        exact ⟨_, _, hg', .inr rfl⟩
  have hnX : ∀ k, (k = w.heap.size + 2 ∨ (Value.slice o' L.length c').ownBlock = some k) → ¬ X k ∧ k ≠ bx := by
    intro k hk
    refine ⟨?_, fun e => ?_⟩
    · rcases hk with rfl | hk
      · exact fun hx => by have := h.far _ hx; omega
      · exact h3 k hk
    · obtain ⟨cs, t, hc, ht⟩ := hty k hk
      rw [e] at hc
      have := cells_type hc (show W.heap[bx]? = _ from h.sb)
      rcases ht with rfl | rfl
      · exact absurd this (by decide)
      · exact absurd this (by decide)
  refine ⟨o', c', g, cap', w6, h1.cell, hrun, n6.cell, n6.frozen, ⟨Nat.le_trans hb MV.size, h.far, row_keep h.rb MV ?_, row_keep h.cb MV ?_, row_keep h.sb MV (fun e => (hnX _ e).2 rfl), ⟨_, n6.set _, ?_, ?_⟩, ⟨XW, wm.moves2 MV ?_ ?_, fun k hk => ⟨(hXW k hk).1, (hXW k hk).2.1, Nat.lt_of_lt_of_le (hXW k hk).2.2 MV.size⟩⟩, ?_⟩, MV.mono hnX⟩
  · rintro (e | e)
    · omega
    · have := hlt _ e; omega
  · rintro (e | e)
    · omega
    · have := hlt _ e; omega
  · have := own_movesH hown m10 (fun k hk => by have := (hown.lt k hk).1; omega)
    have e : natC (L ++ [m]) = natC L ++ [.int .i64 ((m : Nat) : Int)] := by simp [natC]
    rw [List.length_append, e]
    exact this
  · intro k hk hx
    rcases hwh k hk with e | e
    · exact h3 k e hx
    · have := hXl k hx; omega
  · rintro (e | e)
    · omega
    · have := hlt _ e; omega
  · intro k hk hS x hc
    obtain ⟨cs, t, hc2, ht⟩ := hty k hS
    have := cells_type hc2 hc
    rcases ht with rfl | rfl
    · exact absurd this (by decide)
    · exact absurd this (by decide)
  · exact ⟨MV.os.trans h.mv.os, MV.tape.trans h.mv.tape, MV.output.trans h.mv.output, Nat.le_trans hsz MV.size, fun k hk hs => (MV.block k (by omega) (by
      rintro (e | e)
      · omega
      · have := hlt _ e; omega)).trans (h.mv.block k hk hs)⟩
theorem nexts_all {xs : List ItemP} {st : Bool} {c : Int} {s : Nat} : startL st ++ (classesN (2 * xs.length + 1) s).filterMap (goesH xs c) = nextsH xs st c s := by
  unfold nextsH startL
  congr 1
  rw [classesN_snoc, List.filterMap_append]
  have e : goesH xs c (2 * xs.length) = none := by
    unfold goesH
    rw [show 2 * xs.length / 2 = xs.length by omega, List.getElem?_eq_none (Nat.le_refl _)]
  split
  · simp [e]
  · simp
theorem nexts_stop {xs : List ItemP} {st : Bool} {c : Int} {s : Nat} {pre : List Nat} (h : pre ++ [2 * xs.length] <+: classesN (2 * xs.length + 1) s) : startL st ++ pre.filterMap (goesH xs c) = nextsH xs st c s := by
  rw [← nexts_all (xs := xs)]
  obtain ⟨r, hr⟩ := h
  have hr0 : r = [] := by
    cases r with
    | nil => rfl
    | cons y r =>
      exfalso
      rw [classesN_snoc] at hr
      have hm : 2 * xs.length ∈ pre ++ [2 * xs.length] ++ y :: r := by simp
      rw [hr] at hm
      have hb : s.testBit (2 * xs.length) = true := by
        rcases List.mem_append.1 hm with h | h
        · have := (classesN_mem.1 h).1; omega
        · by_cases g : s.testBit (2 * xs.length) = true
          · exact g
          · rw [if_neg g] at h; simp at h
      rw [if_pos hb] at hr
      have e : pre ++ [2 * xs.length] ++ y :: r = (pre ++ [2 * xs.length] ++ (y :: r).dropLast) ++ [(y :: r).getLast (by simp)] := by
        rw [List.append_assoc _ ((y :: r).dropLast), List.dropLast_concat_getLast]
      rw [e] at hr
      obtain ⟨h1, h2⟩ := List.append_inj' hr (by simp)
      have : 2 * xs.length ∈ classesN (2 * xs.length) s := by rw [← h1]; simp
      have := (classesN_mem.1 this).1
      omega
  rw [hr0, List.append_nil] at hr
  rw [← hr, List.filterMap_append]
  have e : goesH xs c (2 * xs.length) = none := by
    unfold goesH
    rw [show 2 * xs.length / 2 = xs.length by omega, List.getElem?_eq_none (Nat.le_refl _)]
  simp [e]
end Go.Proofs.YtaoooocalpkhjaaDoor
namespace Go.Proofs.YtaoooocalpkhjaaDoor
open Go.RowKit

section
variable {n : Nat} {P : Program} {md : Region.Mode} {ops : Array Oper} {Q : Exit → Act → World → Prop} {S : World → Prop}
theorem wpIn_of_wpH {o : Oper} {a : Act} {w : World} {K K' : Act → World → Prop} (hK : ∀ a w, K a w → K' a w) (h : o.wp P a w K Q) : o.wpIn Fence.wide n P a w K' Q := by
  unfold Oper.wp at h
  refine ⟨fun _ _ => trivial, ?_⟩
  rw [show Fence.wide.round = none from rfl, Oper.semAt_none]
  revert h
  generalize (execOp a.eval o).run P w = R
  intro h
  cases R with
  | ok nx w' =>
    cases nx
    case value v => exact hK _ _ h
    case skip => exact hK _ _ h
    case defer d => exact hK _ _ h
    case enter f args => exact ⟨fun e => (by cases e), (callsIn_wide.2 h).mono fun e w'' h3 => (by cases e <;> first | exact hK _ _ h3 | exact h3)⟩
    case row r args => exact ⟨fun e => (by cases e), fun c cs _ => let ⟨v, w', r, s⟩ := h c cs; ⟨v, w', hK _ _ r, stepsIn_wide.2 s⟩⟩
    all_goals exact h.elim
  | halt x w' => cases x <;> exact h
theorem wpOpIn_of_wpOpH {i : Nat} {a : Act} {w : World} {K K' : Act → World → Prop} (hQ : ¬ LetsOut Q) (hK : ∀ a w, K a w → K' a w) (h : wpOp P ops Q i K a w) : wpOpIn Fence.wide n P ops Q i K' a w := by
  unfold wpOp at h
  unfold wpOpIn
  cases ho : ops[i]? with
  | none => rw [ho] at h; exact hK _ _ h
  | some o =>
    rw [ho] at h
    simp only at h ⊢
    split at h
    · rename_i hw
      rw [if_pos hw]
      rcases h with h | ⟨_, h⟩
      · exact wpIn_of_wpH hK h
      · exact absurd h hQ
    · rename_i hw
      rw [if_neg hw]
      exact ⟨fun _ _ => trivial, hK _ _ h⟩
theorem wpAnyIn_of_anyH (hQ : ¬ LetsOut Q) : ∀ (fuel : Nat) (listed : Array Bool) (a : Act) (w : World), wpAny P md ops Q fuel listed a w → wpAnyIn Fence.wide n P md ops Q fuel listed a w
  | 0, _, _, _, h => h
  | fuel + 1, _, _, _, h => ⟨h.1, fun i hi => wpOpIn_of_wpOpH hQ (fun a w h => wpAnyIn_of_anyH hQ fuel _ a w h) (h.2 i hi)⟩
theorem wpIn_region_heldQ {id : Nat} {a : Act} {w : World} {l : List Oper} (l0 : Nat) (S : World → Prop) (hQ : ¬ LetsOut Q) (hd : l.all noDeferQ = true) (hm : P.follows .mixedOrders = true) (hS : S w.drew)
    (h : S w.drew → wpAnyH P .any l.toArray Q S l.toArray.size (Array.replicate l.toArray.size false) a w.drew) : (Code.region id l.toArray true).wpIn (Fence.wide.inRound l0) n P Q a w :=
  wpIn_region_any hm (wpAnyIn_roundQ l0 (fun o ho => List.all_eq_true.1 hd o (by simpa using ho)) _ _ _ _ (wpAnyIn_of_anyH hQ _ _ _ _ (wpAny_of_held _ _ _ _ (h hS))))
end
end Go.Proofs.YtaoooocalpkhjaaDoor
