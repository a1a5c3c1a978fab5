/- slices.Clone and slices.Reverse of items. isHow, Right: which patterns are right. errors.As at a pointer to a fault's number; what is wrong, told. classesOf, Of: the set of a list of classes. namesOf: names, and which class each is the name of. -/
import Derived.Test.YtnmhdcbpbaanoaaGreatDoorBunA11
import Derived.Lib.SliceRun
import Derived.Test.YtnmhdcbpbaanoaaGreatDoorBunA1
import Derived.Test.YtnmhdcbpbaanoaaGreatDoorProg
import Derived.Stop.Asserts
import Derived.RowKitTokens
import Derived.LaidEql
import Derived.Test.YtnmhdcbpbaanoaaGreatDoorBunA7
import Derived.Lib.AppendIntMem
import Derived.Lib.ItoaLen
import Derived.Lib.LaidTab
import Derived.Test.YtnmhdcbpbaanoaaGreatDoorBunP4
namespace Go.Proofs.YtnmhdcbpbaanoaaGreatDoor
open Go.RowKit Go.Shelf Go.Maps
attribute [local go_sem] Oper.semAt_some
attribute [local go_sem ↓] app_hide

theorem Moves.belowQ {S : Nat → Prop} {w w' : World} (h : Moves S w w') (n : Nat) (hn : n ≤ w.heap.size) (hS : ∀ k, S k → n ≤ k) : Below n w w' := ⟨h.os, h.tape, h.output, h.size, fun k hk => h.block k (by omega) fun hs => by have := hS k hs; omega⟩
/-- A row of items of the call's own. -/
def RowI (W : World) (g : Nat) (l : List ItemP) : Prop := ∃ cur : Array Value, W.heap[g]? = some (.cells cur 97 (0, 0)) ∧ cur.toList.take (l.length * 2) = cellsI l
theorem RowI.cell {W : World} {g : Nat} {l : List ItemP} (h : RowI W g l) {i : Nat} {u : Value} (hu : (cellsI l)[i]? = some u) : W.cell? ⟨g, i, none⟩ = some u := by
  obtain ⟨cur, hg, ht⟩ := h
  rw [cell_of_row _ _ i _ _ _ hg]
  rw [← ht, List.getElem?_take] at hu
  split at hu
  · rwa [Array.getElem?_toList] at hu
  · cases hu
theorem RowI.at {W : World} {g : Nat} {l : List ItemP} (h : RowI W g l) {j : Nat} {x : ItemP} (hx : l[j]? = some x) : W.cell? ⟨g, j * 2, none⟩ = some (.int .i64 x.1) ∧ W.cell? ⟨g, j * 2 + 1, none⟩ = some (.int .i64 x.2) := by
  obtain ⟨h0, h1⟩ := cellsI_get hx
  exact ⟨h.cell h0, h.cell h1⟩
theorem RowI.frozen {W : World} {g : Nat} {l : List ItemP} (h : RowI W g l) (k : Nat) : W.frozen? ⟨g, k, none⟩ = false := by
  obtain ⟨cur, hg, _⟩ := h
  exact frozen_of_row _ _ _ _ _ hg
theorem RowI.lt {W : World} {g : Nat} {l : List ItemP} (h : RowI W g l) : g < W.heap.size := by
  obtain ⟨cur, hg, _⟩ := h
  exact (Array.getElem?_eq_some_iff.1 hg).1
theorem cellsI_set : ∀ (l : List ItemP) (j : Nat) (x : ItemP), cellsI (l.set j x) = ((cellsI l).set (j * 2) (.int .i64 x.1)).set (j * 2 + 1) (.int .i64 x.2)
  | [], j, x => rfl
  | y :: l, 0, x => rfl
  | y :: l, j + 1, x => by
    have ih := cellsI_set l j x
    rw [show (j + 1) * 2 = j * 2 + 1 + 1 from by omega]
    show (Value.int .i64 y.1) :: (.int .i64 y.2) :: cellsI (l.set j x) = _
    rw [ih]
    rfl
theorem take_setQ {α : Type} (l : List α) (m p : Nat) (v : α) : (l.set p v).take m = (l.take m).set p v := by
  apply List.ext_getElem?
  intro i
  rw [List.getElem?_take, List.getElem?_set, List.getElem?_set, List.getElem?_take, List.length_take]
  by_cases h1 : i < m
  · rw [if_pos h1, if_pos h1]
    by_cases h2 : p = i
    · subst h2
      rw [if_pos rfl, if_pos rfl]
      by_cases h3 : p < l.length
      · rw [if_pos h3, if_pos (by omega)]
      · rw [if_neg h3, if_neg (by omega)]
    · rw [if_neg h2, if_neg h2]
  · rw [if_neg h1, if_neg h1]
    by_cases h2 : p = i
    · subst h2
      rw [if_pos rfl, if_neg (by omega)]
    · rw [if_neg h2]
theorem RowI.set {W : World} {g : Nat} {l : List ItemP} (h : RowI W g l) (j : Nat) (x : ItemP) : RowI ((W.setCell ⟨g, j * 2, none⟩ (.int .i64 x.1)).setCell ⟨g, j * 2 + 1, none⟩ (.int .i64 x.2)) g (l.set j x) := by
  obtain ⟨cur, hg, ht⟩ := h
  refine ⟨_, heap_setCell_same _ _ _ _ _ _ (heap_setCell_same _ _ _ _ _ _ hg), ?_⟩
  rw [Array.toList_setIfInBounds, Array.toList_setIfInBounds, List.length_set, take_setQ, take_setQ, ht, cellsI_set]
theorem rowI_own {w : World} {base : Nat} {o : Option Addr} {l : List ItemP} {cap : Nat} (h : w.ownsRow base 97 2 (.slice o l.length cap) l.length (cellsI l)) (hn : 0 < l.length) : ∃ g, o = some ⟨g, 0, none⟩ ∧ base ≤ g ∧ RowI w g l := by
  rcases h.2 with ⟨_, h0⟩ | ⟨g, cap', cur, e, hb, hg, _, _, _, htake⟩
  · omega
  · obtain ⟨rfl, rfl⟩ : o = some ⟨g, 0, none⟩ ∧ cap = cap' := by simpa using e
    exact ⟨g, rfl, hb, cur, hg, htake⟩
theorem RowI.atI {W : World} {g : Nat} {l : List ItemP} (h : RowI W g l) : AtI W (some ⟨g, 0, none⟩) l := fun _ => ⟨g, 0, rfl, fun j x hx => by rw [Nat.zero_add]; exact h.at hx⟩
/-- What is turned about after k exchanges. -/
def Sw (l c : List ItemP) (k : Nat) : Prop := c.length = l.length ∧ ∀ p, p < l.length → c[p]? = if p < k ∨ l.length ≤ p + k then l[l.length - 1 - p]? else l[p]?
theorem Sw.zero (l : List ItemP) : Sw l l 0 := ⟨rfl, fun p hp => by rw [if_neg (by omega)]⟩
theorem Sw.step {l c : List ItemP} {k j : Nat} (h : Sw l c k) (hj : k + j + 1 = l.length) (hk : k < j) {x y : ItemP} (hx : c[k]? = some x) (hy : c[j]? = some y) : Sw l ((c.set k y).set j x) (k + 1) := by
  obtain ⟨h1, h2⟩ := h
  refine ⟨by simp [h1], fun p hp => ?_⟩
  have ek := h2 k (by omega)
  rw [if_neg (by omega)] at ek
  have ej := h2 j (by omega)
  rw [if_neg (by omega)] at ej
  rw [List.getElem?_set, List.getElem?_set, List.length_set]
  by_cases p1 : j = p
  · subst p1
    rw [if_pos rfl, if_pos (by omega), if_pos (by omega), show l.length - 1 - j = k from by omega, ← ek, hx]
  · rw [if_neg p1]
    by_cases p2 : k = p
    · subst p2
      rw [if_pos rfl, if_pos (by omega), if_pos (by omega), show l.length - 1 - k = j from by omega, ← ej, hy]
    · rw [if_neg p2, h2 p hp]
      by_cases p3 : p < k ∨ l.length ≤ p + k
      · rw [if_pos p3, if_pos (by omega)]
      · rw [if_neg p3, if_neg (by omega)]
theorem Sw.done {l c : List ItemP} {k j : Nat} (h : Sw l c k) (hj : k + j + 1 = l.length) (hk : j ≤ k) : c = l.reverse := by
  obtain ⟨h1, h2⟩ := h
  apply List.ext_getElem?
  intro p
  rcases Nat.lt_or_ge p l.length with hp | hp
  · rw [h2 p hp, List.getElem?_reverse hp]
    by_cases p3 : p < k ∨ l.length ≤ p + k
    · rw [if_pos p3]
    · rw [if_neg p3, show l.length - 1 - p = p from by omega]
  · rw [List.getElem?_eq_none (by omega), List.getElem?_eq_none (by rw [List.length_reverse]; omega)]
set_option maxRecDepth 100000 in
set_option maxHeartbeats 4000000 in
theorem reverse_any (g : Nat) (l : List ItemP) (cap : Nat) (hn : l.length ≤ 100000) (h0 : 0 < l.length) (w : World) (h : RowI w g l) :
    Calls Tryz.prog 81 #[.slice (some ⟨g, 0, none⟩) l.length cap] w fun e w' => (∃ v, e = .returned v) ∧ RowI w' g l.reverse ∧ Moves (fun k => k = g) w w' := by
  obtain ⟨n, hnn⟩ : ∃ n, l.length = n := ⟨_, rfl⟩
  rw [hnn] at hn h0 ⊢
  have HN := Lib.hid hnn
  have HH := Lib.hid h
  obtain ⟨m, hm⟩ : ∃ m, m + 1 = n := ⟨n - 1, by omega⟩
  have hw1 : IntKind.i64.wrap (((n : Nat) : Int) - 1) = ((m : Nat) : Int) := by rw [show ((n : Nat) : Int) - 1 = ((m : Nat) : Int) from by omega]; exact wrap_id (by omega) (by omega)
  obtain ⟨P, hP⟩ : ∃ P, (fun (e : Ending) w' => (∃ v, e = .returned v) ∧ RowI w' g l.reverse ∧ Moves (fun k => k = g) w w') = P := ⟨_, rfl⟩
  have HP := Lib.hid hP
  rw [hP]
  have HM := Lib.hid hm
  clear hnn h hP hm
  go_enter Tryz.func81, Tryz.ntmps81
  go_wp2_with fail
  go_loopg [2, 3] n (fun k v u wr => ∃ (i j : Nat) (c : List ItemP), v = .int .i64 (i : Nat) ∧ u = .int .i64 (j : Nat) ∧ i + j + 1 = n ∧ k = n - i ∧ i ≤ j + 1 ∧ Hid (Sw l c i) ∧ Hid (RowI wr g c) ∧ Hid (Moves (fun k => k = g) w wr))
  case atStart => exact ⟨0, m, l, rfl, rfl, by have := HM.out; omega, rfl, by omega, Lib.hid (Sw.zero l), HH, Lib.hid (Moves.refl _ _)⟩
  case round =>
    clear hw1
    obtain ⟨i, j, c, rfl, rfl, hij, rfl, hle, HS, HR, HV⟩ := hrel
    rcases Nat.lt_or_ge i j with hlt | hge
    · have hcl : c.length = n := by rw [HS.out.1, HN.out]
      obtain ⟨x, hx⟩ : ∃ x, c[i]? = some x := ⟨_, List.getElem?_eq_getElem (by omega)⟩
      obtain ⟨y, hy⟩ : ∃ y, c[j]? = some y := ⟨_, List.getElem?_eq_getElem (by omega)⟩
      obtain ⟨k0, k1⟩ := HR.out.at hx
      obtain ⟨m0, m1⟩ := HR.out.at hy
      have hgl := HR.out.lt
      have f0 := HR.out.frozen (i * 2)
      have f1 := HR.out.frozen (i * 2 + 1)
      have f2 := HR.out.frozen (j * 2)
      have f3 := HR.out.frozen (j * 2 + 1)
      have HS2 := Lib.hid (HS.out.step (by rw [HN.out]; exact hij) hlt hx hy)
      have HR2 := Lib.hid ((HR.out.set i y).set j x)
      have hin : i < n := by omega
      have hjn : j < n := by omega
      have hi6 : i < 100000 := by omega
      have hw2 : IntKind.i64.wrap (((j : Nat) : Int) - 1) = (((j - 1 : Nat) : Nat) : Int) := by rw [show ((j : Nat) : Int) - 1 = ((j - 1 : Nat) : Int) from by omega]; exact wrap_id (by omega) (by omega)
      obtain ⟨a, ha⟩ := x
      obtain ⟨b, hb⟩ := y
      simp only at k0 k1 m0 m1 HR2
      clear hx hy hcl
      go_wp2_with fail
      go_region
      go_wp2
      go_roundg (n - (i + 1))
      case measure => omega
      case rel => exact ⟨i + 1, j - 1, _, by simp, rfl, by omega, rfl, by omega, HS2, HR2, Lib.hid (Moves.drew (HV.out.trans ((((Moves.setCell (S := fun k => k = g) rfl).trans (Moves.setCell (S := fun k => k = g) rfl)).trans (Moves.setCell (S := fun k => k = g) rfl)).trans (Moves.setCell (S := fun k => k = g) rfl))))⟩
    · obtain rfl : c = l.reverse := HS.out.done (by rw [HN.out]; exact hij) hge
      go_wp2
      go_end0
      rw [← HP.out]
      exact ⟨⟨_, rfl⟩, HR.out, HV.out⟩
theorem reverse_none (o : Option Addr) (cap : Nat) (w : World) :
    Calls Tryz.prog 81 #[.slice o 0 cap] w fun e w' => (∃ v, e = .returned v) ∧ w = w' := by
  go_enter Tryz.func81, Tryz.ntmps81
  go_wp2_with fail
  refine wp_loop_rounds 1 ?_
  rw [rounds_succ]
  go_wp2
  go_end0
  exact ⟨⟨_, rfl⟩, rfl⟩
/-- What Clone answers: the same items in a row of the call's own. -/
def CloneQ (l : List ItemP) (w : World) (e : Ending) (w' : World) : Prop := ∃ o' cap', e = .returned (.slice o' l.length cap') ∧ w'.ownsRow w.heap.size 97 2 (.slice o' l.length cap') l.length (cellsI l) ∧ Below w.heap.size w w'
set_option maxRecDepth 100000 in
set_option maxHeartbeats 2000000 in
theorem clone_any (o : Option Addr) (l : List ItemP) (cap : Nat) (hn : l.length ≤ 1000) (w : World) (hA : AtI w o l) : Calls Tryz.prog 80 #[.slice o l.length cap] w (CloneQ l w) := by
  cases o with
  | none =>
    have h0 : l.length = 0 := by
      rcases Nat.eq_zero_or_pos l.length with h | h
      · exact h
      · obtain ⟨g, off, e, _⟩ := hA h
        cases e
    obtain rfl := List.eq_nil_of_length_eq_zero h0
    have HQ : Hid (CloneQ [] w (.returned (.slice none 0 0)) w) := Lib.hid ⟨none, 0, rfl, World.ownsRow_nil _ _ _ _, Below.refl _ _⟩
    have q22 : ∀ (w : World) (a : Option Addr) (n c n' c' : Nat), (binOp .eql 33 (.slice a n c) (.slice none n' c')).run Tryz.prog w = .ok (.bool a.isNone) w := fun w a n c n' c' => Lib.run_eql_slice_nil w _ _ a n c n' c' Tryz.underlying33
    go_enter Tryz.func80, Tryz.ntmps80
    go_wp2
    go_ret
    exact HQ.out
  | some a =>
    obtain ⟨Y, hY⟩ : ∃ Y, w.alloc (.cells #[] 97) = Y := ⟨_, rfl⟩
    have bY : Below w.heap.size w Y := by rw [← hY]; exact (Below.refl _ _).alloc (Nat.le_refl _) _
    have ho : Y.ownsRow w.heap.size 97 2 (.slice (some ⟨w.heap.size, 0, none⟩) 0 0) 0 [] := ⟨rfl, .inr ⟨w.heap.size, 0, #[], rfl, Nat.le_refl _, by rw [← hY]; exact heap_alloc_new _ _, Nat.le_refl _, by unfold maxLen; omega, rfl, rfl⟩⟩
    obtain ⟨o', cap', w6, hr, h2, h3, h4⟩ := its_own l (some a) cap (hA.below bY) ho (by omega) bY.size
    rw [Nat.zero_add, List.nil_append] at h2
    have b6 : Below w.heap.size w w6 := Moves.below bY bY.size (moves_grownQ h3) (fun k e => by
      simp only [Value.ownBlock, Option.some.injEq] at e
      omega)
    have HQ : Hid (CloneQ l w (.returned (.slice o' l.length cap')) w6) := Lib.hid ⟨o', cap', rfl, h2, b6⟩
    obtain ⟨n, hn'⟩ : ∃ n, l.length = n := ⟨_, rfl⟩
    rw [Nat.zero_add] at hr
    rw [hn'] at hr HQ ⊢
    rw [← hY] at hr
    clear hY bY ho h2 h3 h4 b6 hA hn
    have q22 : ∀ (w : World) (a : Option Addr) (n c n' c' : Nat), (binOp .eql 33 (.slice a n c) (.slice none n' c')).run Tryz.prog w = .ok (.bool a.isNone) w := fun w a n c n' c' => Lib.run_eql_slice_nil w _ _ a n c n' c' Tryz.underlying33
    go_enter Tryz.func80, Tryz.ntmps80
    go_wp2
    go_ret
    exact HQ.out
end Go.Proofs.YtnmhdcbpbaanoaaGreatDoor

namespace Go.Proofs.YtnmhdcbpbaanoaaGreatDoor
open Go.RowKit Go.Shelf Go.Maps
attribute [local go_sem] Oper.semAt_some

abbrev patC (start : Bool) (o : Option Addr) (n cap : Nat) : Array Value := #[.bool start, .slice o n cap]
abbrev patV (start : Bool) (o : Option Addr) (n cap : Nat) : Value := .agg (patC start o n cap)
abbrev patO (start : Bool) (o : Option Addr) (n cap : Nat) : Obj := .cells (patC start o n cap) 35 (0, 0)
theorem pat_cells {w : World} {k : Nat} {start : Bool} {o : Option Addr} {n cap : Nat} (h : w.heap[k]? = some (patO start o n cap)) : w.cell? ⟨k, 0, none⟩ = some (.bool start) ∧ w.cell? ⟨k, 1, none⟩ = some (.slice o n cap) := row_cells h
theorem isHow_any (h : Int) (w : World) : Calls Tryz.prog 79 #[.int .i64 h] w fun e w' => e = .returned (.bool (decide (h = 0 ∨ h = 1 ∨ h = 2))) ∧ w = w' := by
  by_cases h0 : h = 0
  · subst h0
    go_enter Tryz.func79, Tryz.ntmps79
    go_wp2
    go_ret
    exact ⟨rfl, rfl⟩
  by_cases h1 : h = 1
  · subst h1
    go_enter Tryz.func79, Tryz.ntmps79
    go_wp2
    go_ret
    exact ⟨rfl, rfl⟩
  by_cases h2 : h = 2
  · subst h2
    go_enter Tryz.func79, Tryz.ntmps79
    go_wp2
    go_ret
    exact ⟨rfl, rfl⟩
  have hd : decide (h = 0 ∨ h = 1 ∨ h = 2) = false := decide_eq_false (by omega)
  rw [hd]
  clear hd
  go_enter Tryz.func79, Tryz.ntmps79
  go_wp2
  go_ret
  exact ⟨rfl, rfl⟩
/-- One item, of a right pattern of m names. -/
def goodI (m : Int) (x : ItemP) : Prop := rightZ x.1 m = true ∧ (x.2 = 0 ∨ x.2 = 1 ∨ x.2 = 2)
theorem rightB_not {xs : List ItemP} {m : Int} (h : ¬ ((1 ≤ m ∧ m ≤ 32) ∧ xs.length ≤ 10)) : rightB xs m = false := by
  rw [Bool.eq_false_iff]
  intro e
  obtain ⟨h1, h2, _⟩ := rightB_parts e
  exact h ⟨h1, h2⟩
theorem rightB_bad {xs : List ItemP} {m : Int} {j : Nat} {x : ItemP} (hx : xs[j]? = some x) (h : ¬ goodI m x) : rightB xs m = false := by
  rw [Bool.eq_false_iff]
  intro e
  exact h ((rightB_parts e).2.2 x (List.mem_of_getElem? hx))
set_option maxRecDepth 100000 in
set_option maxHeartbeats 4000000 in
theorem Right_anyQ (start : Bool) (o : Option Addr) (xs : List ItemP) (cap : Nat) (m : Int) (hn : xs.length ≤ 1000000) (w : World) (hA : AtI w o xs) :
    Calls Tryz.prog 52 #[patV start o xs.length cap, .int .i64 m] w fun e w' => e = .returned (.bool (rightB xs m)) ∧ Below w.heap.size w w' := by
  obtain ⟨n, hnn⟩ : ∃ n, xs.length = n := ⟨_, rfl⟩
  rw [hnn] at hn ⊢
  obtain ⟨P, hP⟩ : ∃ P, (fun (e : Ending) w' => e = .returned (.bool (rightB xs m)) ∧ Below w.heap.size w w') = P := ⟨_, rfl⟩
  have HP := Lib.hid hP
  rw [hP]
  have A0 : Below w.heap.size w (w.alloc (patO start o n cap)) := (Below.refl _ _).alloc (Nat.le_refl _) _
  have HA0 := Lib.hid A0
  have NO : ¬ ((1 ≤ m ∧ m ≤ 32) ∧ xs.length ≤ 10) → P (.returned (.bool false)) (w.alloc (patO start o n cap)) := fun h => by
    rw [← HP.out]
    exact ⟨by rw [rightB_not h], A0⟩
  have HN := Lib.hid hnn
  have HA := Lib.hid (hA.below A0)
  have HK := Lib.hid (fun s W => Right_anyK s m W)
  have HH := Lib.hid (fun h W => isHow_any h W)
  by_cases m1 : m < 1
  · have HQ := Lib.hid (NO (by omega))
    clear hnn hA hP A0 NO
    go_enter Tryz.func52, Tryz.ntmps52
    go_wp2
    exact HQ.out
  by_cases m2 : 32 < m
  · have HQ := Lib.hid (NO (by omega))
    clear hnn hA hP A0 NO
    go_enter Tryz.func52, Tryz.ntmps52
    go_wp2
    exact HQ.out
  by_cases m3 : 10 < n
  · have HQ := Lib.hid (NO (by omega))
    have m4 : (10 : Int) < ((n : Nat) : Int) := by omega
    clear hnn hA hP A0 NO
    go_enter Tryz.func52, Tryz.ntmps52
    go_wp2
    exact HQ.out
  have m4 : ¬ (10 : Int) < ((n : Nat) : Int) := by omega
  clear hnn hA hP A0 NO
  go_enter Tryz.func52, Tryz.ntmps52
  go_wp2_with fail
  go_loopg [22] n (fun k v wr => ∃ (j : Nat), v = .int .i64 (j : Nat) ∧ j ≤ n ∧ k = n - j ∧ Hid (∀ x ∈ xs.take j, goodI m x) ∧ Hid (Below w.heap.size w wr) ∧ Hid (Below (w.alloc (patO start o n cap)).heap.size (w.alloc (patO start o n cap)) wr))
  case atStart => exact ⟨0, rfl, Nat.zero_le _, rfl, Lib.hid (fun x h => by simp at h), HA0, Lib.hid (Below.refl _ _)⟩
  case round =>
    obtain ⟨j, rfl, hj, rfl, HI, HB, HB0⟩ := hrel
    rcases Nat.lt_or_ge j n with hlt | hge
    · have hj1 : j < 1000000 := by omega
      obtain ⟨x, hx⟩ : ∃ x, xs[j]? = some x := ⟨_, List.getElem?_eq_getElem (by rw [HN.out]; exact hlt)⟩
      obtain ⟨g, off, rfl, hc⟩ := (HA.out.below HB0.out) (by rw [HN.out]; omega)
      obtain ⟨k0, k1⟩ := hc j x hx
      have hg := World.block_lt_of_cell? wr _ k0
      have HX := Lib.hid hx
      have hbb : Below wr.heap.size wr (wr.alloc (itO x)) := (Below.refl _ _).alloc (Nat.le_refl _) _
      have R1 := Lib.hid (heap_alloc_new wr (itO x))
      have HB1 := Lib.hid (HB.out.trans (hbb.mono HB.out.size))
      have HB2 := Lib.hid (HB0.out.trans (hbb.mono HB0.out.size))
      obtain ⟨s, h⟩ := x
      simp only at k0 k1
      clear hc hx hbb
      go_wp2_with fail
      refine (HK.out s _).mono ?_
      rintro e w2 ⟨rfl, b2⟩
      obtain ⟨q0, q1⟩ := row_cells (row_below R1.out b2)
      have HC1 := Lib.hid (HB1.out.trans (b2.mono HB1.out.size))
      have HC2 := Lib.hid (HB2.out.trans (b2.mono HB2.out.size))
      clear b2 k0 k1
      cases hr : rightZ s m with
      | false =>
        have HQ : Hid (P (.returned (.bool false)) w2) := by
          rw [← HP.out]
          exact Lib.hid ⟨by rw [rightB_bad HX.out (fun h => by have h1 := h.1; simp only at h1; rw [hr] at h1; cases h1)], HC1.out⟩
        clear hr
        go_wp2
        exact HQ.out
      | true =>
        cases hh : decide (h = 0 ∨ h = 1 ∨ h = 2) with
        | false =>
          have HQ : Hid (P (.returned (.bool false)) w2) := by
            rw [← HP.out]
            exact Lib.hid ⟨by rw [rightB_bad HX.out (fun h => (of_decide_eq_false hh) h.2)], HC1.out⟩
          have HH1 : Hid (Calls Tryz.prog 79 #[.int .i64 h] w2 fun e w' => e = .returned (.bool false) ∧ w2 = w') := by have := HH.out h w2; rw [hh] at this; exact Lib.hid this
          clear hr hh
          go_wp2_with fail
          refine HH1.out.mono ?_
          rintro e w3 ⟨rfl, rfl⟩
          go_wp2
          exact HQ.out
        | true =>
          have HI2 : Hid (∀ x ∈ xs.take (j + 1), goodI m x) := Lib.hid fun y hy => by
            rw [List.take_add_one, HX.out] at hy
            rcases List.mem_append.1 hy with hy | hy
            · exact HI.out y hy
            · obtain rfl : y = (s, h) := by simpa using hy
              exact ⟨hr, of_decide_eq_true hh⟩
          have HH1 : Hid (Calls Tryz.prog 79 #[.int .i64 h] w2 fun e w' => e = .returned (.bool true) ∧ w2 = w') := by have := HH.out h w2; rw [hh] at this; exact Lib.hid this
          clear hr hh
          go_wp2_with fail
          refine HH1.out.mono ?_
          rintro e w3 ⟨rfl, rfl⟩
          go_wp2
          go_roundg (n - (j + 1))
          case measure => omega
          case rel => exact ⟨j + 1, by simp, by omega, rfl, HI2, HC1, HC2⟩
    · obtain rfl : j = n := by omega
      have hall : rightB xs m = true := rightB_of (by omega) (by rw [HN.out]; omega) fun x hx => HI.out x (by rw [List.take_of_length_le (by rw [HN.out]; exact Nat.le_refl _)]; exact hx)
      have HQ : Hid (P (.returned (.bool true)) wr) := by
        rw [← HP.out]
        exact Lib.hid ⟨by rw [hall], HB.out⟩
      clear hall
      go_wp2
      exact HQ.out
end Go.Proofs.YtnmhdcbpbaanoaaGreatDoor

namespace Go.Proofs.YtnmhdcbpbaanoaaGreatDoor
open Go.RowKit Go.Extern.Stop Go.Stop Go.Extern Go.Shelf

abbrev tDQK (t : Nat) : Value := .pointer (some ⟨6, t, none⟩)
abbrev rtIQK (t : Nat) : Value := .iface 183 (.agg #[tDQK t])
abbrev vAQK (t : Nat) (p : Addr) (fl : Int) : Value := .agg #[tDQK t, .pointer (some p), .int .u64 fl]
theorem asKindQK (h : Value) (w : World) : (Go.method 404 183 (.agg #[h]) "Kind").run Tryz.prog w = .ok (218, h) w := by kernel_rfl
theorem asElemQK (h : Value) (w : World) : (Go.method 404 183 (.agg #[h]) "Elem").run Tryz.prog w = .ok (233, .agg #[h]) w := by kernel_rfl
theorem asImplementsQK (h : Value) (w : World) : (Go.method 404 183 (.agg #[h]) "Implements").run Tryz.prog w = .ok (234, .agg #[h]) w := by kernel_rfl
theorem asAssignableQK (h : Value) (w : World) : (Go.method 404 183 (.agg #[h]) "AssignableTo").run Tryz.prog w = .ok (231, .agg #[h]) w := by kernel_rfl
theorem asUnwrapQK (v : Array Value) (w : World) : (Go.method 404 160 (.agg v) "Unwrap").run Tryz.prog w = .ok (229, .agg v) w := by kernel_rfl
theorem rlmQK (z : Sem Value) (f : TypeId → Addr → Nat → Nat → Sem Value) (v : Value) :
    ReflectliteValue.method z f #[v] = (do match ← ReflectliteValue.parts v with | none => z | some (t, a, fl) => f t a fl (fl % 32)) := rfl
theorem rlsQK (v x : Value) : ReflectliteValue.set #[v, x] = (do
    let (some (dst, a, fl), some (src, b, _)) := (← ReflectliteValue.parts v, ← ReflectliteValue.parts x)
      | unsupported (.noEntry "extern/(internal/reflectlite.Value).Set.zeroValue")
    if fl / ReflectliteValue.flagAddr % 2 == 0 then unsupported (.noEntry "extern/(internal/reflectlite.Value).Set.unaddressable")
    let val ← loadVar src b
    if ← Rtype.directlyAssignable dst src then storeVar dst a val
    else if ← Rtype.implements dst src then
      if (← Rtype.kind src) == 20 then
        match val with
        | .nilIface => unsupported (.noEntry "extern/reflectlite: a nil value of one interface type handed on as a value of another")
        | _ => storeVar dst a val
      else storeVar dst a (.iface src val)
    else panicString ("reflectlite.Set: value of type " ++ (← Rtype.spelt src) ++ " is not assignable to type " ++ (← Rtype.spelt dst))
    pure (.tuple #[])) := rfl
theorem typeOfLQK (v : Value) (w : World) : (ReflectliteType.typeOf #[.iface 160 v]).run Tryz.prog w = .ok (rtIQK 160) w := by kernel_rfl
theorem noAsLQK (v : Value) (xT : TypeId) (w : World) : (Instr.typeAssert (.iface 160 v) xT 188 true).run Tryz.prog w = .ok (.tuple #[.nilIface, .bool false]) w := run_typeAssert_lacksB Tryz.underlying188 (by kernel_rfl) (by kernel_rfl) v xT w
theorem hasUnwrapLQK (v : Value) (xT : TypeId) (w : World) : (Instr.typeAssert (.iface 160 v) xT 191 true).run Tryz.prog w = .ok (.tuple #[.iface 160 v, .bool true]) w := run_typeAssert_hasB Tryz.underlying191 (by kernel_rfl) v xT w
theorem assignLWQK (w : World) : (ReflectliteType.relation "AssignableTo" ReflectliteType.assignableTo #[.agg #[tDQK 160], rtIQK 88]).run Tryz.prog w = .ok (.bool false) w := by kernel_rfl
theorem valueOfPWQK (t : Addr) (w : World) : (ReflectliteValue.unpack (.iface 90 (.pointer (some t)))).run Tryz.prog w = .ok (vAQK 90 ⟨w.heap.size, 0, none⟩ 150) (w.alloc (.cells #[.pointer (some t)] 90)) := by kernel_rfl
theorem typePWQK (a : Addr) (w : World) : (ReflectliteValue.methodAny (ReflectliteValue.valueError "reflectlite.Value.Type" 0) (fun t _ _ _ => ReflectliteType.toType t) #[vAQK 90 a 150]).run Tryz.prog w = .ok (rtIQK 90) w := by kernel_rfl
theorem kindPWQK (w : World) : ((ReflectliteType.abiMethod fun t => (fun a : Nat => Value.int IntKind.u8 (a : Int)) <$> Rtype.kind t) #[tDQK 90]).run Tryz.prog w = .ok (.int .u8 22) w := by kernel_rfl
theorem kindEWQK (w : World) : ((ReflectliteType.abiMethod fun t => (fun a : Nat => Value.int IntKind.u8 (a : Int)) <$> Rtype.kind t) #[tDQK 88]).run Tryz.prog w = .ok (.int .u8 2) w := by kernel_rfl
theorem partsPWQK (a : Addr) (w : World) : (ReflectliteValue.parts (vAQK 90 a 150)).run Tryz.prog w = .ok (some (90, a, 150)) w := by kernel_rfl
theorem isNilPWQK (a p : Addr) (W : World) (ha : W.cell? a = some (.pointer (some p))) :
    (ReflectliteValue.method (ReflectliteValue.valueError "reflectlite.Value.IsNil" 0) ReflectliteValue.isNil #[vAQK 90 a 150]).run Tryz.prog W = .ok (.bool false) W := by
  rw [rlmQK]
  simp only [Sem.run_bind, partsPWQK, Result.andThen]
  simp [ReflectliteValue.isNil, loadVar, isAgg, underlying, Tryz.underlying90, ha, Result.andThen]
theorem elemPWQK (w : World) : (ReflectliteType.method ReflectliteType.elem #[.agg #[tDQK 90]]).run Tryz.prog w = .ok (rtIQK 88) w := by kernel_rfl
theorem implementsWQK (w : World) : (ReflectliteType.relation "Implements" ReflectliteType.implements_ #[.agg #[tDQK 88], rtIQK 58]).run Tryz.prog w = .ok (.bool true) w := by kernel_rfl
theorem typeOfWQK (v : Value) (w : World) : (ReflectliteType.typeOf #[.iface 88 v]).run Tryz.prog w = .ok (rtIQK 88) w := by kernel_rfl
theorem elemOfWQK (w : World) : (Rtype.elem? 90).run Tryz.prog w = .ok (some 88) w := by kernel_rfl
theorem mkWQK (p : Addr) (w : World) : (ReflectliteValue.mk 88 p ReflectliteValue.flagAddr).run Tryz.prog w = .ok (vAQK 88 p 386) w := by kernel_rfl
theorem elemVWQK (a p : Addr) (W : World) (ha : W.cell? a = some (.pointer (some p))) :
    (ReflectliteValue.method (ReflectliteValue.valueError "reflectlite.Value.Elem" 0) ReflectliteValue.elem #[vAQK 90 a 150]).run Tryz.prog W = .ok (vAQK 88 p 386) W := by
  rw [rlmQK]
  simp only [Sem.run_bind, partsPWQK, Result.andThen]
  simp [ReflectliteValue.elem, loadVar, isAgg, underlying, Tryz.underlying90, ha, Result.andThen, elemOfWQK, mkWQK]
theorem partsAWQK (a : Addr) (w : World) : (ReflectliteValue.parts (vAQK 88 a 386)).run Tryz.prog w = .ok (some (88, a, 386)) w := by kernel_rfl
theorem partsBWQK (a : Addr) (w : World) : (ReflectliteValue.parts (vAQK 88 a 130)).run Tryz.prog w = .ok (some (88, a, 130)) w := by kernel_rfl
theorem directWQK (w : World) : (Rtype.directlyAssignable 88 88).run Tryz.prog w = .ok true w := by kernel_rfl
theorem assignWWQK (w : World) : (ReflectliteType.relation "AssignableTo" ReflectliteType.assignableTo #[.agg #[tDQK 88], rtIQK 88]).run Tryz.prog w = .ok (.bool true) w := by kernel_rfl
theorem valueOfWQK (n : Int) (w : World) : (ReflectliteValue.unpack (.iface 88 (.int .i64 n))).run Tryz.prog w = .ok (vAQK 88 ⟨w.heap.size, 0, none⟩ 130) (w.alloc (.cells #[.int .i64 n] 88)) := by kernel_rfl
theorem setWQK (ta b : Addr) (n : Int) (old : Value) (W : World) (hb : W.cell? b = some (.int .i64 n)) (ht : W.cell? ta = some old) (hf : W.frozen? ta = false) :
    (ReflectliteValue.set #[vAQK 88 ta 386, vAQK 88 b 130]).run Tryz.prog W = .ok (.tuple #[]) (W.setCell ta (.int .i64 n)) := by
  rw [rlsQK]
  simp only [Sem.run_bind, partsAWQK, partsBWQK, Result.andThen]
  simp [ReflectliteValue.flagAddr, loadVar, isAgg, underlying, Tryz.underlying88, hb, Result.andThen, directWQK, storeVar, Value.cells, storeCells, Addr.add]
  rw [run_store Tryz.prog W ta _ _ (by rfl)]
  simp [ht, hf]
theorem as_nilQK (t : Value) (w : World) : Calls Tryz.prog 60 #[.nilIface, t] w fun e w' => e = .returned (.bool false) ∧ w = w' := by
  go_enter Tryz.func60, Tryz.ntmps60
  go_wp2
  go_ret
  exact ⟨rfl, rfl⟩
theorem below_setCell2QK {n : Nat} {a b : World} (h : Below n a b) (p : Addr) (v : Value) : Below n (a.setCell p v) (b.setCell p v) := by
  refine ⟨h.os, h.tape, h.output, by simpa using h.size, fun k hk => ?_⟩
  unfold World.setCell
  simp only [Array.getElem?_modify]
  rw [h.block k hk]
theorem unwrap_anyQK (l : ByteArray) (n : Int) (w : World) :
    Calls Tryz.prog 229 #[.agg #[.string l, .int .i64 n]] w fun e w' => e = .returned (.iface 88 (.int .i64 n)) ∧ w.alloc (.cells #[.string l, .int .i64 n] 160) = w' := by
  go_enter Tryz.func229, Tryz.ntmps229
  go_wp2
  go_ret
  exact ⟨rfl, rfl⟩
set_option maxHeartbeats 4000000 in
/-- errors.as: the error is a line's, the target is what it wraps. -/
theorem as_throughQK (l : ByteArray) (n : Int) (g v : Nat) (old : Value) (w : World) (hv : w.cell? ⟨v, 0, none⟩ = some (.pointer (some ⟨g, 0, none⟩))) (ht : w.heap[g]? = some (.cells #[old] 88 (0, 0))) :
    Calls Tryz.prog 88 #[.iface 160 (.agg #[.string l, .int .i64 n]), .iface 90 (.pointer (some ⟨g, 0, none⟩)), vAQK 90 ⟨v, 0, none⟩ 150, rtIQK 88] w fun e w' => e = .returned (.bool true) ∧ Below w.heap.size (w.setCell ⟨g, 0, none⟩ (.int .i64 n)) w' := by
  have h10 := @run_callFunc_extern Tryz.prog 117 _ ReflectliteType.typeOf Tryz.func117 (by kernel_rfl) (by kernel_rfl) (by kernel_rfl) (by kernel_rfl)
  have h35 := @run_callFunc_extern Tryz.prog 231 _ (ReflectliteType.relation "AssignableTo" ReflectliteType.assignableTo) Tryz.func231 (by kernel_rfl) (by kernel_rfl) (by kernel_rfl) (by kernel_rfl)
  have h6 := @run_callFunc_extern Tryz.prog 85 _ (fun args => ReflectliteValue.unpack (args.getD 0 (.tuple #[]))) Tryz.func85 (by kernel_rfl) (by kernel_rfl) (by kernel_rfl) (by kernel_rfl)
  have h11 := @run_callFunc_extern Tryz.prog 118 _ (ReflectliteValue.method (ReflectliteValue.valueError "reflectlite.Value.Elem" 0) ReflectliteValue.elem) Tryz.func118 (by kernel_rfl) (by kernel_rfl) (by kernel_rfl) (by kernel_rfl)
  have h12 := @run_callFunc_extern Tryz.prog 119 _ ReflectliteValue.set Tryz.func119 (by kernel_rfl) (by kernel_rfl) (by kernel_rfl) (by kernel_rfl)
  have tO := typeOfWQK
  have tL := typeOfLQK
  have mA := asAssignableQK
  have mU := asUnwrapQK
  have aW := assignWWQK
  have aL := assignLWQK
  have vW := valueOfWQK
  have nA := noAsLQK
  have hU := hasUnwrapLQK
  have c0 : w.cell? ⟨g, 0, none⟩ = some old := by rw [cell_of_row _ _ 0 _ _ _ ht]; rfl
  have f0 : w.frozen? ⟨g, 0, none⟩ = false := frozen_of_row _ _ 0 _ _ ht
  have lg : g < w.heap.size := (Array.getElem?_eq_some_iff.1 ht).1
  have lv : v < w.heap.size := World.block_lt_of_cell? w _ hv
  have el := elemVWQK ⟨v, 0, none⟩ ⟨g, 0, none⟩ ((w.alloc (.cells #[tDQK 90, .pointer (some ⟨v, 0, none⟩), .int .u64 150] 143)).alloc (.cells #[.string l, .int .i64 n] 160)) (by rw [World.cell?_alloc_lt _ _ ⟨v, 0, none⟩ (by simp; omega), World.cell?_alloc_lt _ _ ⟨v, 0, none⟩ lv]; exact hv)
  have st := setWQK ⟨g, 0, none⟩ ⟨w.heap.size + 1 + 1, 0, none⟩ n old (((w.alloc (.cells #[tDQK 90, .pointer (some ⟨v, 0, none⟩), .int .u64 150] 143)).alloc (.cells #[.string l, .int .i64 n] 160)).alloc (.cells #[.int .i64 n] 88))
    (by rw [World.cell?_alloc_at _ _ _ _ (by simp)]; rfl)
    (by rw [World.cell?_alloc_lt _ _ ⟨g, 0, none⟩ (by simp; omega), World.cell?_alloc_lt _ _ ⟨g, 0, none⟩ (by simp; omega), World.cell?_alloc_lt _ _ ⟨g, 0, none⟩ lg]; exact c0)
    (by rw [World.frozen?_alloc_old _ _ ⟨g, 0, none⟩ (by simp; omega), World.frozen?_alloc_old _ _ ⟨g, 0, none⟩ (by simp; omega), World.frozen?_alloc_old _ _ ⟨g, 0, none⟩ (Nat.ne_of_lt lg)]; exact f0)
  go_enter Tryz.func88, Tryz.ntmps88
  go_wp2_with fail
  refine wp_loop_rounds 2 ?_
  rw [rounds_succ]
  go_wp2
  rw [rounds_succ]
  go_wp2
  go_ret
  exact ⟨rfl, below_setCell2QK ((((Below.refl w.heap.size w).alloc (Nat.le_refl _) _).alloc (by simp) _).alloc (by simp; omega) _) _ _⟩
set_option maxHeartbeats 4000000 in
/-- errors.As, by what errors.as answers. -/
theorem as_frontWQK (err : Value) (T : TypeId) (hT : ∃ z, err = .iface T z) (g : Nat) (w : World) (hg : w.cell? ⟨0, 0, none⟩ = some (rtIQK 58)) (b : Bool) (R : World → Prop)
    (hA : Calls Tryz.prog 88 #[err, .iface 90 (.pointer (some ⟨g, 0, none⟩)), vAQK 90 ⟨w.heap.size, 0, none⟩ 150, rtIQK 88] ((w.alloc (.cells #[.pointer (some ⟨g, 0, none⟩)] 90)).alloc (.cells #[tDQK 90, .pointer (some ⟨w.heap.size, 0, none⟩), .int .u64 150] 143)) fun e w' => e = .returned (.bool b) ∧ R w') :
    Calls Tryz.prog 60 #[err, .iface 90 (.pointer (some ⟨g, 0, none⟩))] w fun e w' => e = .returned (.bool b) ∧ R w' := by
  obtain ⟨z, rfl⟩ := hT
  have h6 := @run_callFunc_extern Tryz.prog 85 _ (fun args => ReflectliteValue.unpack (args.getD 0 (.tuple #[]))) Tryz.func85 (by kernel_rfl) (by kernel_rfl) (by kernel_rfl) (by kernel_rfl)
  have h7 := @run_callFunc_extern Tryz.prog 86 _ (ReflectliteValue.methodAny (ReflectliteValue.valueError "reflectlite.Value.Type" 0) (fun t _ _ _ => ReflectliteType.toType t)) Tryz.func86 (by kernel_rfl) (by kernel_rfl) (by kernel_rfl) (by kernel_rfl)
  have h8 := @run_callFunc_extern Tryz.prog 87 _ (ReflectliteValue.method (ReflectliteValue.valueError "reflectlite.Value.IsNil" 0) ReflectliteValue.isNil) Tryz.func87 (by kernel_rfl) (by kernel_rfl) (by kernel_rfl) (by kernel_rfl)
  have h27 := @run_callFunc_extern Tryz.prog 218 _ (ReflectliteType.abiMethod fun t => do pure (.int .u8 (← Rtype.kind t))) Tryz.func218 (by kernel_rfl) (by kernel_rfl) (by kernel_rfl) (by kernel_rfl)
  have h37 := @run_callFunc_extern Tryz.prog 233 _ (ReflectliteType.method ReflectliteType.elem) Tryz.func233 (by kernel_rfl) (by kernel_rfl) (by kernel_rfl) (by kernel_rfl)
  have h38 := @run_callFunc_extern Tryz.prog 234 _ (ReflectliteType.relation "Implements" ReflectliteType.implements_) Tryz.func234 (by kernel_rfl) (by kernel_rfl) (by kernel_rfl) (by kernel_rfl)
  have f6 := valueOfPWQK
  have f7 := typePWQK
  have mK := asKindQK
  have mE := asElemQK
  have mI := asImplementsQK
  have kP := kindPWQK
  have kE := kindEWQK
  have eP := elemPWQK
  have iE := implementsWQK
  have n8 := isNilPWQK ⟨w.heap.size, 0, none⟩ ⟨g, 0, none⟩ ((w.alloc (.cells #[.pointer (some ⟨g, 0, none⟩)] 90)).alloc (.cells #[tDQK 90, .pointer (some ⟨w.heap.size, 0, none⟩), .int .u64 150] 143)) (by simp)
  have lg := World.block_lt_of_cell? w _ hg
  have hg2 : ((w.alloc (.cells #[.pointer (some ⟨g, 0, none⟩)] 90)).alloc (.cells #[tDQK 90, .pointer (some ⟨w.heap.size, 0, none⟩), .int .u64 150] 143)).cell? ⟨0, 0, none⟩ = some (rtIQK 58) := by
    rw [World.cell?_alloc_lt _ _ ⟨0, 0, none⟩ (by simp only [World.size_alloc]; exact Nat.lt_succ_of_lt lg), World.cell?_alloc_lt _ _ ⟨0, 0, none⟩ lg]; exact hg
  have HA := Lib.hid hA
  clear hA
  go_enter Tryz.func60, Tryz.ntmps60
  go_wp2_with fail
  refine HA.out.mono ?_
  rintro e w' ⟨rfl, hR⟩
  have HR := Lib.hid hR
  clear hR
  go_wp2
  go_ret
  exact ⟨rfl, HR.out⟩
theorem row_twoQK {w : World} {A B o : Obj} {g : Nat} (h : w.heap[g]? = some o) : ((w.alloc A).alloc B).heap[g]? = some o := by
  have hg := (Array.getElem?_eq_some_iff.1 h).1
  rw [Below.heap_alloc _ _ _ (by simp; omega), Below.heap_alloc _ _ _ hg]
  exact h
theorem asW_throughQK (l : ByteArray) (n : Int) (g : Nat) (old : Value) (w : World) (hG : w.cell? ⟨0, 0, none⟩ = some (rtIQK 58)) (ht : w.heap[g]? = some (.cells #[old] 88 (0, 0))) :
    Calls Tryz.prog 60 #[.iface 160 (.agg #[.string l, .int .i64 n]), .iface 90 (.pointer (some ⟨g, 0, none⟩))] w fun e w' => e = .returned (.bool true) ∧ Below w.heap.size (w.setCell ⟨g, 0, none⟩ (.int .i64 n)) w' :=
  as_frontWQK _ 160 ⟨_, rfl⟩ g w hG true (Below w.heap.size (w.setCell ⟨g, 0, none⟩ (.int .i64 n)))
    ((as_throughQK l n g w.heap.size old _ (by simp) (row_twoQK ht)).mono fun _ _ ⟨h1, h2⟩ => ⟨h1, (below_setCell2QK (((Below.refl w.heap.size w).alloc (Nat.le_refl _) _).alloc (by simp) _) _ _).trans (h2.mono (by simp; omega))⟩)

abbrev faultK (l : ByteArray) (n : Int) : Value := .iface 160 (.agg #[.string l, .int .i64 n])
theorem inK_any (l : ByteArray) (n : Int) (w : World) : Calls Tryz.prog 65 #[.string l, .int .i64 n] w fun e w' => e = .returned (faultK l n) ∧ w = w' := by
  go_enter Tryz.func65, Tryz.ntmps65
  go_wp2
  go_ret
  exact ⟨rfl, rfl⟩
theorem toldK_nil (w : World) : Calls Tryz.prog 35 #[.nilIface] w fun e w' => e = .returned (.int .i64 0) ∧ Below w.heap.size w w' := by
  go_enter Tryz.func35, Tryz.ntmps35
  go_wp2_with fail
  refine (as_nilQK _ _).mono ?_
  rintro e w' ⟨rfl, rfl⟩
  go_wp2
  go_ret
  exact ⟨rfl, (Below.refl _ _).alloc (Nat.le_refl _) _⟩
theorem toldK_fault (l : ByteArray) (n : Int) (w : World) (hG : w.cell? ⟨0, 0, none⟩ = some (rtIQK 58)) : Calls Tryz.prog 35 #[faultK l n] w fun e w' => e = .returned (.int .i64 n) ∧ Below w.heap.size w w' := by
  have A0 : Below w.heap.size w (w.alloc (.cells #[.int .i64 0] 88)) := (Below.refl _ _).alloc (Nat.le_refl _) _
  have hG0 : (w.alloc (.cells #[.int .i64 0] 88)).cell? ⟨0, 0, none⟩ = some (rtIQK 58) := (A0.cell (World.block_lt_of_cell? w _ hG)).trans hG
  have r0 : (w.alloc (.cells #[.int .i64 0] 88)).heap[w.heap.size]? = some (.cells #[.int .i64 0] 88 (0, 0)) := heap_alloc_new _ _
  have HH := Lib.hid (asW_throughQK l n w.heap.size _ _ hG0 r0)
  have HA0 := Lib.hid A0
  have R0 := Lib.hid r0
  clear A0 r0 hG0
  go_enter Tryz.func35, Tryz.ntmps35
  go_wp2_with fail
  refine HH.out.mono ?_
  rintro e w1 ⟨rfl, b1⟩
  have c0 : w1.cell? ⟨w.heap.size, 0, none⟩ = some (.int .i64 n) := by
    rw [show w1.cell? ⟨w.heap.size, 0, none⟩ = ((w.alloc (.cells #[.int .i64 0] 88)).setCell ⟨w.heap.size, 0, none⟩ (.int .i64 n)).cell? ⟨w.heap.size, 0, none⟩ from World.cell?_of_block (b1.block _ (by simp))]
    rw [cell_of_row _ _ 0 _ _ _ (heap_setCell_same _ _ 0 _ _ _ R0.out)]; rfl
  have HB1 := Lib.hid ((HA0.out.setCell (p := ⟨w.heap.size, 0, none⟩) (by simp) (.int .i64 n)).trans (b1.mono (by simp)))
  clear b1
  go_wp2
  go_ret
  exact ⟨rfl, HB1.out⟩
end Go.Proofs.YtnmhdcbpbaanoaaGreatDoor

namespace Go.Proofs.YtnmhdcbpbaanoaaGreatDoor
open Go.RowKit Go.Shelf Go.Maps
attribute [local go_sem] Oper.semAt_some

/-- What the library's variables hold that the calls look at. -/
structure KGlob (w : World) : Prop where
  et : w.cell? ⟨0, 0, none⟩ = some (rtIQK 58)
theorem KGlob.below {w w' : World} (h : KGlob w) (hb : Below w.heap.size w w') : KGlob w' := by
  constructor
  · exact cell_keep hb h.et
abbrev In64K (n : Int) : Prop := -9223372036854775808 ≤ n ∧ n ≤ 9223372036854775807
theorem results_set_tmp {fn : Func} {p q : Tmp} (h : fn.results = #[.cell p 180, .tmp q]) (tmps : Array Value) (w : World) (g : Nat) (cs : Array Value) (v : Value) (hz : cs.size = 2) (hp : tmps.getD p undef = .pointer (some ⟨g, 0, none⟩)) (hq : tmps.getD q undef = v) (hg : w.heap[g]? = some (.cells cs 180 (0, 0))) :
    (results fn tmps).run Tryz.prog w = .ok (.tuple #[.agg cs, v]) w :=
  results_cell_tmp h tmps w g 180 cs (0, 0) _ v hp hq hg Tryz.underlying180 rfl (by rw [hz]; kernel_rfl)
/-- What classesOf answers. -/
def OfPost (l : List Int) (w : World) (e : Ending) (w' : World) : Prop :=
  (∃ x, ofZ l = some x ∧ e = .returned (.tuple #[.agg #[.int .i64 (x : Nat), .int .i64 32], .nilIface]) ∧ Below w.heap.size w w') ∨
  (ofZ l = none ∧ ∃ s, e = .returned (.tuple #[.agg #[.int .i64 0, .int .i64 0], faultK s 70]) ∧ Below w.heap.size w w')
/-- The number that callers know. -/
def errZ {α : Type} (o : Option α) : Int := match o with | some _ => 0 | none => 70
def ofV (l : List Int) : Int := match ofZ l with | some x => ((x : Nat) : Int) | none => 0
end Go.Proofs.YtnmhdcbpbaanoaaGreatDoor

namespace Go.Proofs.YtnmhdcbpbaanoaaGreatDoor
open Go.RowKit Go.Shelf Go.Maps
attribute [local go_sem] Oper.semAt_some

set_option maxHeartbeats 1000000 in
theorem NamesK_any (o : Option Addr) (ns : List ByteArray) (cap : Nat) (hn : ns.length ≤ 1000) (hz : ∀ s ∈ ns, s.size ≤ 1000000) (w : World) (hA : TxtAt w o ns) :
    Calls Tryz.prog 64 #[.slice o ns.length cap] w fun e w' => e = .returned (.bool (decide (namesL ns))) ∧ Below w.heap.size w w' := by
  have h1 := Lib.hid (namesOf_any o ns cap hn hz w hA)
  have h2 := Lib.hid (fun (w1 : World) (hV : ValsOf w1 (w.heap.size + 1) ns) (hA1 : TxtAt w1 o ns) => rightN_any o ns cap (w.heap.size + 1) hn hz w1 hA1 hV)
  have HA := Lib.hid hA
  obtain ⟨b, hb⟩ : ∃ b, decide (namesL ns) = b := ⟨_, rfl⟩
  rw [hb] at h2 ⊢
  obtain ⟨n, hnn⟩ : ∃ n, ns.length = n := ⟨_, rfl⟩
  rw [hnn] at h1 h2 ⊢
  clear hb hnn hA
  go_enter Tryz.func64, Tryz.ntmps64
  go_wp2_with fail
  refine h1.out.mono ?_
  rintro e w1 ⟨rfl, hV, b1⟩
  have B1 := Lib.hid b1
  have C2 := Lib.hid (h2.out w1 hV (HA.out.below b1))
  clear b1 hV h2
  go_wp2_with fail
  refine C2.out.mono ?_
  rintro e w2 ⟨rfl, b2⟩
  have B2 := Lib.hid (B1.out.trans (b2.mono B1.out.size))
  clear b2
  go_wp2
  go_ret
  exact ⟨rfl, B2.out⟩
abbrev knO (o : Option Addr) (n cap b : Nat) : Obj := .cells #[.slice o n cap, .map (some b)] 229 (0, 0)
/-- What namesOf answers. -/
def NamesPost (o : Option Addr) (ns : List ByteArray) (cap : Nat) (w : World) (e : Ending) (w' : World) : Prop :=
  (namesL ns ∧ ∃ b, e = .returned (.tuple #[.agg #[.slice o ns.length cap, .map (some b)], .nilIface]) ∧ ValsOf w' b ns ∧ Below w.heap.size w w') ∨
  (¬ namesL ns ∧ ∃ s, e = .returned (.tuple #[.agg #[.slice none 0 0, .map none], faultK s 2]) ∧ Below w.heap.size w w')
theorem results_names_tmp {fn : Func} {p q : Tmp} (h : fn.results = #[.cell p 229, .tmp q]) (tmps : Array Value) (w : World) (g : Nat) (cs : Array Value) (v : Value) (hz : cs.size = 2) (hp : tmps.getD p undef = .pointer (some ⟨g, 0, none⟩)) (hq : tmps.getD q undef = v) (hg : w.heap[g]? = some (.cells cs 229 (0, 0))) :
    (results fn tmps).run Tryz.prog w = .ok (.tuple #[.agg cs, v]) w :=
  results_cell_tmp h tmps w g 229 cs (0, 0) _ v hp hq hg Tryz.underlying229 rfl (by rw [hz]; kernel_rfl)
set_option maxRecDepth 100000 in
set_option maxHeartbeats 4000000 in
theorem namesOfK_any (o : Option Addr) (ns : List ByteArray) (cap : Nat) (hn : ns.length ≤ 1000) (hz : ∀ s ∈ ns, s.size ≤ 1000000) (w : World) (hA : TxtAt w o ns) :
    Calls Tryz.prog 159 #[.slice o ns.length cap] w (NamesPost o ns cap w) := by
  have A0 : Below w.heap.size w (w.alloc (.cells #[.slice none 0 0, .map none] 229)) := (Below.refl _ _).alloc (Nat.le_refl _) _
  have r0 : (w.alloc (.cells #[.slice none 0 0, .map none] 229)).heap[w.heap.size]? = some (.cells #[.slice none 0 0, .map none] 229 (0, 0)) := heap_alloc_new _ _
  have HN1 := Lib.hid (NamesK_any o ns cap hn hz (w.alloc (.cells #[.slice none 0 0, .map none] 229)) (hA.below A0))
  obtain ⟨P, hP⟩ : ∃ P, NamesPost o ns cap w = P := ⟨_, rfl⟩
  have HP := Lib.hid hP
  rw [hP]
  have HA := Lib.hid hA
  have HZ := Lib.hid hz
  have HA0 := Lib.hid A0
  have R0 := Lib.hid r0
  obtain ⟨n, hnn⟩ : ∃ n, ns.length = n := ⟨_, rfl⟩
  rw [hnn] at hn HN1 ⊢
  have HN := Lib.hid hnn
  by_cases hnl : namesL ns
  · rw [decide_eq_true hnl] at HN1
    have HNL := Lib.hid hnl
    clear hP hA hz A0 r0 hnn hnl
    have hmm := @run_makeMap_plain
    go_enter Tryz.func159, Tryz.ntmps159
    go_wp2_with fail
    refine HN1.out.mono ?_
    rintro e w1 ⟨rfl, b1⟩
    have R1 := Lib.hid (row_below R0.out b1)
    have B1 := Lib.hid (HA0.out.trans (b1.mono HA0.out.size))
    have hlt1 : w.heap.size < w1.heap.size := (Array.getElem?_eq_some_iff.1 R1.out).1
    clear b1 HN1
    go_wp2_with fail
    go_loopg [17] n (fun k v wr => ∃ (j : Nat), v = .int .i64 (j : Nat) ∧ j ≤ n ∧ k = n - j ∧ Hid (ValsOf wr w1.heap.size (ns.take j)) ∧ Hid (wr.heap[w1.heap.size + 1]? = some (knO o n cap w1.heap.size)) ∧ Hid (wr.heap[w.heap.size]? = some (.cells #[.slice none 0 0, .map none] 229 (0, 0))) ∧ Hid (Below w.heap.size w wr))
    case atStart =>
      refine ⟨0, rfl, Nat.zero_le _, rfl, Lib.hid ?_, Lib.hid ?_, Lib.hid ?_, Lib.hid ((B1.out.alloc B1.out.size _).alloc (by have := B1.out.size; simp; omega) _)⟩
      · have h1 := World.ownsMap_made (H := Unit) w1 Tryz.prog 9 (plainElem Tryz.prog 3)
        exact ValsOf.made (h1.kept (World.grownBy_alloc _ _ none) (by simp))
      · have := heap_alloc_new (w1.alloc (.map #[] 0)) (knO o n cap w1.heap.size)
        rwa [World.size_alloc] at this
      · rw [Below.heap_alloc _ _ _ (by simp; omega), Below.heap_alloc _ _ _ hlt1]
        exact R1.out
    case round =>
      obtain ⟨j, rfl, hj, rfl, HV, HM, HR, HB⟩ := hrel
      have cm : wr.cell? ⟨w1.heap.size + 1, 1, none⟩ = some (.map (some w1.heap.size)) := cell_of_row wr _ 1 _ _ _ HM.out
      rcases Nat.lt_or_ge j n with hlt | hge
      · have hj1 : j < 1000000 := by omega
        obtain ⟨x, hx⟩ : ∃ x, ns[j]? = some x := ⟨_, List.getElem?_eq_getElem (by rw [HN.out]; exact hlt)⟩
        obtain ⟨g, off, rfl, hc⟩ := (HA.out.below HB.out) (by rw [HN.out]; omega)
        have k0 := hc j x hx
        have hg := World.block_lt_of_cell? wr _ k0
        have hxz : x.size ≤ maxLen := by have := HZ.out x (List.mem_of_getElem? hx); unfold maxLen; omega
        have hnd : (ns.take (j + 1)).Nodup := List.Sublist.nodup (List.take_sublist _ _) HNL.out.2.1
        have hv : valueL (ns.take j) x = none := ((nodup_snoc hx).1 hnd).2
        have HX := Lib.hid hx
        obtain ⟨D, nn, h1, h2, h3, h4, h5, h6, h7⟩ := HV.out
        have l1 : (ns.take j).length = j := by rw [List.length_take, HN.out]; omega
        rw [l1] at h2 h6 h7
        have HO := Lib.hid h1
        have HXZ := Lib.hid hxz
        have MORE := Lib.hid (fun (W' : World) ho => ValsOf.more (W' := W') (b := w1.heap.size) HX.out h2 h3 h4 h5 h6 h7 hv ho)
        have HN2 : Hid (nn < maxLen) := Lib.hid (by unfold maxLen; omega)
        have wfj : (Lit.int .i64 (j : Nat)).wf = true := WalkArith.wf_i64 (by omega)
        have HWF := Lib.hid wfj
        have HBl : Hid (w1.heap.size + 1 < wr.heap.size) := Lib.hid (World.block_lt_of_cell? wr _ cm)
        clear h1 h2 h3 h4 h5 h6 h7 hv wfj hnd hc hx hxz l1
        go_wp2_with (at_mapUpdate; refine wpList_mapUpdate_own _ rfl _ _ _ 155 rfl 9 3 keyStr Tryz.underlying155 _ w1.heap.size nn _ rfl HO.out HN2.out _ _ _ rfl rfl (WideMaps.keyOf_string_mk Tryz.underlying9 HXZ.out) _ [] (plainElem_int Tryz.underlying3 HWF.out) ?_; intro w2 hown1 hgrow1)
        have mv : ∀ k, k < wr.heap.size → k ≠ w1.heap.size → w2.heap[k]? = wr.heap[k]? := fun k hk hne => hgrow1.block k hk (fun e => hne (Option.some.inj e))
        have HV2 := Lib.hid (MORE.out w2 hown1)
        have HM2 : Hid (w2.heap[w1.heap.size + 1]? = some (knO (some ⟨g, off, none⟩) n cap w1.heap.size)) := Lib.hid ((mv _ HBl.out (by omega)).trans HM.out)
        have HR2 : Hid (w2.heap[w.heap.size]? = some (.cells #[.slice none 0 0, .map none] 229 (0, 0))) := Lib.hid ((mv _ (by have := HBl.out; omega) (by omega)).trans HR.out)
        have HB2 : Hid (Below w.heap.size w w2) := Lib.hid (HB.out.grown hgrow1 HB.out.size (fun g hg => by cases hg; omega))
        clear mv hown1 hgrow1 MORE
        go_wp2
        go_roundg (n - (j + 1))
        case measure => omega
        case rel => exact ⟨j + 1, by simp, by omega, rfl, HV2, HM2, HR2, HB2⟩
      · obtain rfl : j = n := by omega
        have hvv := HV.out
        rw [List.take_of_length_le (by rw [HN.out]; exact Nat.le_refl _)] at hvv
        have HVV := Lib.hid hvv
        have cs : wr.cell? ⟨w1.heap.size + 1, 0, none⟩ = some (.slice o j cap) := cell_of_row wr _ 0 _ _ _ HM.out
        have d0 : wr.cell? ⟨w.heap.size, 0, none⟩ = some (.slice none 0 0) := cell_of_row wr _ 0 _ _ _ HR.out
        have d1 : wr.cell? ⟨w.heap.size, 1, none⟩ = some (.map none) := cell_of_row wr _ 1 _ _ _ HR.out
        have fz : wr.frozen? ⟨w.heap.size, 0, none⟩ = false := frozen_of_row _ _ _ _ _ HR.out
        have fz1 : wr.frozen? ⟨w.heap.size, 1, none⟩ = false := frozen_of_row _ _ _ _ _ HR.out
        have hfin : ((wr.setCell ⟨w.heap.size, 0, none⟩ (.slice o j cap)).setCell ⟨w.heap.size, 1, none⟩ (.map (some w1.heap.size))).heap[w.heap.size]? = some (knO o j cap w1.heap.size) := by
          have h1 := heap_setCell_same wr _ 0 _ _ (.slice o j cap) HR.out
          exact heap_setCell_same _ _ 1 _ _ (.map (some w1.heap.size)) h1
        have HFIN := Lib.hid hfin
        have HPP : Hid (P (.returned (.tuple #[.agg #[.slice o j cap, .map (some w1.heap.size)], .nilIface])) ((wr.setCell ⟨w.heap.size, 0, none⟩ (.slice o j cap)).setCell ⟨w.heap.size, 1, none⟩ (.map (some w1.heap.size)))) := by
          rw [← HP.out]
          refine Lib.hid (.inl ⟨HNL.out, w1.heap.size, by rw [HN.out], HVV.out.row ?_, ?_⟩)
          · rw [heap_setCell_other _ _ _ _ (by show w1.heap.size ≠ w.heap.size; omega), heap_setCell_other _ _ _ _ (by show w1.heap.size ≠ w.heap.size; omega)]
          · exact Moves.below (S := fun k => k = w.heap.size) HB.out HB.out.size ((Moves.setCell (S := fun k => k = w.heap.size) (a := ⟨w.heap.size, 0, none⟩) rfl).trans (Moves.setCell (S := fun k => k = w.heap.size) (a := ⟨w.heap.size, 1, none⟩) rfl)) (fun k h => by omega)
        clear hvv HV hfin
        go_wp2
        refine bodyPost_ret (v := .tuple #[.agg #[.slice o j cap, .map (some w1.heap.size)], .nilIface]) ?_ rfl HPP.out
        exact results_names_tmp rfl _ _ w.heap.size #[.slice o j cap, .map (some w1.heap.size)] _ rfl rfl rfl HFIN.out
  · rw [decide_eq_false hnl] at HN1
    have HNL := Lib.hid hnl
    clear hP hA hz A0 r0 hnn hnl
    go_enter Tryz.func159, Tryz.ntmps159
    go_wp2_with fail
    refine HN1.out.mono ?_
    rintro e w1 ⟨rfl, b1⟩
    have r1 := row_below R0.out b1
    have d0 : w1.cell? ⟨w.heap.size, 0, none⟩ = some (.slice none 0 0) := cell_of_row w1 _ 0 _ _ _ r1
    have d1 : w1.cell? ⟨w.heap.size, 1, none⟩ = some (.map none) := cell_of_row w1 _ 1 _ _ _ r1
    have fz : w1.frozen? ⟨w.heap.size, 0, none⟩ = false := frozen_of_row _ _ _ _ _ r1
    have fz1 : w1.frozen? ⟨w.heap.size, 1, none⟩ = false := frozen_of_row _ _ _ _ _ r1
    have R1 := Lib.hid r1
    have B1 := Lib.hid (HA0.out.trans (b1.mono HA0.out.size))
    clear b1 HN1 r1
    go_wp2_with fail
    refine (inK_any _ _ _).mono ?_
    rintro e w2 ⟨rfl, rfl⟩
    go_wp2
    refine bodyPost_ret (v := .tuple #[.agg #[.slice none 0 0, .map none], faultK ⟨#[110, 97, 109, 101, 115]⟩ 2]) ?_ rfl ?_
    · exact results_names_tmp rfl _ _ w.heap.size #[.slice none 0 0, .map none] _ rfl rfl rfl (heap_setCell_same _ _ 1 _ _ (.map none) (heap_setCell_same w1 _ 0 _ _ (.slice none 0 0) R1.out))
    · rw [← HP.out]
      exact .inr ⟨HNL.out, _, rfl, Moves.below (S := fun k => k = w.heap.size) B1.out B1.out.size ((Moves.setCell (S := fun k => k = w.heap.size) (a := ⟨w.heap.size, 0, none⟩) rfl).trans (Moves.setCell (S := fun k => k = w.heap.size) (a := ⟨w.heap.size, 1, none⟩) rfl)) (fun k h => by omega)⟩
end Go.Proofs.YtnmhdcbpbaanoaaGreatDoor
