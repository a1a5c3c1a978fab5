/- Shaken by bunq.py. -/
import Derived.Test.YtgcapoejieolnaaGreatDoorBuq5
import Derived.Lib.SliceRun
import Derived.Test.YtgcapoejieolnaaGreatDoorBuq2
import Derived.Test.YtgcapoejieolnaaGreatDoorChecked
import Derived.WalkKit
import Derived.LaidEql
import Derived.Stop.Asserts
import Derived.RowKitTokens
import Derived.Maps.Views
import Derived.Maps.OwnSet
import Derived.Maps.Keyed
import Derived.DeepKeys4
import Derived.StringKeys
import Derived.WideMake
import Derived.Test.YtgcapoejieolnaaGreatDoorBuq3
namespace Go.Proofs.YtgcapoejieolnaaGreatDoor
open Go.RowKit Go.Shelf Go.Maps
attribute [local go_sem] Oper.semAt_some
attribute [local go_sem ↓] app_hide

def RowI (W : World) (g : Nat) (l : List ItemP) : Prop := ∃ cur : Array Value, W.heap[g]? = some (.cells cur 88 (0, 0)) ∧ cur.toList.take (l.length * 2) = cellsI l
theorem RowI.cell {W : World} {g : Nat} {l : List ItemP} (h : RowI W g l) {i : Nat} {u : Value} (hu : (cellsI l)[i]? = some u) : W.cell? ⟨g, i, none⟩ = some u := by
  obtain ⟨cur, hg, ht⟩ := h
  rw [cell_of_row _ _ i _ _ _ hg]
  rw [← ht, List.getElem?_take] at hu
  split at hu
  · rwa [Array.getElem?_toList] at hu
  · cases hu
theorem RowI.at {W : World} {g : Nat} {l : List ItemP} (h : RowI W g l) {j : Nat} {x : ItemP} (hx : l[j]? = some x) : W.cell? ⟨g, j * 2, none⟩ = some (.int .i64 x.1) ∧ W.cell? ⟨g, j * 2 + 1, none⟩ = some (.int .i64 x.2) := by
  obtain ⟨h0, h1⟩ := cellsI_get hx
  exact ⟨h.cell h0, h.cell h1⟩
theorem RowI.frozen {W : World} {g : Nat} {l : List ItemP} (h : RowI W g l) (k : Nat) : W.frozen? ⟨g, k, none⟩ = false := by
  obtain ⟨cur, hg, _⟩ := h
  exact frozen_of_row _ _ _ _ _ hg
theorem RowI.lt {W : World} {g : Nat} {l : List ItemP} (h : RowI W g l) : g < W.heap.size := by
  obtain ⟨cur, hg, _⟩ := h
  exact (Array.getElem?_eq_some_iff.1 hg).1
theorem cellsI_set : ∀ (l : List ItemP) (j : Nat) (x : ItemP), cellsI (l.set j x) = ((cellsI l).set (j * 2) (.int .i64 x.1)).set (j * 2 + 1) (.int .i64 x.2)
  | [], j, x => rfl
  | y :: l, 0, x => rfl
  | y :: l, j + 1, x => by
    have ih := cellsI_set l j x
    rw [show (j + 1) * 2 = j * 2 + 1 + 1 from by omega]
    show (Value.int .i64 y.1) :: (.int .i64 y.2) :: cellsI (l.set j x) = _
    rw [ih]
    rfl
theorem take_setQ {α : Type} (l : List α) (m p : Nat) (v : α) : (l.set p v).take m = (l.take m).set p v := by
  apply List.ext_getElem?
  intro i
  rw [List.getElem?_take, List.getElem?_set, List.getElem?_set, List.getElem?_take, List.length_take]
  by_cases h1 : i < m
  · rw [if_pos h1, if_pos h1]
    by_cases h2 : p = i
    · subst h2
      rw [if_pos rfl, if_pos rfl]
      by_cases h3 : p < l.length
      · rw [if_pos h3, if_pos (by omega)]
      · rw [if_neg h3, if_neg (by omega)]
    · rw [if_neg h2, if_neg h2]
  · rw [if_neg h1, if_neg h1]
    by_cases h2 : p = i
    · subst h2
      rw [if_pos rfl, if_neg (by omega)]
    · rw [if_neg h2]
theorem RowI.set {W : World} {g : Nat} {l : List ItemP} (h : RowI W g l) (j : Nat) (x : ItemP) : RowI ((W.setCell ⟨g, j * 2, none⟩ (.int .i64 x.1)).setCell ⟨g, j * 2 + 1, none⟩ (.int .i64 x.2)) g (l.set j x) := by
  obtain ⟨cur, hg, ht⟩ := h
  refine ⟨_, heap_setCell_same _ _ _ _ _ _ (heap_setCell_same _ _ _ _ _ _ hg), ?_⟩
  rw [Array.toList_setIfInBounds, Array.toList_setIfInBounds, List.length_set, take_setQ, take_setQ, ht, cellsI_set]
theorem rowI_own {w : World} {base : Nat} {o : Option Addr} {l : List ItemP} {cap : Nat} (h : w.ownsRow base 88 2 (.slice o l.length cap) l.length (cellsI l)) (hn : 0 < l.length) : ∃ g, o = some ⟨g, 0, none⟩ ∧ base ≤ g ∧ RowI w g l := by
  rcases h.2 with ⟨_, h0⟩ | ⟨g, cap', cur, e, hb, hg, _, _, _, htake⟩
  · omega
  · obtain ⟨rfl, rfl⟩ : o = some ⟨g, 0, none⟩ ∧ cap = cap' := by simpa using e
    exact ⟨g, rfl, hb, cur, hg, htake⟩
theorem RowI.atI {W : World} {g : Nat} {l : List ItemP} (h : RowI W g l) : AtI W (some ⟨g, 0, none⟩) l := fun _ => ⟨g, 0, rfl, fun j x hx => by rw [Nat.zero_add]; exact h.at hx⟩
def Sw (l c : List ItemP) (k : Nat) : Prop := c.length = l.length ∧ ∀ p, p < l.length → c[p]? = if p < k ∨ l.length ≤ p + k then l[l.length - 1 - p]? else l[p]?
theorem Sw.zero (l : List ItemP) : Sw l l 0 := ⟨rfl, fun p hp => by rw [if_neg (by omega)]⟩
theorem Sw.step {l c : List ItemP} {k j : Nat} (h : Sw l c k) (hj : k + j + 1 = l.length) (hk : k < j) {x y : ItemP} (hx : c[k]? = some x) (hy : c[j]? = some y) : Sw l ((c.set k y).set j x) (k + 1) := by
  obtain ⟨h1, h2⟩ := h
  refine ⟨by simp [h1], fun p hp => ?_⟩
  have ek := h2 k (by omega)
  rw [if_neg (by omega)] at ek
  have ej := h2 j (by omega)
  rw [if_neg (by omega)] at ej
  rw [List.getElem?_set, List.getElem?_set, List.length_set]
  by_cases p1 : j = p
  · subst p1
    rw [if_pos rfl, if_pos (by omega), if_pos (by omega), show l.length - 1 - j = k from by omega, ← ek, hx]
  · rw [if_neg p1]
    by_cases p2 : k = p
    · subst p2
      rw [if_pos rfl, if_pos (by omega), if_pos (by omega), show l.length - 1 - k = j from by omega, ← ej, hy]
    · rw [if_neg p2, h2 p hp]
      by_cases p3 : p < k ∨ l.length ≤ p + k
      · rw [if_pos p3, if_pos (by omega)]
      · rw [if_neg p3, if_neg (by omega)]
theorem Sw.done {l c : List ItemP} {k j : Nat} (h : Sw l c k) (hj : k + j + 1 = l.length) (hk : j ≤ k) : c = l.reverse := by
  obtain ⟨h1, h2⟩ := h
  apply List.ext_getElem?
  intro p
  rcases Nat.lt_or_ge p l.length with hp | hp
  · rw [h2 p hp, List.getElem?_reverse hp]
    by_cases p3 : p < k ∨ l.length ≤ p + k
    · rw [if_pos p3]
    · rw [if_neg p3, show l.length - 1 - p = p from by omega]
  · rw [List.getElem?_eq_none (by omega), List.getElem?_eq_none (by rw [List.length_reverse]; omega)]
set_option maxRecDepth 100000 in
set_option maxHeartbeats 4000000 in
theorem reverse_any (g : Nat) (l : List ItemP) (cap : Nat) (hn : l.length ≤ 100000) (h0 : 0 < l.length) (w : World) (h : RowI w g l) :
    Calls Tryz.prog 90 #[.slice (some ⟨g, 0, none⟩) l.length cap] w fun e w' => (∃ v, e = .returned v) ∧ RowI w' g l.reverse ∧ Moves (fun k => k = g) w w' := by
  obtain ⟨n, hnn⟩ : ∃ n, l.length = n := ⟨_, rfl⟩
  rw [hnn] at hn h0 ⊢
  have HN := Lib.hid hnn
  have HH := Lib.hid h
  obtain ⟨m, hm⟩ : ∃ m, m + 1 = n := ⟨n - 1, by omega⟩
  have hw1 : IntKind.i64.wrap (((n : Nat) : Int) - 1) = ((m : Nat) : Int) := by rw [show ((n : Nat) : Int) - 1 = ((m : Nat) : Int) from by omega]; exact wrap_id (by omega) (by omega)
  obtain ⟨P, hP⟩ : ∃ P, (fun (e : Ending) w' => (∃ v, e = .returned v) ∧ RowI w' g l.reverse ∧ Moves (fun k => k = g) w w') = P := ⟨_, rfl⟩
  have HP := Lib.hid hP
  rw [hP]
  have HM := Lib.hid hm
  clear hnn h hP hm
  go_enter Tryz.func90, Tryz.ntmps90
  go_wp2_with fail
  go_loopg [2, 3] n (fun k v u wr => ∃ (i j : Nat) (c : List ItemP), v = .int .i64 (i : Nat) ∧ u = .int .i64 (j : Nat) ∧ i + j + 1 = n ∧ k = n - i ∧ i ≤ j + 1 ∧ Hid (Sw l c i) ∧ Hid (RowI wr g c) ∧ Hid (Moves (fun k => k = g) w wr))
  case atStart => exact ⟨0, m, l, rfl, rfl, by have := HM.out; omega, rfl, by omega, Lib.hid (Sw.zero l), HH, Lib.hid (Moves.refl _ _)⟩
  case round =>
    clear hw1
    obtain ⟨i, j, c, rfl, rfl, hij, rfl, hle, HS, HR, HV⟩ := hrel
    rcases Nat.lt_or_ge i j with hlt | hge
    · have hcl : c.length = n := by rw [HS.out.1, HN.out]
      obtain ⟨x, hx⟩ : ∃ x, c[i]? = some x := ⟨_, List.getElem?_eq_getElem (by omega)⟩
      obtain ⟨y, hy⟩ : ∃ y, c[j]? = some y := ⟨_, List.getElem?_eq_getElem (by omega)⟩
      obtain ⟨k0, k1⟩ := HR.out.at hx
      obtain ⟨m0, m1⟩ := HR.out.at hy
      have hgl := HR.out.lt
      have f0 := HR.out.frozen (i * 2)
      have f1 := HR.out.frozen (i * 2 + 1)
      have f2 := HR.out.frozen (j * 2)
      have f3 := HR.out.frozen (j * 2 + 1)
      have HS2 := Lib.hid (HS.out.step (by rw [HN.out]; exact hij) hlt hx hy)
      have HR2 := Lib.hid ((HR.out.set i y).set j x)
      have hin : i < n := by omega
      have hjn : j < n := by omega
      have hi6 : i < 100000 := by omega
      have hw2 : IntKind.i64.wrap (((j : Nat) : Int) - 1) = (((j - 1 : Nat) : Nat) : Int) := by rw [show ((j : Nat) : Int) - 1 = ((j - 1 : Nat) : Int) from by omega]; exact wrap_id (by omega) (by omega)
      obtain ⟨a, ha⟩ := x
      obtain ⟨b, hb⟩ := y
      simp only at k0 k1 m0 m1 HR2
      clear hx hy hcl
      go_wp2_with fail
      go_region
      go_wp2
      go_roundg (n - (i + 1))
      case measure => omega
      case rel => exact ⟨i + 1, j - 1, _, by simp, rfl, by omega, rfl, by omega, HS2, HR2, Lib.hid (Moves.drew (HV.out.trans ((((Moves.setCell (S := fun k => k = g) rfl).trans (Moves.setCell (S := fun k => k = g) rfl)).trans (Moves.setCell (S := fun k => k = g) rfl)).trans (Moves.setCell (S := fun k => k = g) rfl))))⟩
    · obtain rfl : c = l.reverse := HS.out.done (by rw [HN.out]; exact hij) hge
      go_wp2
      go_end0
      rw [← HP.out]
      exact ⟨⟨_, rfl⟩, HR.out, HV.out⟩
theorem reverse_none (o : Option Addr) (cap : Nat) (w : World) :
    Calls Tryz.prog 90 #[.slice o 0 cap] w fun e w' => (∃ v, e = .returned v) ∧ w = w' := by
  go_enter Tryz.func90, Tryz.ntmps90
  go_wp2_with fail
  refine wp_loop_rounds 1 ?_
  rw [rounds_succ]
  go_wp2
  go_end0
  exact ⟨⟨_, rfl⟩, rfl⟩
def CloneQ (l : List ItemP) (w : World) (e : Ending) (w' : World) : Prop := ∃ o' cap', e = .returned (.slice o' l.length cap') ∧ w'.ownsRow w.heap.size 88 2 (.slice o' l.length cap') l.length (cellsI l) ∧ Below w.heap.size w w'
set_option maxRecDepth 100000 in
set_option maxHeartbeats 2000000 in
theorem clone_any (o : Option Addr) (l : List ItemP) (cap : Nat) (hn : l.length ≤ 1000) (w : World) (hA : AtI w o l) : Calls Tryz.prog 89 #[.slice o l.length cap] w (CloneQ l w) := by
  cases o with
  | none =>
    have h0 : l.length = 0 := by
      rcases Nat.eq_zero_or_pos l.length with h | h
      · exact h
      · obtain ⟨g, off, e, _⟩ := hA h
        cases e
    obtain rfl := List.eq_nil_of_length_eq_zero h0
    have HQ : Hid (CloneQ [] w (.returned (.slice none 0 0)) w) := Lib.hid ⟨none, 0, rfl, World.ownsRow_nil _ _ _ _, Below.refl _ _⟩
    have q22 : ∀ (w : World) (a : Option Addr) (n c n' c' : Nat), (binOp .eql 47 (.slice a n c) (.slice none n' c')).run Tryz.prog w = .ok (.bool a.isNone) w := fun w a n c n' c' => Lib.run_eql_slice_nil w _ _ a n c n' c' Tryz.underlying47
    go_enter Tryz.func89, Tryz.ntmps89
    go_wp2
    go_ret
    exact HQ.out
  | some a =>
    obtain ⟨Y, hY⟩ : ∃ Y, w.alloc (.cells #[] 88) = Y := ⟨_, rfl⟩
    have bY : Below w.heap.size w Y := by rw [← hY]; exact (Below.refl _ _).alloc (Nat.le_refl _) _
    have ho : Y.ownsRow w.heap.size 88 2 (.slice (some ⟨w.heap.size, 0, none⟩) 0 0) 0 [] := ⟨rfl, .inr ⟨w.heap.size, 0, #[], rfl, Nat.le_refl _, by rw [← hY]; exact heap_alloc_new _ _, Nat.le_refl _, by unfold maxLen; omega, rfl, rfl⟩⟩
    obtain ⟨o', cap', w6, hr, h2, h3, h4⟩ := its_own l (some a) cap (hA.below bY) ho (by omega) bY.size
    rw [Nat.zero_add, List.nil_append] at h2
    have b6 : Below w.heap.size w w6 := Moves.below bY bY.size (moves_grownQ h3) (fun k e => by
      simp only [Value.ownBlock, Option.some.injEq] at e
      omega)
    have HQ : Hid (CloneQ l w (.returned (.slice o' l.length cap')) w6) := Lib.hid ⟨o', cap', rfl, h2, b6⟩
    obtain ⟨n, hn'⟩ : ∃ n, l.length = n := ⟨_, rfl⟩
    rw [Nat.zero_add] at hr
    rw [hn'] at hr HQ ⊢
    rw [← hY] at hr
    clear hY bY ho h2 h3 h4 b6 hA hn
    have q22 : ∀ (w : World) (a : Option Addr) (n c n' c' : Nat), (binOp .eql 47 (.slice a n c) (.slice none n' c')).run Tryz.prog w = .ok (.bool a.isNone) w := fun w a n c n' c' => Lib.run_eql_slice_nil w _ _ a n c n' c' Tryz.underlying47
    go_enter Tryz.func89, Tryz.ntmps89
    go_wp2
    go_ret
    exact HQ.out
end Go.Proofs.YtgcapoejieolnaaGreatDoor
namespace Go.Proofs.YtgcapoejieolnaaGreatDoor
open Go.RowKit Go.Shelf Go.Maps
attribute [local go_sem] Oper.semAt_some

abbrev patC (start : Bool) (o : Option Addr) (n cap : Nat) : Array Value := #[.bool start, .slice o n cap]
abbrev patV (start : Bool) (o : Option Addr) (n cap : Nat) : Value := .agg (patC start o n cap)
abbrev patO (start : Bool) (o : Option Addr) (n cap : Nat) : Obj := .cells (patC start o n cap) 49 (0, 0)
theorem pat_cells {w : World} {k : Nat} {start : Bool} {o : Option Addr} {n cap : Nat} (h : w.heap[k]? = some (patO start o n cap)) : w.cell? ⟨k, 0, none⟩ = some (.bool start) ∧ w.cell? ⟨k, 1, none⟩ = some (.slice o n cap) := row_cells h
theorem isHow_any (h : Int) (w : World) : Calls Tryz.prog 88 #[.int .i64 h] w fun e w' => e = .returned (.bool (decide (h = 0 ∨ h = 1 ∨ h = 2))) ∧ w = w' := by
  by_cases h0 : h = 0
  · subst h0
    go_enter Tryz.func88, Tryz.ntmps88
    go_wp2
    go_ret
    exact ⟨rfl, rfl⟩
  by_cases h1 : h = 1
  · subst h1
    go_enter Tryz.func88, Tryz.ntmps88
    go_wp2
    go_ret
    exact ⟨rfl, rfl⟩
  by_cases h2 : h = 2
  · subst h2
    go_enter Tryz.func88, Tryz.ntmps88
    go_wp2
    go_ret
    exact ⟨rfl, rfl⟩
  have hd : decide (h = 0 ∨ h = 1 ∨ h = 2) = false := decide_eq_false (by omega)
  rw [hd]
  clear hd
  go_enter Tryz.func88, Tryz.ntmps88
  go_wp2
  go_ret
  exact ⟨rfl, rfl⟩
def goodI (m : Int) (x : ItemP) : Prop := rightZ x.1 m = true ∧ (x.2 = 0 ∨ x.2 = 1 ∨ x.2 = 2)
theorem rightB_not {xs : List ItemP} {m : Int} (h : ¬ ((1 ≤ m ∧ m ≤ 32) ∧ xs.length ≤ 10)) : rightB xs m = false := by
  rw [Bool.eq_false_iff]
  intro e
  obtain ⟨h1, h2, _⟩ := rightB_parts e
  exact h ⟨h1, h2⟩
theorem rightB_bad {xs : List ItemP} {m : Int} {j : Nat} {x : ItemP} (hx : xs[j]? = some x) (h : ¬ goodI m x) : rightB xs m = false := by
  rw [Bool.eq_false_iff]
  intro e
  exact h ((rightB_parts e).2.2 x (List.mem_of_getElem? hx))
set_option maxRecDepth 100000 in
set_option maxHeartbeats 4000000 in
theorem Right_anyQ (start : Bool) (o : Option Addr) (xs : List ItemP) (cap : Nat) (m : Int) (hn : xs.length ≤ 1000000) (w : World) (hA : AtI w o xs) :
    Calls Tryz.prog 53 #[patV start o xs.length cap, .int .i64 m] w fun e w' => e = .returned (.bool (rightB xs m)) ∧ Below w.heap.size w w' := by
  obtain ⟨n, hnn⟩ : ∃ n, xs.length = n := ⟨_, rfl⟩
  rw [hnn] at hn ⊢
  obtain ⟨P, hP⟩ : ∃ P, (fun (e : Ending) w' => e = .returned (.bool (rightB xs m)) ∧ Below w.heap.size w w') = P := ⟨_, rfl⟩
  have HP := Lib.hid hP
  rw [hP]
  have A0 : Below w.heap.size w (w.alloc (patO start o n cap)) := (Below.refl _ _).alloc (Nat.le_refl _) _
  have HA0 := Lib.hid A0
  have NO : ¬ ((1 ≤ m ∧ m ≤ 32) ∧ xs.length ≤ 10) → P (.returned (.bool false)) (w.alloc (patO start o n cap)) := fun h => by
    rw [← HP.out]
    exact ⟨by rw [rightB_not h], A0⟩
  have HN := Lib.hid hnn
  have HA := Lib.hid (hA.below A0)
  have HK := Lib.hid (fun s W => Right_anyK s m W)
  have HH := Lib.hid (fun h W => isHow_any h W)
  by_cases m1 : m < 1
  · have HQ := Lib.hid (NO (by omega))
    clear hnn hA hP A0 NO
    go_enter Tryz.func53, Tryz.ntmps53
    go_wp2
    exact HQ.out
  by_cases m2 : 32 < m
  · have HQ := Lib.hid (NO (by omega))
    clear hnn hA hP A0 NO
    go_enter Tryz.func53, Tryz.ntmps53
    go_wp2
    exact HQ.out
  by_cases m3 : 10 < n
  · have HQ := Lib.hid (NO (by omega))
    have m4 : (10 : Int) < ((n : Nat) : Int) := by omega
    clear hnn hA hP A0 NO
    go_enter Tryz.func53, Tryz.ntmps53
    go_wp2
    exact HQ.out
  have m4 : ¬ (10 : Int) < ((n : Nat) : Int) := by omega
  clear hnn hA hP A0 NO
  go_enter Tryz.func53, Tryz.ntmps53
  go_wp2_with fail
  go_loopg [22] n (fun k v wr => ∃ (j : Nat), v = .int .i64 (j : Nat) ∧ j ≤ n ∧ k = n - j ∧ Hid (∀ x ∈ xs.take j, goodI m x) ∧ Hid (Below w.heap.size w wr) ∧ Hid (Below (w.alloc (patO start o n cap)).heap.size (w.alloc (patO start o n cap)) wr))
  case atStart => exact ⟨0, rfl, Nat.zero_le _, rfl, Lib.hid (fun x h => by simp at h), HA0, Lib.hid (Below.refl _ _)⟩
  case round =>
    obtain ⟨j, rfl, hj, rfl, HI, HB, HB0⟩ := hrel
    rcases Nat.lt_or_ge j n with hlt | hge
    · have hj1 : j < 1000000 := by omega
      obtain ⟨x, hx⟩ : ∃ x, xs[j]? = some x := ⟨_, List.getElem?_eq_getElem (by rw [HN.out]; exact hlt)⟩
      obtain ⟨g, off, rfl, hc⟩ := (HA.out.below HB0.out) (by rw [HN.out]; omega)
      obtain ⟨k0, k1⟩ := hc j x hx
      have hg := World.block_lt_of_cell? wr _ k0
      have HX := Lib.hid hx
      have hbb : Below wr.heap.size wr (wr.alloc (itO x)) := (Below.refl _ _).alloc (Nat.le_refl _) _
      have R1 := Lib.hid (heap_alloc_new wr (itO x))
      have HB1 := Lib.hid (HB.out.trans (hbb.mono HB.out.size))
      have HB2 := Lib.hid (HB0.out.trans (hbb.mono HB0.out.size))
      obtain ⟨s, h⟩ := x
      simp only at k0 k1
      clear hc hx hbb
      go_wp2_with fail
      refine (HK.out s _).mono ?_
      rintro e w2 ⟨rfl, b2⟩
      obtain ⟨q0, q1⟩ := row_cells (row_below R1.out b2)
      have HC1 := Lib.hid (HB1.out.trans (b2.mono HB1.out.size))
      have HC2 := Lib.hid (HB2.out.trans (b2.mono HB2.out.size))
      clear b2 k0 k1
      cases hr : rightZ s m with
      | false =>
        have HQ : Hid (P (.returned (.bool false)) w2) := by
          rw [← HP.out]
          exact Lib.hid ⟨by rw [rightB_bad HX.out (fun h => by have h1 := h.1; simp only at h1; rw [hr] at h1; cases h1)], HC1.out⟩
        clear hr
        go_wp2
        exact HQ.out
      | true =>
        cases hh : decide (h = 0 ∨ h = 1 ∨ h = 2) with
        | false =>
          have HQ : Hid (P (.returned (.bool false)) w2) := by
            rw [← HP.out]
            exact Lib.hid ⟨by rw [rightB_bad HX.out (fun h => (of_decide_eq_false hh) h.2)], HC1.out⟩
          have HH1 : Hid (Calls Tryz.prog 88 #[.int .i64 h] w2 fun e w' => e = .returned (.bool false) ∧ w2 = w') := by have := HH.out h w2; rw [hh] at this; exact Lib.hid this
          clear hr hh
          go_wp2_with fail
          refine HH1.out.mono ?_
          rintro e w3 ⟨rfl, rfl⟩
          go_wp2
          exact HQ.out
        | true =>
          have HI2 : Hid (∀ x ∈ xs.take (j + 1), goodI m x) := Lib.hid fun y hy => by
            rw [List.take_add_one, HX.out] at hy
            rcases List.mem_append.1 hy with hy | hy
            · exact HI.out y hy
            · obtain rfl : y = (s, h) := by simpa using hy
              exact ⟨hr, of_decide_eq_true hh⟩
          have HH1 : Hid (Calls Tryz.prog 88 #[.int .i64 h] w2 fun e w' => e = .returned (.bool true) ∧ w2 = w') := by have := HH.out h w2; rw [hh] at this; exact Lib.hid this
          clear hr hh
          go_wp2_with fail
          refine HH1.out.mono ?_
          rintro e w3 ⟨rfl, rfl⟩
          go_wp2
          go_roundg (n - (j + 1))
          case measure => omega
          case rel => exact ⟨j + 1, by simp, by omega, rfl, HI2, HC1, HC2⟩
    · obtain rfl : j = n := by omega
      have hall : rightB xs m = true := rightB_of (by omega) (by rw [HN.out]; omega) fun x hx => HI.out x (by rw [List.take_of_length_le (by rw [HN.out]; exact Nat.le_refl _)]; exact hx)
      have HQ : Hid (P (.returned (.bool true)) wr) := by
        rw [← HP.out]
        exact Lib.hid ⟨by rw [hall], HB.out⟩
      clear hall
      go_wp2
      exact HQ.out
end Go.Proofs.YtgcapoejieolnaaGreatDoor
namespace Go.Proofs.YtgcapoejieolnaaGreatDoor
open Go.RowKit Go.Shelf Go.Maps
attribute [local go_sem] Oper.semAt_some

abbrev rnrC (st : Bool) (o : Option Addr) (n cap : Nat) (m : Value) : Array Value := #[.bool st, .slice o n cap, m]
abbrev rnrV (st : Bool) (o : Option Addr) (n cap : Nat) (m : Value) : Value := .agg (rnrC st o n cap m)
abbrev rnrO (st : Bool) (o : Option Addr) (n cap : Nat) (m : Value) : Obj := .cells (rnrC st o n cap m) 215 (0, 0)
theorem rnr_cells {w : World} {k : Nat} {st : Bool} {o : Option Addr} {n cap : Nat} {m : Value} (h : w.heap[k]? = some (rnrO st o n cap m)) :
    w.cell? ⟨k, 0, none⟩ = some (.bool st) ∧ w.cell? ⟨k, 1, none⟩ = some (.slice o n cap) ∧ w.cell? ⟨k, 2, none⟩ = some m :=
  ⟨cell_of_row _ _ 0 _ _ _ h, cell_of_row _ _ 1 _ _ _ h, cell_of_row _ _ 2 _ _ _ h⟩
theorem last_any (st : Bool) (o : Option Addr) (n cap : Nat) (m : Option Nat) (hn : n ≤ 1000) (w : World) :
    Calls Tryz.prog 178 #[rnrV st o n cap (.map m)] w fun e w' => e = .returned (.int .i64 ((2 * n : Nat) : Int)) ∧ Below w.heap.size w w' := by
  have hm : wrap64 (2 * ((n : Nat) : Int)) = ((2 * n : Nat) : Int) := by unfold wrap64; omega
  have b1 : Below w.heap.size w (w.alloc (rnrO st o n cap (.map m))) := (Below.refl _ _).alloc (Nat.le_refl _) _
  have HB := Lib.hid b1
  clear b1
  go_enter Tryz.func178, Tryz.ntmps178
  go_wp2_with fail
  first | (go_ret; exact ⟨by first | rfl | simp, HB.out⟩) | exact ⟨by simp, HB.out⟩
set_option maxRecDepth 100000 in
set_option maxHeartbeats 2000000 in
theorem doneR_any (st : Bool) (o : Option Addr) (n cap : Nat) (m : Option Nat) (hn : n ≤ 10) (x : Nat) (hx : x < 2 ^ 32) (w : World) :
    Calls Tryz.prog 166 #[rnrV st o n cap (.map m), .int .i64 (x : Nat)] w fun e w' => e = .returned (.bool (x.testBit (2 * n))) ∧ Below w.heap.size w w' := by
  obtain ⟨w1, hw1⟩ : ∃ w1, w.alloc (rnrO st o n cap (.map m)) = w1 := ⟨_, rfl⟩
  have b1 : Below w.heap.size w w1 := by rw [← hw1]; exact (Below.refl _ _).alloc (Nat.le_refl _) _
  have r1 : w1.heap[w.heap.size]? = some (rnrO st o n cap (.map m)) := by rw [← hw1]; exact heap_alloc_new _ _
  have HL := Lib.hid (last_any st o n cap m (by omega) w1)
  obtain ⟨c0, c1, c2⟩ := rnr_cells r1
  obtain ⟨k, hk⟩ : ∃ k, 2 * n = k := ⟨_, rfl⟩
  have HH := Lib.hid (fun W => hasS_any x k hx (by omega) W)
  obtain ⟨b, hb⟩ : ∃ b, x.testBit k = b := ⟨_, rfl⟩
  rw [hb] at HH
  rw [hk] at HL ⊢
  rw [hb]
  have HB := Lib.hid b1
  have HW := Lib.hid hw1
  clear hw1 b1 r1 hk hb hx hn
  go_enter Tryz.func166, Tryz.ntmps166
  go_wp2_with fail
  rw [HW.out]
  refine HL.out.mono ?_
  rintro e w2 ⟨rfl, b2⟩
  have HB2 := Lib.hid (HB.out.trans (b2.mono HB.out.size))
  clear b2
  go_wp2_with fail
  refine (HH.out _).mono ?_
  rintro e _ ⟨rfl, rfl⟩
  go_wp2
  first | exact ⟨rfl, HB2.out⟩ | (go_ret; exact ⟨rfl, HB2.out⟩)
theorem num_new {w : World} {v : Int} {g : Nat} (h : w.heap[g]? = some (.cells #[.int .i64 v] 3 (0, 0))) : NumsAt w (some ⟨g, 0, none⟩) [v] := fun _ =>
  ⟨g, 0, rfl, fun j x hx => by
    match j, hx with
    | 0, hx => cases hx; exact cell_of_row _ _ 0 _ _ _ h
    | j + 1, hx => simp at hx⟩
set_option maxRecDepth 100000 in
set_option maxHeartbeats 2000000 in
theorem mostR_any (st : Bool) (o : Option Addr) (n cap : Nat) (m : Option Nat) (hn : n ≤ 10) (w : World) :
    Calls Tryz.prog 176 #[rnrV st o n cap (.map m)] w fun e w' => e = .returned (.int .i64 ((2 ^ (2 * n + 1) - 1 : Nat) : Int)) ∧ Below w.heap.size w w' := by
  obtain ⟨w1, hw1⟩ : ∃ w1, w.alloc (rnrO st o n cap (.map m)) = w1 := ⟨_, rfl⟩
  have b1 : Below w.heap.size w w1 := by rw [← hw1]; exact (Below.refl _ _).alloc (Nat.le_refl _) _
  have r1 : w1.heap[w.heap.size]? = some (rnrO st o n cap (.map m)) := by rw [← hw1]; exact heap_alloc_new _ _
  have HL := Lib.hid (last_any st o n cap m (by omega) w1)
  obtain ⟨c0, c1, c2⟩ := rnr_cells r1
  obtain ⟨k, hk⟩ : ∃ k, 2 * n = k := ⟨_, rfl⟩
  rw [hk] at HL ⊢
  have hk32 : k + 1 < 32 := by omega
  have hp := two_32 (show k + 1 ≤ 32 by omega)
  have hp1 := two_pos (k + 1)
  have HS : Hid (∀ W : World, Calls Tryz.prog 180 #[.slice (some ⟨W.heap.size, 0, none⟩) 1 1] (W.alloc (.cells #[.int .i64 ((k : Nat) + 1)] 3 (0, 0))) fun e w' => e = .returned (.int .i64 ((2 ^ (k + 1) : Nat) : Int)) ∧ (W.alloc (.cells #[.int .i64 ((k : Nat) + 1)] 3 (0, 0))) = w') := Lib.hid fun W => by
    have := setOf_any (some ⟨W.heap.size, 0, none⟩) [k + 1] 1 (by simp) (by simpa using hk32) (W.alloc (.cells #[.int .i64 ((k : Nat) + 1)] 3 (0, 0))) (num_new (heap_alloc_new _ _))
    have e : setOfN [k + 1] = 2 ^ (k + 1) := by unfold setOfN orN; simp
    rw [e] at this
    exact this
  obtain ⟨p, hpp⟩ : ∃ p, 2 ^ (k + 1) = p := ⟨_, rfl⟩
  rw [hpp] at HS hp hp1 ⊢
  have HB := Lib.hid b1
  have HW := Lib.hid hw1
  clear hw1 b1 r1 hk hpp hn
  go_enter Tryz.func176, Tryz.ntmps176
  go_wp2_with fail
  rw [HW.out]
  refine HL.out.mono ?_
  rintro e w2 ⟨rfl, b2⟩
  have HB2 := Lib.hid (HB.out.trans (b2.mono HB.out.size))
  have b3 : Below w2.heap.size w2 (w2.alloc (.cells #[.int .i64 ((k : Nat) + 1)] 3 (0, 0))) := (Below.refl _ _).alloc (Nat.le_refl _) _
  have HB3 := Lib.hid (HB2.out.trans (b3.mono HB2.out.size))
  clear b2 b3
  go_wp2_with fail
  refine (HS.out w2).mono ?_
  rintro e _ ⟨rfl, rfl⟩
  have hsub : wrap64 (((p : Nat) : Int) - 1) = ((p - 1 : Nat) : Int) := by unfold wrap64; omega
  have hsub2 : ((p : Nat) : Int) - 1 = ((p - 1 : Nat) : Int) := by omega
  go_wp2
  first | exact ⟨by first | rfl | rw [hsub2], HB3.out⟩ | (go_ret; exact ⟨by first | rfl | rw [hsub2], HB3.out⟩)
def knowsB (n : Nat) (s : Int) : Bool := decide (0 ≤ s ∧ s ≤ ((2 ^ (2 * n + 1) - 1 : Nat) : Int))
set_option maxRecDepth 100000 in
set_option maxHeartbeats 2000000 in
theorem knowsR_any (st : Bool) (o : Option Addr) (n cap : Nat) (m : Option Nat) (hn : n ≤ 10) (s : Int) (w : World) :
    Calls Tryz.prog 165 #[rnrV st o n cap (.map m), .int .i64 s] w fun e w' => e = .returned (.bool (knowsB n s)) ∧ Below w.heap.size w w' := by
  obtain ⟨w1, hw1⟩ : ∃ w1, w.alloc (rnrO st o n cap (.map m)) = w1 := ⟨_, rfl⟩
  have b1 : Below w.heap.size w w1 := by rw [← hw1]; exact (Below.refl _ _).alloc (Nat.le_refl _) _
  have r1 : w1.heap[w.heap.size]? = some (rnrO st o n cap (.map m)) := by rw [← hw1]; exact heap_alloc_new _ _
  have HM := Lib.hid (mostR_any st o n cap m hn w1)
  obtain ⟨c0, c1, c2⟩ := rnr_cells r1
  unfold knowsB
  obtain ⟨q, hq⟩ : ∃ q, 2 ^ (2 * n + 1) - 1 = q := ⟨_, rfl⟩
  rw [hq] at HM ⊢
  have HB := Lib.hid b1
  have HW := Lib.hid hw1
  clear hw1 b1 r1 hn hq
  by_cases h0 : 0 ≤ s
  · have d0 : decide ((0 : Int) ≤ s) = true := decide_eq_true h0
    obtain ⟨b, hb⟩ : ∃ b, decide (s ≤ ((q : Nat) : Int)) = b := ⟨_, rfl⟩
    have e : decide (0 ≤ s ∧ s ≤ ((q : Nat) : Int)) = b := by rw [← hb]; exact decide_eq_decide.2 ⟨fun h => h.2, fun h => ⟨h0, h⟩⟩
    rw [e]
    clear e
    go_enter Tryz.func165, Tryz.ntmps165
    go_wp2_with fail
    rw [HW.out]
    refine HM.out.mono ?_
    rintro e w2 ⟨rfl, b2⟩
    have HB2 := Lib.hid (HB.out.trans (b2.mono HB.out.size))
    clear b2
    go_wp2
    first | exact ⟨rfl, HB2.out⟩ | (go_ret; exact ⟨rfl, HB2.out⟩)
  · have d0 : decide ((0 : Int) ≤ s) = false := decide_eq_false h0
    rw [decide_eq_false (show ¬ (0 ≤ s ∧ s ≤ ((q : Nat) : Int)) from fun h => h0 h.1)]
    go_enter Tryz.func165, Tryz.ntmps165
    go_wp2_with fail
    rw [HW.out]
    first | exact ⟨rfl, HB.out⟩ | (go_ret; exact ⟨rfl, HB.out⟩)
end Go.Proofs.YtgcapoejieolnaaGreatDoor
namespace Go.Proofs.YtgcapoejieolnaaGreatDoor
open Go.RowKit Go.Extern.Stop Go.Stop Go.Extern

theorem isTypeOfQ (v : Value) (w : World) : (callFunc 108 #[.iface 237 v]).run Tryz.prog w = .ok (.value (.iface 188 (.agg #[.pointer (some ⟨8, 237, none⟩)]))) w := by kernel_rfl
theorem isComparableQ (w : World) : (callFunc 205 #[.agg #[.pointer (some ⟨8, 237, none⟩)]]).run Tryz.prog w = .ok (.value (.bool true)) w := by kernel_rfl
theorem isMethodComparableQ (v : Value) (w : World) : (Go.method 373 188 v "Comparable").run Tryz.prog w = .ok (205, v) w := by kernel_rfl
theorem isCompQ : (Tryz.prog.info? 237).map (·.comparable) = some true := by kernel_rfl
theorem isSizeQ : (Tryz.prog.info? 261).map (·.size) = some 1 := by kernel_rfl
theorem noIsEQ (v : Value) (xT : TypeId) (w : World) : (Instr.typeAssert (.iface 237 v) xT 190 true).run Tryz.prog w = .ok (.tuple #[.nilIface, .bool false]) w := run_typeAssert_lacksB Tryz.underlying190 (by kernel_rfl) (by kernel_rfl) v xT w
theorem noUnwrapEQ (v : Value) (xT : TypeId) (w : World) : (Instr.typeAssert (.iface 237 v) xT 193 true).run Tryz.prog w = .ok (.tuple #[.nilIface, .bool false]) w := run_typeAssert_lacksB Tryz.underlying193 (by kernel_rfl) (by kernel_rfl) v xT w
theorem noUnwrapsEQ (v : Value) (xT : TypeId) (w : World) : (Instr.typeAssert (.iface 237 v) xT 195 true).run Tryz.prog w = .ok (.tuple #[.nilIface, .bool false]) w := run_typeAssert_lacksB Tryz.underlying195 (by kernel_rfl) (by kernel_rfl) v xT w

abbrev errVQ (a : Addr) : Value := .iface 237 (.pointer (some a))

theorem is_sameQ (a : Addr) (w : World) :
    Calls Tryz.prog 69 #[errVQ a, errVQ a] w fun e w' => e = .returned (.bool true) ∧ w = w' := by
  obtain ⟨i, hi, hcmp⟩ := Option.map_eq_some_iff.1 isCompQ
  obtain ⟨j, hj, hjs⟩ := Option.map_eq_some_iff.1 isSizeQ
  have tT := isTypeOfQ
  have cT := isComparableQ
  have mR := isMethodComparableQ
  have heq := run_eql_iface_ptr_same (P := Tryz.prog) w a Tryz.underlying57 Tryz.underlying237 hi hcmp hj
  go_enter Tryz.func69, Tryz.ntmps69
  go_wp2
  refine wp_loop_rounds 1 ?_
  rw [rounds_succ]
  go_wp2
  go_ret
  exact ⟨rfl, rfl⟩

theorem is_nilQ (b : Addr) (w : World) :
    Calls Tryz.prog 69 #[.nilIface, errVQ b] w fun e w' => e = .returned (.bool false) ∧ w = w' := by
  have hn := run_eql_iface_nil_left (P := Tryz.prog) w 237 (.pointer (some b)) Tryz.underlying57
  go_enter Tryz.func69, Tryz.ntmps69
  go_wp2
  go_ret
  exact ⟨rfl, rfl⟩

theorem is_otherQ (a b : Addr) (ca cb : Array Value) (ta tb : TypeId) (w : World) (hne : a ≠ b) (ha : w.heap[a.block]? = some (.cells ca ta (0, 0))) (hb : w.heap[b.block]? = some (.cells cb tb (0, 0))) :
    Calls Tryz.prog 69 #[errVQ a, errVQ b] w fun e w' => e = .returned (.bool false) ∧ w = w' := by
  obtain ⟨i, hi, hcmp⟩ := Option.map_eq_some_iff.1 isCompQ
  obtain ⟨j, hj, hjs⟩ := Option.map_eq_some_iff.1 isSizeQ
  have tT := isTypeOfQ
  have cT := isComparableQ
  have mR := isMethodComparableQ
  have nE := noIsEQ
  have uE := noUnwrapEQ
  have vE := noUnwrapsEQ
  have heq := run_eql_iface_ptr_other (P := Tryz.prog) w Tryz.underlying57 Tryz.underlying237 hi hcmp hj (by rw [hjs]; decide) hne ha hb
  go_enter Tryz.func69, Tryz.ntmps69
  go_wp2
  refine wp_loop_rounds 1 ?_
  rw [rounds_succ]
  go_wp2
  go_ret
  exact ⟨rfl, rfl⟩

end Go.Proofs.YtgcapoejieolnaaGreatDoor
namespace Go.Proofs.YtgcapoejieolnaaGreatDoor
open Go.RowKit Go.Extern.Stop Go.Stop Go.Extern

structure GlobH (w : World) (aP aS : Addr) : Prop where
  pat : w.cell? ⟨5, 0, none⟩ = some (errVQ aP)
  sta : w.cell? ⟨6, 0, none⟩ = some (errVQ aS)
  ne : aP ≠ aS
  rowP : ∃ c t, w.heap[aP.block]? = some (.cells c t (0, 0))
  rowS : ∃ c t, w.heap[aS.block]? = some (.cells c t (0, 0))
  ltP : 5 < w.heap.size
  ltS : 6 < w.heap.size
  ltF : 7 < w.heap.size
  far0 : w.cell? ⟨7, 0, none⟩ = some (.int .i64 2)
  far1 : w.cell? ⟨7, 1, none⟩ = some (.int .i64 0)
  far2 : w.cell? ⟨7, 2, none⟩ = some (.int .i64 1)
theorem GlobH.lt_aP {w : World} {aP aS : Addr} (h : GlobH w aP aS) : aP.block < w.heap.size := by
  obtain ⟨c, t, hc⟩ := h.rowP
  exact (Array.getElem?_eq_some_iff.1 hc).1
theorem GlobH.lt_aS {w : World} {aP aS : Addr} (h : GlobH w aP aS) : aS.block < w.heap.size := by
  obtain ⟨c, t, hc⟩ := h.rowS
  exact (Array.getElem?_eq_some_iff.1 hc).1
theorem GlobH.keep {w w' : World} {aP aS : Addr} (h : GlobH w aP aS) (hs : w.heap.size ≤ w'.heap.size) (hb : ∀ k, k < w.heap.size → w'.heap[k]? = w.heap[k]?) : GlobH w' aP aS where
  pat := (World.cell?_of_block (w := w) (hb _ h.ltP)).trans h.pat
  sta := (World.cell?_of_block (w := w) (hb _ h.ltS)).trans h.sta
  ne := h.ne
  rowP := by obtain ⟨c, t, hc⟩ := h.rowP; exact ⟨c, t, (hb _ h.lt_aP).trans hc⟩
  rowS := by obtain ⟨c, t, hc⟩ := h.rowS; exact ⟨c, t, (hb _ h.lt_aS).trans hc⟩
  ltP := Nat.lt_of_lt_of_le h.ltP hs
  ltS := Nat.lt_of_lt_of_le h.ltS hs
  ltF := Nat.lt_of_lt_of_le h.ltF hs
  far0 := (World.cell?_of_block (w := w) (hb _ h.ltF)).trans h.far0
  far1 := (World.cell?_of_block (w := w) (hb _ h.ltF)).trans h.far1
  far2 := (World.cell?_of_block (w := w) (hb _ h.ltF)).trans h.far2
theorem GlobH.below {w w' : World} {aP aS : Addr} (h : GlobH w aP aS) (hb : Below w.heap.size w w') : GlobH w' aP aS := h.keep hb.size hb.block
theorem GlobH.drew {w : World} {aP aS : Addr} (h : GlobH w aP aS) : GlobH w.drew aP aS := h.keep (Nat.le_refl _) fun _ _ => rfl
theorem number_nilH {w : World} {aP aS : Addr} (h : GlobH w aP aS) : Calls Tryz.prog 137 #[.nilIface] w fun e w' => e = .returned (.int .i64 0) ∧ w = w' := by
  have hu := h.pat
  have hs := h.sta
  go_enter Tryz.func137, Tryz.ntmps137
  go_wp2_with fail
  refine (is_nilQ aP _).mono ?_
  rintro e w' ⟨rfl, rfl⟩
  go_wp2_with fail
  refine (is_nilQ aS _).mono ?_
  rintro e w' ⟨rfl, rfl⟩
  go_wp2
  go_ret
  exact ⟨rfl, rfl⟩
end Go.Proofs.YtgcapoejieolnaaGreatDoor
namespace Go.Proofs.YtgcapoejieolnaaGreatDoor
open Go.RowKit Go.Shelf Go.Maps
attribute [local go_sem] Oper.semAt_some

abbrev wayV (B : Nat) : Value := .func (.func 185) #[] #[.pointer (some ⟨B, 0, none⟩)]
theorem wayOf_any (x : ItemP) (w : World) : Calls Tryz.prog 184 #[itV x] w fun e w' => e = .returned (wayV w.heap.size) ∧ w.alloc (itO x) = w' := by
  go_enter Tryz.func184, Tryz.ntmps184
  go_wp2
  go_ret
  exact ⟨rfl, rfl⟩
def wayA (x : ItemP) (c : Int) (n : Nat) : Value := match wayH x c n with | some m => .tuple #[.int .i64 (m : Nat), .bool true] | none => .tuple #[.int .i64 0, .bool false]
set_option maxRecDepth 100000 in
set_option maxHeartbeats 4000000 in
theorem way1_any (x : ItemP) (B n : Nat) (c : Int) (hx : x.2 = 0 ∨ x.2 = 1 ∨ x.2 = 2) (hn : n ≤ 1000) (w : World) (aP aS : Addr) (hQ : GlobH w aP aS) (hB : w.heap[B]? = some (itO x)) :
    Calls Tryz.prog 185 #[.int .i64 (n : Nat), .int .i64 c, .pointer (some ⟨B, 0, none⟩)] w fun e w' => e = .returned (wayA x c n) ∧ Below w.heap.size w w' := by
  have HH := Lib.hid (Has_anyK x.1 c w)
  obtain ⟨k0, k1⟩ := it_cells hB
  obtain ⟨P, hP⟩ : ∃ P, (fun (e : Ending) w' => e = .returned (wayA x c n) ∧ Below w.heap.size w w') = P := ⟨_, rfl⟩
  have HP := Lib.hid hP
  rw [hP]
  have FIN : Hid (∀ W m, Below w.heap.size w W → wayH x c n = some m → P (.returned (.tuple #[.int .i64 (m : Nat), .bool true])) W) := Lib.hid fun W m hb h => by
    rw [← HP.out]
    refine ⟨?_, hb⟩
    unfold wayA
    rw [h]
  obtain ⟨s, h⟩ := x
  simp only at k0 k1 hx
  cases hh : hasZ s c with
  | false =>
    have HNO : Hid (∀ W, Below w.heap.size w W → P (.returned (.tuple #[.int .i64 0, .bool false])) W) := Lib.hid fun W hb => by
      rw [← HP.out]
      refine ⟨?_, hb⟩
      unfold wayA wayH
      rw [hh]
      rfl
    simp only at HH
    rw [hh] at HH
    clear hP hh hB hQ FIN
    go_enter Tryz.func185, Tryz.ntmps185
    go_wp2_with fail
    refine HH.out.mono ?_
    rintro e w2 ⟨rfl, b2⟩
    have HF := Lib.hid (HNO.out w2 b2)
    clear b2
    go_wp2
    first | exact HF.out | (go_ret; exact HF.out)
  | true =>
    simp only at HH
    rw [hh] at HH
    have hwy : ∀ m, wayH (s, h) c n = some m ↔ m = if n % 2 = 1 then n - 1 else n + farH h := fun m => by
      unfold wayH
      rw [if_pos hh]
      simp only [Option.some.injEq]
      exact eq_comm
    have HG := Lib.hid hQ
    by_cases ho : n % 2 = 1
    · have HY : Hid (∀ W, Below w.heap.size w W → P (.returned (.tuple #[.int .i64 ((n - 1 : Nat) : Int), .bool true])) W) := Lib.hid fun W hb => FIN.out W (n - 1) hb ((hwy _).2 (by rw [if_pos ho]))
      have r1 : (((n : Nat) : Int) % 2 == 1) = true := by rw [beq_iff_eq]; omega
      have r2 : Int.tmod ((n : Nat) : Int) 2 = 1 := by rw [Int.tmod_eq_emod_of_nonneg (by omega)]; omega
      have r3 : ((n : Nat) : Int) - 1 = ((n - 1 : Nat) : Int) := by omega
      obtain ⟨m, hm⟩ : ∃ m, n - 1 = m := ⟨_, rfl⟩
      have hsub : wrap64 (((n : Nat) : Int) - 1) = ((m : Nat) : Int) := by unfold wrap64; omega
      rw [hm] at HY r3
      clear hP hh hB hQ FIN hwy ho hm
      go_enter Tryz.func185, Tryz.ntmps185
      go_wp2_with fail
      refine HH.out.mono ?_
      rintro e w2 ⟨rfl, b2⟩
      have HF := Lib.hid (HY.out w2 b2)
      clear b2
      go_wp2
      try rw [r3]
      first | exact HF.out | (go_ret; exact HF.out)
    · have r1 : (((n : Nat) : Int) % 2 == 1) = false := by rw [beq_eq_false_iff_ne]; omega
      have r2 : Int.tmod ((n : Nat) : Int) 2 = 0 := by rw [Int.tmod_eq_emod_of_nonneg (by omega)]; omega
      have HY : Hid (∀ W, Below w.heap.size w W → P (.returned (.tuple #[.int .i64 ((n + farH h : Nat) : Int), .bool true])) W) := Lib.hid fun W hb => FIN.out W (n + farH h) hb ((hwy _).2 (by rw [if_neg ho]))
      rcases hx with rfl | rfl | rfl
      · have HY2 : Hid (∀ W, Below w.heap.size w W → P (.returned (.tuple #[.int .i64 (((n : Nat) : Int) + 2), .bool true])) W) := HY
        clear hP hh hB hQ FIN hwy ho HY
        go_enter Tryz.func185, Tryz.ntmps185
        go_wp2_with fail
        refine HH.out.mono ?_
        rintro e w2 ⟨rfl, b2⟩
        have HF := Lib.hid (HY2.out w2 b2)
        have g2 := HG.out.below b2
        have f0 := g2.far0
        have f1 := cell_keepQ b2 k1
        clear b2 g2 k0 k1
        go_wp2
        first | exact HF.out | (go_ret; exact HF.out)
      · have HY2 : Hid (∀ W, Below w.heap.size w W → P (.returned (.tuple #[.int .i64 ((n : Nat) : Int), .bool true])) W) := HY
        clear hP hh hB hQ FIN hwy ho HY
        go_enter Tryz.func185, Tryz.ntmps185
        go_wp2_with fail
        refine HH.out.mono ?_
        rintro e w2 ⟨rfl, b2⟩
        have HF := Lib.hid (HY2.out w2 b2)
        have g2 := HG.out.below b2
        have f0 := g2.far1
        have f1 := cell_keepQ b2 k1
        clear b2 g2 k0 k1
        go_wp2
        first | exact HF.out | (go_ret; exact HF.out)
      · have HY2 : Hid (∀ W, Below w.heap.size w W → P (.returned (.tuple #[.int .i64 (((n : Nat) : Int) + 1), .bool true])) W) := HY
        clear hP hh hB hQ FIN hwy ho HY
        go_enter Tryz.func185, Tryz.ntmps185
        go_wp2_with fail
        refine HH.out.mono ?_
        rintro e w2 ⟨rfl, b2⟩
        have HF := Lib.hid (HY2.out w2 b2)
        have g2 := HG.out.below b2
        have f0 := g2.far2
        have f1 := cell_keepQ b2 k1
        clear b2 g2 k0 k1
        go_wp2
        first | exact HF.out | (go_ret; exact HF.out)
end Go.Proofs.YtgcapoejieolnaaGreatDoor
namespace Go.Proofs.YtgcapoejieolnaaGreatDoor
open Go.RowKit Go.Shelf Go.Maps
attribute [local go_sem] Oper.semAt_some

def fits64 (x : ItemP) : Prop := (-9223372036854775808 ≤ x.1 ∧ x.1 ≤ 9223372036854775807) ∧ (-9223372036854775808 ≤ x.2 ∧ x.2 ≤ 9223372036854775807)
theorem itLaid : laidOutB Tryz.prog = true := by kernel_rfl
theorem itRow : 88 < Tryz.prog.types.size := of_decide_eq_true (by kernel_rfl)
theorem itKeyT : Tryz.prog.keyType 88 = true := by kernel_rfl
theorem itWide : (match Tryz.prog.underlying 88 with | some (.array _ _) | some (.struct _) => true | _ => false) = true := by kernel_rfl
set_option maxRecDepth 100000 in
theorem itLaw : WideMaps.KeyLaw Tryz.prog 88 := deep_law_laid itLaid (m := 3) (by omega) itRow (by kernel_rfl) itWide
theorem keyIt : Keyed Tryz.prog 88 := Keyed.of_law itLaw
def kI (x : ItemP) : Lit := .string (keyBytes [Lit.int .i64 x.1, Lit.int .i64 x.2])
theorem key_it {x : ItemP} (hx : fits64 x) : keyOf Tryz.prog 88 (itV x) = some (kI x) := by
  have e1 : IntKind.i64.min = -9223372036854775808 := by decide
  have e2 : IntKind.i64.max = 9223372036854775807 := by decide
  have w0 : (Lit.int .i64 x.1).wf = true := by have := hx.1; simp [Lit.wf, e1, e2]; omega
  have w1 : (Lit.int .i64 x.2).wf = true := by have := hx.2; simp [Lit.wf, e1, e2]; omega
  have k0 : ∀ d, Tryz.prog.keyLits (d + 1) 2 [.int .i64 x.1] = some [Lit.int .i64 x.1] := fun d => by
    unfold Program.keyLits
    simp only [Tryz.underlying2]
    rw [if_pos ⟨trivial, w0⟩]
  have k1 : ∀ d, Tryz.prog.keyLits (d + 1) 3 [.int .i64 x.2] = some [Lit.int .i64 x.2] := fun d => by
    unfold Program.keyLits
    simp only [Tryz.underlying3]
    rw [if_pos ⟨trivial, w1⟩]
  have hform : (Value.agg (itC x)).formed Tryz.prog 88 = true := by
    obtain ⟨a, b⟩ := x
    kernel_rfl
  have hsz : Tryz.prog.types.size = 273 := by kernel_rfl
  have hc0 : Tryz.prog.cellsOf 2 = 1 := by kernel_rfl
  have hc1 : Tryz.prog.cellsOf 3 = 1 := by kernel_rfl
  have hcI : Tryz.prog.cellsOf 88 = 2 := by kernel_rfl
  have hl : Tryz.prog.keyLits (Tryz.prog.types.size + 1) 88 (itC x).toList = some [Lit.int .i64 x.1, Lit.int .i64 x.2] := by
    rw [hsz]
    unfold Program.keyLits
    simp only [Tryz.underlying88]
    rw [if_pos ⟨by rw [hcI]; rfl, by kernel_rfl⟩]
    simp only [List.mapM_cons, List.mapM_nil, hc0, hc1, List.drop_zero, List.take_succ_cons, List.take_zero, List.drop_succ_cons, k0, k1]
    rfl
  unfold keyOf
  rw [Tryz.underlying88]
  simp only
  rw [if_pos (by rw [itKeyT, hform]; rfl), show (Value.agg (itC x)).cells.toList = (itC x).toList from rfl, hl]
  rfl
theorem kI_key (x : ItemP) : WideAt.IsKeyLit (kI x) := trivial
set_option maxRecDepth 100000 in
theorem kI_inj {x y : ItemP} (hx : fits64 x) (hy : fits64 y) (h : kI x = kI y) : x = y := by
  have h1 := key_it hx
  have h2 := key_it hy
  rw [← h] at h2
  have h3 := keyIt.inj h1 h2
  obtain ⟨a, b⟩ := x
  obtain ⟨c, d⟩ := y
  injection h3 with h3
  have h4 := congrArg Array.toList h3
  simp only [List.cons.injEq, Value.int.injEq, true_and, and_true] at h4
  rw [h4.1, h4.2]
theorem zeroWay (w : World) : (zeroValue 233).run Tryz.prog w = .ok .nilFunc w := by kernel_rfl
def WayMap (W : World) (M N : Nat) (X : Nat → Prop) : Prop := ∃ (D : DataW Value) (n : Nat), W.ownsMap Tryz.prog 88 heldQ M n D ∧ n ≤ N ∧
  ∀ x, fits64 x → has D (kI x) = false ∨ ∃ B, X B ∧ B < W.heap.size ∧ B ≠ M ∧ D.atKey (kI x) (.held .nilFunc) = .held (wayV B) ∧ has D (kI x) = true ∧ W.heap[B]? = some (itO x)
theorem WayMap.lt {W : World} {M N : Nat} {X : Nat → Prop} (h : WayMap W M N X) : M < W.heap.size := by
  obtain ⟨D, n, h, _⟩ := h
  exact h.lt
theorem WayMap.mono {W : World} {M N N' : Nat} {X X' : Nat → Prop} (h : WayMap W M N X) (hn : N ≤ N') (hX : ∀ k, X k → X' k) : WayMap W M N' X' := by
  obtain ⟨D, n, h1, h2, h3⟩ := h
  refine ⟨D, n, h1, by omega, fun x hx => ?_⟩
  rcases h3 x hx with h | ⟨B, hB, r⟩
  · exact .inl h
  · exact .inr ⟨B, hX B hB, r⟩
theorem WayMap.moves {W W' : World} {M N : Nat} {X S : Nat → Prop} (h : WayMap W M N X) (hm : Moves S W W') (hs : ¬ S M) (hx : ∀ k, X k → ¬ S k) : WayMap W' M N X := by
  obtain ⟨D, n, ⟨es, clock, hb, F⟩, h2, h3⟩ := h
  refine ⟨D, n, ⟨es, clock, (hm.block M (Array.getElem?_eq_some_iff.1 hb).1 hs).trans hb, F⟩, h2, fun x hx' => ?_⟩
  rcases h3 x hx' with h | ⟨B, hB, hl, r1, r2, r3, r4⟩
  · exact .inl h
  · exact .inr ⟨B, hB, Nat.lt_of_lt_of_le hl hm.size, r1, r2, r3, (hm.block B hl (hx B hB)).trans r4⟩
theorem WayMap.below {W W' : World} {M N : Nat} {X : Nat → Prop} (h : WayMap W M N X) (hb : Below W.heap.size W W') : WayMap W' M N X := h.moves (S := fun _ => False) (Moves.of_below hb) (fun h => h) fun _ _ h => h
theorem WayMap.made (w : World) : WayMap (w.alloc (.map #[] 0)) w.heap.size 0 fun _ => False := ⟨.map [], 0, World.ownsMap_made _ _ _ _, Nat.le_refl _, fun _ _ => .inl rfl⟩
theorem WayMap.more {W W' : World} {M N B : Nat} {X X' : Nat → Prop} {D : DataW Value} {n : Nat} {x : ItemP} (h1 : W.ownsMap Tryz.prog 88 heldQ M n D) (h2 : n ≤ N)
    (h3 : ∀ x, fits64 x → has D (kI x) = false ∨ ∃ B, X B ∧ B < W.heap.size ∧ B ≠ M ∧ D.atKey (kI x) (.held .nilFunc) = .held (wayV B) ∧ has D (kI x) = true ∧ W.heap[B]? = some (itO x))
    (ho : W'.ownsMap Tryz.prog 88 heldQ M (n + 1) (D.put (kI x) (.held (wayV B)))) (hg : W.grownBy W' (some M)) (hx : fits64 x) (hB : X' B) (hBl : B < W'.heap.size) (hBM : B ≠ M) (hBi : W'.heap[B]? = some (itO x)) (hX : ∀ k, X k → X' k) : WayMap W' M (N + 1) X' := by
  have hD := h1.isMap
  refine ⟨_, n + 1, ho, by omega, fun y hy => ?_⟩
  by_cases e : x = y
  · subst e
    exact .inr ⟨B, hB, hBl, hBM, atKey_put_same hD (kI_key x) _ _, has_put_same hD (kI_key x) _, hBi⟩
  · have hne : kI y ≠ kI x := fun h => e (kI_inj hx hy h.symm)
    rw [has_put_other hne, atKey_put_other hne]
    rcases h3 y hy with h | ⟨C, hC, hl, r1, r2, r3, r4⟩
    · exact .inl h
    · exact .inr ⟨C, hX C hC, Nat.lt_of_lt_of_le hl hg.size, r1, r2, r3, (hg.block C hl (fun e => r1 (Option.some.inj e))).trans r4⟩
end Go.Proofs.YtgcapoejieolnaaGreatDoor
namespace Go.Proofs.YtgcapoejieolnaaGreatDoor
open Go.RowKit Go.Shelf Go.Maps
attribute [local go_sem] Oper.semAt_some

def grownX (X : Nat → Prop) (w w' : World) (k : Nat) : Prop := X k ∨ (w.heap.size ≤ k ∧ k < w'.heap.size)
def WayQ (x : ItemP) (M N : Nat) (X : Nat → Prop) (w : World) (e : Ending) (w' : World) : Prop := ∃ B, e = .returned (wayV B) ∧ w'.heap[B]? = some (itO x) ∧ Moves (fun k => k = M) w w' ∧ WayMap w' M (N + 1) (grownX X w w')
theorem held_eq {v u : Value} {ps : List MemPlace} (h : heldQ v = some (.held u, ps)) : v = u := by
  unfold heldQ at h
  simp only [Option.some.injEq, Prod.mk.injEq, DataW.held.injEq] at h
  exact h.1
theorem moves_grownH {a b : World} {row : Option Nat} (h : a.grownBy b row) : Moves (fun k => row = some k) a b := ⟨h.os, h.tape, h.output, h.size, fun k hk hr => h.block k hk (fun e => hr e.symm)⟩
set_option maxRecDepth 100000 in
set_option maxHeartbeats 4000000 in
theorem way_any (st : Bool) (o : Option Addr) (n cap M N : Nat) (X : Nat → Prop) (x : ItemP) (hx : fits64 x) (hN : N ≤ 100000) (w : World) (hM : WayMap w M N X) :
    Calls Tryz.prog 182 #[rnrV st o n cap (.map (some M)), itV x] w (WayQ x M N X w) := by
  obtain ⟨wa, hwa⟩ : ∃ wa, w.alloc (rnrO st o n cap (.map (some M))) = wa := ⟨_, rfl⟩
  have ba : Below w.heap.size w wa := by rw [← hwa]; exact (Below.refl _ _).alloc (Nat.le_refl _) _
  have za : wa.heap.size = w.heap.size + 1 := by rw [← hwa]; simp
  have ra : wa.heap[w.heap.size]? = some (rnrO st o n cap (.map (some M))) := by rw [← hwa]; exact heap_alloc_new _ _
  obtain ⟨w1, hw1⟩ : ∃ w1, wa.alloc (itO x) = w1 := ⟨_, rfl⟩
  have b1' : Below wa.heap.size wa w1 := by rw [← hw1]; exact (Below.refl _ _).alloc (Nat.le_refl _) _
  have z1 : w1.heap.size = w.heap.size + 2 := by rw [← hw1]; simp; omega
  have r1 : w1.heap[w.heap.size + 1]? = some (itO x) := by rw [← hw1, ← za]; exact heap_alloc_new _ _
  have r0 := row_below ra b1'
  have b1 := ba.trans (b1'.mono ba.size)
  have hMl := hM.lt
  have hM1 := hM.below b1
  obtain ⟨P, hP⟩ : ∃ P, WayQ x M N X w = P := ⟨_, rfl⟩
  have HP := Lib.hid hP
  rw [hP]
  obtain ⟨c0, c1, c2⟩ := rnr_cells r0
  obtain ⟨k0, k1⟩ := it_cells r1
  obtain ⟨D, nn, hown, hle, hall⟩ := id hM1
  obtain ⟨v, ps, hlk, hv⟩ := hown.look_ok keyIt Tryz.underlying213 (zeroWay w1) (show heldQ .nilFunc = _ from rfl) (key_it hx)
  have HW : Hid (wa.alloc (itO x) = w1) := Lib.hid hw1
  have HWA := Lib.hid hwa
  rcases hall x hx with hno | ⟨B, hXB, hBl, hBM, hat, hhas, hBi⟩
  · have hat : D.atKey (kI x) (.held .nilFunc) = .held .nilFunc := by
      rcases hall x hx with h | ⟨B, _, _, _, _, h, _⟩
      · exact atKey_of_not_has hno _
      · rw [hno] at h; cases h
    rw [hat] at hv
    obtain rfl := held_eq hv
    rw [hno] at hlk
    obtain ⟨w2, hw2⟩ : ∃ w2, w1.alloc (itO x) = w2 := ⟨_, rfl⟩
    have b2 : Below w1.heap.size w1 w2 := by rw [← hw2]; exact (Below.refl _ _).alloc (Nat.le_refl _) _
    have z2 : w2.heap.size = w.heap.size + 3 := by rw [← hw2]; simp; omega
    have r2 : w2.heap[w1.heap.size]? = some (itO x) := by rw [← hw2]; exact heap_alloc_new _ _
    obtain ⟨w3, hup, hown3, hg3⟩ := (show w2.ownsMap Tryz.prog 88 heldQ M nn D by rw [← hw2]; exact hown.alloc _).update keyIt Tryz.underlying213 (by unfold maxLen; omega) (val := wayV w1.heap.size) (key_it hx) (show heldQ _ = _ from rfl)
    have hM3 : WayMap w3 M (N + 1) (grownX X w w3) := by
      refine WayMap.more (W := w2) (X := X) (by rw [← hw2]; exact hown.alloc _) hle (fun y hy => ?_) hown3 hg3 hx (.inr ⟨by omega, by have := hg3.size; omega⟩) (by have := hg3.size; omega) (by omega) ((hg3.block _ (by omega) (fun e => by have := Option.some.inj e; omega)).trans r2) (fun k h => .inl h)
      rcases hall y hy with h | ⟨C, hC, hl, q1, q2, q3, q4⟩
      · exact .inl h
      · exact .inr ⟨C, hC, by omega, q1, q2, q3, row_below q4 b2⟩
    have m3 : Moves (fun k => k = M) w w3 := (Moves.of_below (b1.trans (b2.mono b1.size))).trans ((moves_grownH hg3).mono fun k h => (Option.some.inj h).symm)
    have r3 : w3.heap[w1.heap.size]? = some (itO x) := (hg3.block _ (by omega) (fun e => by have := Option.some.inj e; omega)).trans r2
    have HF : Hid (P (.returned (wayV w1.heap.size)) w3) := by
      rw [← HP.out]
      exact Lib.hid ⟨_, rfl, r3, m3, hM3⟩
    have HC := Lib.hid (wayOf_any x w1)
    have HW2 := Lib.hid hw2
    have d2 := cell_keepQ b2 c2
    have e0 := cell_keepQ b2 k0
    have e1 := cell_keepQ b2 k1
    rw [← hw1, ← hwa] at hlk
    clear hP hwa ba za ra hw1 b1' z1 r1 r0 b1 hM hM1 hMl hall hno c0 c1 c2 k0 k1 hat hv hw2 b2 z2 r2 hown3 hg3 hM3 m3 r3 hown hle
    go_enter Tryz.func182, Tryz.ntmps182
    go_wp2_with fail
    rw [HWA.out, HW.out]
    refine HC.out.mono ?_
    rintro e w2' ⟨rfl, h2'⟩
    obtain rfl : w2 = w2' := HW2.out.symm.trans h2'
    clear h2'
    go_wp2
    first | exact HF.out | (go_ret; exact HF.out)
  · rw [hat] at hv
    obtain rfl := held_eq hv
    rw [hhas] at hlk
    have HF : Hid (P (.returned (wayV B)) w1) := by
      rw [← HP.out]
      exact Lib.hid ⟨_, rfl, hBi, Moves.of_below b1, hM1.mono (by omega) fun k h => .inl h⟩
    rw [← hw1, ← hwa] at hlk
    clear hP hwa ba za ra hw1 b1' z1 r1 r0 b1 hM hM1 hMl hall hat hhas c0 c1 c2 k0 k1 hv hown hle hXB hBl hBM hBi
    go_enter Tryz.func182, Tryz.ntmps182
    go_wp2_with fail
    rw [HWA.out, HW.out]
    first | exact HF.out | (go_ret; exact HF.out)
end Go.Proofs.YtgcapoejieolnaaGreatDoor
namespace Go.Proofs.YtgcapoejieolnaaGreatDoor
open Go.RowKit Go.Shelf Go.Maps
attribute [local go_sem] Oper.semAt_some

theorem close_lt {xs : List ItemP} {s : Nat} (h : s < 2 ^ (2 * xs.length + 1)) : ∀ j, j ≤ xs.length → closeN xs s j < 2 ^ (2 * xs.length + 1)
  | 0, _ => h
  | j + 1, hj => by
    have ih := close_lt h j (by omega)
    rw [closeN]
    split
    · split
      · exact or_two_lt ih (by omega)
      · exact ih
    · exact ih
theorem close_some {xs : List ItemP} {s j : Nat} {x : ItemP} (h : xs[j]? = some x) : closeN xs s (j + 1) = if (closeN xs s j).testBit (2 * j) = true ∧ x.2 ≠ 0 then closeN xs s j ||| 2 ^ (2 * j + 2) else closeN xs s j := by
  rw [closeN, h]
theorem setOf_one (k : Nat) (hk : k < 32) (W : World) : Calls Tryz.prog 180 #[.slice (some ⟨W.heap.size, 0, none⟩) 1 1] (W.alloc (.cells #[.int .i64 (k : Nat)] 3 (0, 0))) fun e w' => e = .returned (.int .i64 ((2 ^ k : Nat) : Int)) ∧ (W.alloc (.cells #[.int .i64 (k : Nat)] 3 (0, 0))) = w' := by
  have := setOf_any (some ⟨W.heap.size, 0, none⟩) [k] 1 (by simp) (by simpa using hk) (W.alloc (.cells #[.int .i64 (k : Nat)] 3 (0, 0))) (num_new (heap_alloc_new _ _))
  have e : setOfN [k] = 2 ^ k := by unfold setOfN orN; simp
  rw [e] at this
  exact this
set_option maxRecDepth 100000 in
set_option maxHeartbeats 4000000 in
theorem closed_any (st : Bool) (o lo : Option Addr) (xs : List ItemP) (cap lcap : Nat) (m : Option Nat) (l : List Nat) (hxl : xs.length ≤ 10) (hl : l.length ≤ 1000) (hlt : ∀ c ∈ l, c < 2 * xs.length + 1) (w : World) (hA : AtI w o xs) (hL : NumsAt w lo (natsZ l)) :
    Calls Tryz.prog 174 #[rnrV st o xs.length cap (.map m), .slice lo l.length lcap] w fun e w' => e = .returned (.int .i64 ((closedH xs (setOfN l) : Nat) : Int)) ∧ Below w.heap.size w w' := by
  obtain ⟨P, hP⟩ : ∃ P, (fun (e : Ending) w' => e = .returned (.int .i64 ((closedH xs (setOfN l) : Nat) : Int)) ∧ Below w.heap.size w w') = P := ⟨_, rfl⟩
  have HP := Lib.hid hP
  rw [hP]
  obtain ⟨w1, hw1⟩ : ∃ w1, w.alloc (rnrO st o xs.length cap (.map m)) = w1 := ⟨_, rfl⟩
  have b1 : Below w.heap.size w w1 := by rw [← hw1]; exact (Below.refl _ _).alloc (Nat.le_refl _) _
  have r1 : w1.heap[w.heap.size]? = some (rnrO st o xs.length cap (.map m)) := by rw [← hw1]; exact heap_alloc_new _ _
  obtain ⟨c0, c1, c2⟩ := rnr_cells r1
  have HS := Lib.hid (setOf_any lo l lcap hl (fun c hc => by have := hlt c hc; omega) w1 (hL.below b1))
  have s0 : setOfN l < 2 ^ (2 * xs.length + 1) := setOfN_lt hlt
  obtain ⟨s, hs⟩ : ∃ s, setOfN l = s := ⟨_, rfl⟩
  rw [hs] at HS HP s0
  have HLT : Hid (∀ j, j ≤ xs.length → closeN xs s j < 2 ^ 32) := Lib.hid fun j hj => Nat.lt_of_lt_of_le (close_lt s0 j hj) (Nat.pow_le_pow_right (by decide) (by omega))
  have HB1 := Lib.hid b1
  have HW1 := Lib.hid hw1
  have HA1 := Lib.hid (hA.below b1)
  obtain ⟨n, hn⟩ : ∃ n, xs.length = n := ⟨_, rfl⟩
  have HN := Lib.hid hn
  rw [hn] at hxl c1 HW1 HLT ⊢
  clear hP hw1 b1 r1 hA hL hl hlt hs s0 hn
  go_enter Tryz.func174, Tryz.ntmps174
  go_wp2_with fail
  rw [HW1.out]
  refine HS.out.mono ?_
  rintro e _ ⟨rfl, rfl⟩
  go_wp2_with fail
  go_loopg [5, 14] n (fun k' v5 v14 wr => ∃ (j z : Nat), v14 = .int .i64 (j : Nat) ∧ v5 = .int .i64 (z : Nat) ∧ Hid (z = closeN xs s j) ∧ j ≤ n ∧ k' = n - j ∧ Hid (Below w1.heap.size w1 wr))
  case atStart => exact ⟨0, s, rfl, rfl, Lib.hid rfl, Nat.zero_le _, rfl, Lib.hid (Below.refl _ _)⟩
  case round =>
    clear c0 c1 c2
    obtain ⟨j, z, rfl, rfl, HZ, hj, rfl, HB⟩ := hrel
    rcases Nat.lt_or_ge j n with hlt | hge
    · have hj6 : j < 1000000 := by omega
      obtain ⟨x, hx⟩ : ∃ x, xs[j]? = some x := ⟨_, List.getElem?_eq_getElem (by rw [HN.out]; exact hlt)⟩
      have hcs := close_some (s := s) hx
      rw [← HZ.out] at hcs
      obtain ⟨g, off, rfl, hc⟩ := (HA1.out.below HB.out) (by rw [HN.out]; omega)
      obtain ⟨k0, k1⟩ := hc j x hx
      have hz32 : z < 2 ^ 32 := by rw [HZ.out]; exact HLT.out j hj
      have hz32' := HLT.out (j + 1) hlt
      obtain ⟨q, hq⟩ : ∃ q, 2 * j = q := ⟨_, rfl⟩
      have hq32 : q + 2 < 32 := by omega
      have hqi : ((q : Nat) : Int) = 2 * ((j : Nat) : Int) := by omega
      have hqi2 : ((q + 2 : Nat) : Int) = 2 * ((j : Nat) : Int) + 2 := by omega
      have b2 : Below wr.heap.size wr (wr.alloc (itO x)) := (Below.refl _ _).alloc (Nat.le_refl _) _
      have HB2 := Lib.hid (HB.out.trans (b2.mono HB.out.size))
      have HH := Lib.hid (hasS_any z q hz32 (by omega) (wr.alloc (itO x)))
      rw [hqi] at HH
      rw [hq] at hcs
      have HCS := Lib.hid hcs
      obtain ⟨a, h⟩ := x
      simp only at k0 k1
      cases hb : z.testBit q with
      | false =>
        rw [hb] at HH
        have HZ2 : Hid (z = closeN xs s (j + 1)) := Lib.hid (by rw [HCS.out, hb, if_neg (fun h => by cases h.1)])
        clear hcs hc hx hq hqi hqi2 hb b2
        go_wp2_with fail
        refine HH.out.mono ?_
        rintro e _ ⟨rfl, rfl⟩
        go_wp2
        go_roundg (n - (j + 1))
        case measure => omega
        case rel => exact ⟨j + 1, z, by simp, rfl, HZ2, by omega, rfl, HB2⟩
      | true =>
        rw [hb] at HH
        by_cases h0 : h = 0
        · subst h0
          have HZ2 : Hid (z = closeN xs s (j + 1)) := Lib.hid (by rw [HCS.out, if_neg (fun h => h.2 rfl)])
          clear hcs hc hx hq hqi hqi2 hb b2
          go_wp2_with fail
          refine HH.out.mono ?_
          rintro e _ ⟨rfl, rfl⟩
          go_wp2
          go_roundg (n - (j + 1))
          case measure => omega
          case rel => exact ⟨j + 1, z, by simp, rfl, HZ2, by omega, rfl, HB2⟩
        · have h0b : (h == 0) = false := by simpa using h0
          have h0c : (h != 0) = true := by unfold bne; rw [h0b]; rfl
          have e2 := orK hz32 hq32
          have HZ2 : Hid (z ||| 2 ^ (q + 2) = closeN xs s (j + 1)) := Lib.hid (by rw [HCS.out, hb, if_pos ⟨rfl, h0⟩])
          have HSO := Lib.hid (setOf_one (q + 2) hq32 (wr.alloc (itO (a, h))))
          have b3 : Below wr.heap.size wr ((wr.alloc (itO (a, h))).alloc (.cells #[.int .i64 ((q + 2 : Nat) : Int)] 3 (0, 0))) := b2.alloc b2.size _
          have HB3 := Lib.hid (HB.out.trans (b3.mono HB.out.size))
          obtain ⟨p, hp⟩ : ∃ p, 2 ^ (q + 2) = p := ⟨_, rfl⟩
          rw [hp] at HSO e2 HZ2
          rw [hqi2] at HSO HB3
          rw [World.size_alloc] at HSO
          obtain ⟨y, hy⟩ : ∃ y, z ||| p = y := ⟨_, rfl⟩
          rw [hy] at e2 HZ2
          clear hcs hc hx hq hqi hqi2 hb b2 b3 hp hy h0
          go_wp2_with fail
          refine HH.out.mono ?_
          rintro e _ ⟨rfl, rfl⟩
          go_wp2_with fail
          with_reducible refine HSO.out.mono ?_
          rintro e _ ⟨rfl, rfl⟩
          go_wp2
          go_roundg (n - (j + 1))
          case measure => omega
          case rel => exact ⟨j + 1, y, by simp, rfl, HZ2, by omega, rfl, HB3⟩
    · obtain rfl : j = n := by omega
      have HQ : Hid (P (.returned (.int .i64 (z : Nat))) wr) := by
        rw [← HP.out]
        refine Lib.hid ⟨?_, HB1.out.trans (HB.out.mono HB1.out.size)⟩
        unfold closedH
        rw [HZ.out, HN.out]
      go_wp2
      first | exact HQ.out | (go_ret; exact HQ.out)
end Go.Proofs.YtgcapoejieolnaaGreatDoor
