/- A map of units by numbers: what it answers, what is stored; a unit held against none; mend's own error. upTo: the units up to the one that has a byte, by the places that key tells of them. -/
import Derived.Test.YthnfekilmiodpaaDoorBunUBad
import Derived.Test.YthnfekilmiodpaaDoorBunNext
import Derived.Laws.StructEq
import Derived.Laws.Cover3
import Derived.Test.YthnfekilmiodpaaDoorBunUnit
import Derived.Test.YthnfekilmiodpaaDoorBunUSeq
namespace Go.Proofs.YthnfekilmiodpaaDoor
open Go.RowKit

/-- The map's entries, one for each of xs, by the number that key tells. -/
def MapOf (key : Nat × Nat × Bool → Int) (xs : List (Nat × Nat × Bool)) (es : Array MapEntry) : Prop := es.toList.map (fun e => (e.key, e.val)) = xs.map fun x => (.int .i64 (key x), unitV x.1 x.2.1 x.2.2)

theorem findNow_none (key : Nat × Nat × Bool → Int) (k : Int) : ∀ (l : List MapEntry) (xs : List (Nat × Nat × Bool)) (i : Nat), l.map (fun e => (e.key, e.val)) = xs.map (fun x => (.int .i64 (key x), unitV x.1 x.2.1 x.2.2)) → (∀ x ∈ xs, key x ≠ k) →
    Instr.findNow (.int .i64) (.int .i64 k) l i = some none
  | [], [], i, _, _ => rfl
  | e :: l, x :: xs, i, h, hk => by
    simp only [List.map_cons, List.cons.injEq, Prod.mk.injEq] at h
    have h1 : (k == key x) = false := by simp; exact fun e => hk x List.mem_cons_self e.symm
    have := findNow_none key k l xs (i + 1) h.2 fun y hy => hk y (List.mem_cons_of_mem _ hy)
    simp [Instr.findNow, h.1.1, Instr.sameNow, h1, this]
theorem findNow_some (key : Nat × Nat × Bool → Int) (k : Int) : ∀ (l : List MapEntry) (xs : List (Nat × Nat × Bool)) (i : Nat) (x : Nat × Nat × Bool), l.map (fun e => (e.key, e.val)) = xs.map (fun x => (.int .i64 (key x), unitV x.1 x.2.1 x.2.2)) → xs.find? (fun x => key x == k) = some x →
    ∃ j, Instr.findNow (.int .i64) (.int .i64 k) l i = some (some (j, unitV x.1 x.2.1 x.2.2))
  | [], [], i, x, _, hf => by cases hf
  | e :: l, y :: xs, i, x, h, hf => by
    simp only [List.map_cons, List.cons.injEq, Prod.mk.injEq] at h
    rw [List.find?_cons] at hf
    by_cases hy : key y = k
    · have h1 : (key y == k) = true := by simp [hy]
      rw [h1] at hf
      cases hf
      have h2 : (k == key y) = true := by simp [hy]
      exact ⟨i, by simp [Instr.findNow, h.1.1, h.1.2, Instr.sameNow, h2]⟩
    · have h1 : (key y == k) = false := by simp [hy]
      rw [h1] at hf
      obtain ⟨j, hj⟩ := findNow_some key k l xs (i + 1) x h.2 hf
      have h2 : (k == key y) = false := by simp; exact fun e => hy e.symm
      exact ⟨j, by simp [Instr.findNow, h.1.1, Instr.sameNow, h2, hj]⟩
  | [], _ :: _, _, _, h, _ => by simp at h
  | _ :: _, [], _, _, h, _ => by simp at h

theorem ck_int (e : Bool) (n : Nat) (k : Int) (w : World) : (Instr.checkKey e (n + 1) 3 (.int .i64 k)).run Tryd.prog w = .ok () w := by
  simp [Instr.checkKey, Sem.run_bind, run_underlying Tryd.underlying3 w]
theorem findKey_int {k : Int} {l : List MapEntry} {r : Option (Nat × Value)} (h : Instr.findNow (.int .i64) (.int .i64 k) l 0 = some r) (w : World) :
    (Instr.findKey 3 (.int .i64 k) l).run Tryd.prog w = .ok r w := by
  simp [Instr.findKey, Sem.run_bind, run_underlying Tryd.underlying3 w, h]

/-- What the map says of k: the zero unit, if it says nothing. -/
def saysV (key : Nat × Nat × Bool → Int) (xs : List (Nat × Nat × Bool)) (k : Int) : Value := match xs.find? (fun x => key x == k) with | some x => unitV x.1 x.2.1 x.2.2 | none => .agg #[.complex .f64 0 0, .bool false]
theorem run_says (w : World) (m : Nat) (es : Array MapEntry) (clock : Nat) (hh : w.heap[m]? = some (.map es clock)) (key : Nat × Nat × Bool → Int) (xs : List (Nat × Nat × Bool)) (h : MapOf key xs es) (k : Int) :
    (Instr.lookup 63 (.map (some m)) (.int .i64 k) false).run Tryd.prog w = .ok (saysV key xs k) w := by
  have hk := fun e w => ck_int e 9999 k w
  have hm : ∀ w : World, (underlying 63).run Tryd.prog w = .ok (.map 3 36) w := fun w => run_underlying Tryd.underlying63 w
  have ho : (getObj m).run Tryd.prog w = .ok (.map es clock) w := by simp [getObj, Sem.run, hh]
  unfold saysV
  cases hf : xs.find? (fun x => key x == k) with
  | none =>
    have h1 : Instr.findNow (.int .i64) (.int .i64 k) es.toList 0 = some none := findNow_none key k _ xs 0 h (by simpa using hf)
    simp [Instr.lookup, Sem.run_bind, hm, ho, Result.andThen, hk, findKey_int h1]
  | some x =>
    obtain ⟨j, h1⟩ := findNow_some key k _ xs 0 x h hf
    simp [Instr.lookup, Sem.run_bind, hm, ho, Result.andThen, hk, findKey_int h1]
theorem run_store_new (w : World) (m : Nat) (es : Array MapEntry) (clock : Nat) (hh : w.heap[m]? = some (.map es clock)) (key : Nat × Nat × Bool → Int) (xs : List (Nat × Nat × Bool)) (h : MapOf key xs es) (x : Nat × Nat × Bool) (hx : ∀ y ∈ xs, key y ≠ key x) :
    ∃ es' clock', MapOf key (xs ++ [x]) es' ∧ (Instr.mapUpdate 63 (.map (some m)) (.int .i64 (key x)) (unitV x.1 x.2.1 x.2.2)).run Tryd.prog w = .ok () (w.putObj m (.map es' clock')) := by
  have hk := fun e w => ck_int e 9999 (key x) w
  have hm : ∀ w : World, (underlying 63).run Tryd.prog w = .ok (.map 3 36) w := fun w => run_underlying Tryd.underlying63 w
  have ho : (getObj m).run Tryd.prog w = .ok (.map es clock) w := by simp [getObj, Sem.run, hh]
  have hs : ∀ o, (setObj m o).run Tryd.prog w = .ok () (w.putObj m o) := fun o => by simp [setObj, Sem.run, hh, World.putObj]
  have h1 : Instr.findNow (.int .i64) (.int .i64 (key x)) es.toList 0 = some none := findNow_none key (key x) _ xs 0 h hx
  refine ⟨es.push { key := .int .i64 (key x), val := unitV x.1 x.2.1 x.2.2, born := clock }, clock + 1, ?_, ?_⟩
  · unfold MapOf at *
    rw [Array.toList_push, List.map_append, List.map_append, h]
    rfl
  · simp [Instr.mapUpdate, Sem.run_bind, hm, ho, hs, Result.andThen, hk, findKey_int h1]

theorem one_four {n : Nat} (h : 1 ≤ n) (h4 : n ≤ 4) : (FloatKind.f64.format.order (flN n) 0 == some .eq) = false := by
  have : n = 1 ∨ n = 2 ∨ n = 3 ∨ n = 4 := by omega
  rcases this with rfl | rfl | rfl | rfl <;> decide +kernel
theorem eq_none (w : World) : (binOp .eql 36 (.agg #[.complex .f64 0 0, .bool false]) (.agg #[.complex .f64 0 0, .bool false])).run Tryd.prog w = .ok (.bool true) w := by kernel_rfl
theorem eq_some (q n : Nat) (ok : Bool) (h : 1 ≤ n) (h4 : n ≤ 4) (w : World) : (binOp .eql 36 (unitV q n ok) (.agg #[.complex .f64 0 0, .bool false])).run Tryd.prog w = .ok (.bool false) w := by
  have h1 := one_four h h4
  have hc : ∀ d, (Op.equalIn (d + 1) 34 (.complex .f64 (flN q) (flN n)) (.complex .f64 0 0)).run Tryd.prog w = .ok false w := by
    intro d
    simp [Op.equalIn, Sem.run_bind, run_underlying Tryd.underlying34 w, Op.floatEq, h1]
  have hf : Tryd.prog.stoodInHeld 36 = false := by kernel_rfl
  have hfs : (Tryd.prog.fieldsOf 36).toList.map (fun f => (f.name != "_", f.type, f.offset)) = [(true, 34, 0), (true, 4, 1)] := by kernel_rfl
  have hp : (part 34 (unitC q n ok) 0).run Tryd.prog w = .ok (.complex .f64 (flN q) (flN n)) w := by kernel_rfl
  have hp0 : (part 34 #[.complex .f64 0 0, .bool false] 0).run Tryd.prog w = .ok (.complex .f64 0 0) w := by kernel_rfl
  have h2 : ∀ d, (Op.eqFields (d + 1) (unitC q n ok) #[.complex .f64 0 0, .bool false] (Tryd.prog.fieldsOf 36).toList).run Tryd.prog w = .ok false w := by
    intro d
    generalize (Tryd.prog.fieldsOf 36).toList = fs at hfs
    cases fs with
    | nil => simp at hfs
    | cons f fs =>
      simp only [List.map_cons, List.cons.injEq, Prod.mk.injEq] at hfs
      obtain ⟨⟨e1, e2, e3⟩, _⟩ := hfs
      have e1' : f.name ≠ "_" := by simpa using e1
      simp only [Op.eqFields, e1', ne_eq, not_false_eq_true, if_true, e2, e3, Sem.run_bind, hp, hp0, hc, Result.andThen_ok, Bool.not_false, Sem.run_pure]
  rw [run_eql_struct, run_equalIn_agg w 9999 36 _ _ (by kernel_rfl) hf, h2 9998]
  rfl

/-- mend's own error lies as it was laid. -/
structure Place (w : World) (aP : Addr) : Prop where
  cell : w.cell? ⟨0, 0, none⟩ = some (errV aP)
theorem Place.below {w w' : World} {aP : Addr} (h : Place w aP) (hb : Below w.heap.size w w') : Place w' aP := ⟨(hb.cell (World.block_lt_of_cell? w _ h.cell)).trans h.cell⟩
theorem mnumber_nil {w : World} {aP : Addr} (h : Place w aP) : Calls Tryd.prog 26 #[.nilIface] w fun e w' => e = .returned (.int .i64 0) ∧ w = w' := by
  have hu := h.cell
  go_enter Tryd.func26, Tryd.ntmps26
  go_wp2_with fail
  refine (is_nil aP _).mono ?_
  rintro e w' ⟨rfl, rfl⟩
  go_wp2
  go_ret
  exact ⟨rfl, rfl⟩
theorem mnumber_place {w : World} {aP : Addr} (h : Place w aP) : Calls Tryd.prog 26 #[errV aP] w fun e w' => e = .returned (.int .i64 12) ∧ w = w' := by
  have hu := h.cell
  go_enter Tryd.func26, Tryd.ntmps26
  go_wp2_with fail
  refine (is_same aP _).mono ?_
  rintro e w' ⟨rfl, rfl⟩
  go_wp2
  go_ret
  exact ⟨rfl, rfl⟩
end Go.Proofs.YthnfekilmiodpaaDoor

namespace Go.Proofs.YthnfekilmiodpaaDoor
open Go.RowKit Go.Shelf
attribute [local go_sem] Oper.semAt_some

def keyBegin (x : Nat × Nat × Bool) : Int := ((x.1 : Nat) : Int)
def keyEnd (x : Nat × Nat × Bool) : Int := ((x.1 : Nat) : Int) + ((x.2.1 : Nat) : Int)
/-- What lies while units are gone through: the place, the key, the map's variable, the map. -/
structure UpTo (key : Nat × Nat × Bool → Int) (kf : Value) (N : Nat) (at_ : Nat) (xs : List (Nat × Nat × Bool)) (W : World) : Prop where
  place : Boxed W (N + 1) 3 (.int .i64 (at_ : Nat))
  kfn : Boxed W (N + 1 + 1) 49 kf
  var : Boxed W (N + 1 + 1 + 1 + 1) 63 (.map (some (N + 1 + 1 + 1)))
  map : ∃ es c, W.heap[N + 1 + 1 + 1]? = some (.map es c) ∧ MapOf key xs es
theorem UpTo.keep {key : Nat × Nat × Bool → Int} {kf : Value} {N at_ : Nat} {xs : List (Nat × Nat × Bool)} {A B : World} {T : Nat → Prop} (h : UpTo key kf N at_ xs A) (hm : Moves T A B) (hT : ∀ k, k ≤ N + 1 + 1 + 1 + 1 → ¬ T k) : UpTo key kf N at_ xs B where
  place := row_keep h.place hm (hT _ (by omega))
  kfn := row_keep h.kfn hm (hT _ (by omega))
  var := row_keep h.var hm (hT _ (by omega))
  map := by obtain ⟨es, c, hh, h2⟩ := h.map; exact ⟨es, c, row_keep hh hm (hT _ (by omega)), h2⟩
theorem UpTo.stored {key : Nat × Nat × Bool → Int} {kf : Value} {N at_ : Nat} {xs ys : List (Nat × Nat × Bool)} {A : World} {es : Array MapEntry} {c : Nat} (h : UpTo key kf N at_ xs A) (hm : MapOf key ys es) : UpTo key kf N at_ ys (A.putObj (N + 1 + 1 + 1) (.map es c)) where
  place := (World.putObj_heap_other (by omega)).trans h.place
  kfn := (World.putObj_heap_other (by omega)).trans h.kfn
  var := (World.putObj_heap_other (by omega)).trans h.var
  map := by obtain ⟨es', c', hh, _⟩ := h.map; exact ⟨es, c, World.putObj_heap_same (Array.getElem?_eq_some_iff.1 hh).1, hm⟩
/-- The answer: the map of the units that were met. -/
def UpPost (key : Nat × Nat × Bool → Int) (xs : List (Nat × Nat × Bool)) (w : World) (e : Ending) (w' : World) : Prop :=
  ∃ m es c, e = .returned (.map (some m)) ∧ w'.heap[m]? = some (.map es c) ∧ MapOf key xs es ∧ Below w.heap.size w w'
end Go.Proofs.YthnfekilmiodpaaDoor

