/- errors.As, at a pointer to a lineError and at a pointer to a wrong. -/
import Derived.Test.YtapbedefahbilaaGreatDoorFAsF
namespace Go.Proofs.YtapbedefahbilaaGreatDoor
open Go.RowKit Go.Extern.Stop Go.Stop Go.Extern Go.Shelf

theorem setW (ta b : Addr) (n : Int) (old : Value) (W : World) (hb : W.cell? b = some (.int .i64 n)) (ht : W.cell? ta = some old) (hf : W.frozen? ta = false) :
    (ReflectliteValue.set #[vA 81 ta 386, vA 81 b 130]).run Tryz.prog W = .ok (.tuple #[]) (W.setCell ta (.int .i64 n)) := by
  rw [rls]
  simp only [Sem.run_bind, partsAW, partsBW, Result.andThen]
  simp [ReflectliteValue.flagAddr, loadVar, isAgg, underlying, Tryz.underlying81, hb, Result.andThen, directW, storeVar, Value.cells, storeCells, Addr.add]
  rw [run_store Tryz.prog W ta _ _ (by rfl)]
  simp [ht, hf]
theorem setL (g h : Nat) (l n : Int) (u v : Value) (W : World) (hb : W.heap[h]? = some (.cells #[.int .i64 l, wrongV n] 80 (0, 0))) (ht : W.heap[g]? = some (.cells #[u, v] 80 (0, 0))) :
    (ReflectliteValue.set #[vA 80 ⟨g, 0, none⟩ 409, vA 80 ⟨h, 0, none⟩ 153]).run Tryz.prog W = .ok (.tuple #[]) (W.setRow g #[.int .i64 l, wrongV n]) := by
  rw [rls]
  simp only [Sem.run_bind, partsAL, partsBL, Result.andThen]
  have h1 := run_loadVar_row W h 80 80 _ (0, 0) _ hb Tryz.underlying80 rfl (by kernel_rfl)
  have h2 := run_storeVar_row (P := Tryz.prog) W g 80 80 _ #[.int .i64 l, wrongV n] ht (by kernel_rfl) rfl (by simp [Value.oneCell'])
  have hf : (409 / ReflectliteValue.flagAddr % 2 == 0) = false := by decide
  simp only [hf, Bool.false_eq_true, if_false, Sem.run_bind, h1, Result.andThen, directL, if_true, h2, Sem.run_pure]

theorem as_nil (t : Value) (w : World) : Calls Tryz.prog 50 #[.nilIface, t] w fun e w' => e = .returned (.bool false) ∧ w = w' := by
  go_enter Tryz.func50, Tryz.ntmps50
  go_wp2
  go_ret
  exact ⟨rfl, rfl⟩

theorem below_setRow2 {n g : Nat} {a b : World} (h : Below n a b) (cs : Array Value) : Below n (a.setRow g cs) (b.setRow g cs) := by
  refine ⟨h.os, h.tape, h.output, by simpa using h.size, fun k hk => ?_⟩
  unfold World.setRow
  simp only [Array.getElem?_modify]
  rw [h.block k hk]
theorem below_setCell2 {n : Nat} {a b : World} (h : Below n a b) (p : Addr) (v : Value) : Below n (a.setCell p v) (b.setCell p v) := by
  refine ⟨h.os, h.tape, h.output, by simpa using h.size, fun k hk => ?_⟩
  unfold World.setCell
  simp only [Array.getElem?_modify]
  rw [h.block k hk]
set_option maxHeartbeats 4000000 in
/-- errors.as: the error is a wrong, and so is the target. -/
theorem as_hitW (n : Int) (g v : Nat) (old : Value) (w : World) (hv : w.cell? ⟨v, 0, none⟩ = some (.pointer (some ⟨g, 0, none⟩))) (ht : w.heap[g]? = some (.cells #[old] 81 (0, 0))) :
    Calls Tryz.prog 65 #[wrongV n, .iface 84 (.pointer (some ⟨g, 0, none⟩)), vA 84 ⟨v, 0, none⟩ 150, rtI 81] w fun e w' => e = .returned (.bool true) ∧ Below w.heap.size (w.setCell ⟨g, 0, none⟩ (.int .i64 n)) w' := by
  have h10 := @run_callFunc_extern Tryz.prog 84 _ ReflectliteType.typeOf Tryz.func84 (by kernel_rfl) (by kernel_rfl) (by kernel_rfl) (by kernel_rfl)
  have h35 := @run_callFunc_extern Tryz.prog 159 _ (ReflectliteType.relation "AssignableTo" ReflectliteType.assignableTo) Tryz.func159 (by kernel_rfl) (by kernel_rfl) (by kernel_rfl) (by kernel_rfl)
  have h6 := @run_callFunc_extern Tryz.prog 62 _ (fun args => ReflectliteValue.unpack (args.getD 0 (.tuple #[]))) Tryz.func62 (by kernel_rfl) (by kernel_rfl) (by kernel_rfl) (by kernel_rfl)
  have h11 := @run_callFunc_extern Tryz.prog 85 _ (ReflectliteValue.method (ReflectliteValue.valueError "reflectlite.Value.Elem" 0) ReflectliteValue.elem) Tryz.func85 (by kernel_rfl) (by kernel_rfl) (by kernel_rfl) (by kernel_rfl)
  have h12 := @run_callFunc_extern Tryz.prog 86 _ ReflectliteValue.set Tryz.func86 (by kernel_rfl) (by kernel_rfl) (by kernel_rfl) (by kernel_rfl)
  have tO := typeOfW
  have mA := asAssignable
  have aW := assignWW
  have vW := valueOfW
  have c0 : w.cell? ⟨g, 0, none⟩ = some old := by rw [cell_of_row _ _ 0 _ _ _ ht]; rfl
  have f0 : w.frozen? ⟨g, 0, none⟩ = false := frozen_of_row _ _ 0 _ _ ht
  have lg : g < w.heap.size := (Array.getElem?_eq_some_iff.1 ht).1
  have lv : v < w.heap.size := World.block_lt_of_cell? w _ hv
  have el := elemVW ⟨v, 0, none⟩ ⟨g, 0, none⟩ (w.alloc (.cells #[tD 84, .pointer (some ⟨v, 0, none⟩), .int .u64 150] 99)) (by rw [World.cell?_alloc_lt _ _ ⟨v, 0, none⟩ lv]; exact hv)
  have st := setW ⟨g, 0, none⟩ ⟨w.heap.size + 1, 0, none⟩ n old ((w.alloc (.cells #[tD 84, .pointer (some ⟨v, 0, none⟩), .int .u64 150] 99)).alloc (.cells #[.int .i64 n] 81))
    (by rw [World.cell?_alloc_at _ _ _ _ (by simp)]; rfl)
    (by rw [World.cell?_alloc_lt _ _ ⟨g, 0, none⟩ (by simp; omega), World.cell?_alloc_lt _ _ ⟨g, 0, none⟩ lg]; exact c0)
    (by rw [World.frozen?_alloc_old _ _ ⟨g, 0, none⟩ (by simp; omega), World.frozen?_alloc_old _ _ ⟨g, 0, none⟩ (Nat.ne_of_lt lg)]; exact f0)
  go_enter Tryz.func65, Tryz.ntmps65
  go_wp2_with fail
  refine wp_loop_rounds 1 ?_
  rw [rounds_succ]
  go_wp2
  go_ret
  exact ⟨rfl, ((Below.refl _ _).alloc (by simp) _).alloc (by simp) _⟩
set_option maxHeartbeats 4000000 in
/-- errors.as: the error is a wrong, the target is none. -/
theorem as_missW (n : Int) (g v : Nat) (w : World) :
    Calls Tryz.prog 65 #[wrongV n, .iface 83 (.pointer (some ⟨g, 0, none⟩)), vA 83 ⟨v, 0, none⟩ 150, rtI 80] w fun e w' => e = .returned (.bool false) ∧ Below w.heap.size w w' := by
  have h10 := @run_callFunc_extern Tryz.prog 84 _ ReflectliteType.typeOf Tryz.func84 (by kernel_rfl) (by kernel_rfl) (by kernel_rfl) (by kernel_rfl)
  have h35 := @run_callFunc_extern Tryz.prog 159 _ (ReflectliteType.relation "AssignableTo" ReflectliteType.assignableTo) Tryz.func159 (by kernel_rfl) (by kernel_rfl) (by kernel_rfl) (by kernel_rfl)
  have h6 := @run_callFunc_extern Tryz.prog 62 _ (fun args => ReflectliteValue.unpack (args.getD 0 (.tuple #[]))) Tryz.func62 (by kernel_rfl) (by kernel_rfl) (by kernel_rfl) (by kernel_rfl)
  have h11 := @run_callFunc_extern Tryz.prog 85 _ (ReflectliteValue.method (ReflectliteValue.valueError "reflectlite.Value.Elem" 0) ReflectliteValue.elem) Tryz.func85 (by kernel_rfl) (by kernel_rfl) (by kernel_rfl) (by kernel_rfl)
  have h12 := @run_callFunc_extern Tryz.prog 86 _ ReflectliteValue.set Tryz.func86 (by kernel_rfl) (by kernel_rfl) (by kernel_rfl) (by kernel_rfl)
  have tO := typeOfW
  have mA := asAssignable
  have aW := assignWL
  have nA := noAsW
  have nU := noUnwrapW
  have nV := noUnwrapsW
  go_enter Tryz.func65, Tryz.ntmps65
  go_wp2_with fail
  refine wp_loop_rounds 1 ?_
  rw [rounds_succ]
  go_wp2
  go_ret
  exact ⟨rfl, (Below.refl _ _).alloc (Nat.le_refl _) _⟩
set_option maxHeartbeats 4000000 in
/-- errors.as: the error is a line's, and so is the target. -/
theorem as_hitL (l n : Int) (g v : Nat) (x y : Value) (w : World) (hv : w.cell? ⟨v, 0, none⟩ = some (.pointer (some ⟨g, 0, none⟩))) (ht : w.heap[g]? = some (.cells #[x, y] 80 (0, 0))) :
    Calls Tryz.prog 65 #[.iface 80 (.agg #[.int .i64 l, wrongV n]), .iface 83 (.pointer (some ⟨g, 0, none⟩)), vA 83 ⟨v, 0, none⟩ 150, rtI 80] w fun e w' => e = .returned (.bool true) ∧ Below w.heap.size (w.setRow g #[.int .i64 l, wrongV n]) w' := by
  have h10 := @run_callFunc_extern Tryz.prog 84 _ ReflectliteType.typeOf Tryz.func84 (by kernel_rfl) (by kernel_rfl) (by kernel_rfl) (by kernel_rfl)
  have h35 := @run_callFunc_extern Tryz.prog 159 _ (ReflectliteType.relation "AssignableTo" ReflectliteType.assignableTo) Tryz.func159 (by kernel_rfl) (by kernel_rfl) (by kernel_rfl) (by kernel_rfl)
  have h6 := @run_callFunc_extern Tryz.prog 62 _ (fun args => ReflectliteValue.unpack (args.getD 0 (.tuple #[]))) Tryz.func62 (by kernel_rfl) (by kernel_rfl) (by kernel_rfl) (by kernel_rfl)
  have h11 := @run_callFunc_extern Tryz.prog 85 _ (ReflectliteValue.method (ReflectliteValue.valueError "reflectlite.Value.Elem" 0) ReflectliteValue.elem) Tryz.func85 (by kernel_rfl) (by kernel_rfl) (by kernel_rfl) (by kernel_rfl)
  have h12 := @run_callFunc_extern Tryz.prog 86 _ ReflectliteValue.set Tryz.func86 (by kernel_rfl) (by kernel_rfl) (by kernel_rfl) (by kernel_rfl)
  have tO := typeOfL
  have mA := asAssignable
  have aL := assignLL
  have vL := valueOfL
  have lg : g < w.heap.size := (Array.getElem?_eq_some_iff.1 ht).1
  have lv : v < w.heap.size := World.block_lt_of_cell? w _ hv
  have el := elemVL ⟨v, 0, none⟩ ⟨g, 0, none⟩ (w.alloc (.cells #[tD 83, .pointer (some ⟨v, 0, none⟩), .int .u64 150] 99)) (by rw [World.cell?_alloc_lt _ _ ⟨v, 0, none⟩ lv]; exact hv)
  have st := setL g (w.heap.size + 1) l n x y ((w.alloc (.cells #[tD 83, .pointer (some ⟨v, 0, none⟩), .int .u64 150] 99)).alloc (.cells #[.int .i64 l, wrongV n] 80))
    (by have := heap_alloc_new (w.alloc (.cells #[tD 83, .pointer (some ⟨v, 0, none⟩), .int .u64 150] 99)) (.cells #[.int .i64 l, wrongV n] 80); rwa [World.size_alloc] at this)
    ((Below.heap_alloc _ _ _ (by simp; omega)).trans ((Below.heap_alloc _ _ _ (by omega)).trans ht))
  have hb2 := below_setRow2 (g := g) (((Below.refl w.heap.size w).alloc (Nat.le_refl _) (.cells #[tD 83, .pointer (some ⟨v, 0, none⟩), .int .u64 150] 99)).alloc (by simp) (.cells #[.int .i64 l, wrongV n] 80)) #[.int .i64 l, wrongV n]
  have HB := Lib.hid hb2
  clear hb2
  go_enter Tryz.func65, Tryz.ntmps65
  go_wp2_with fail
  refine wp_loop_rounds 1 ?_
  rw [rounds_succ]
  go_wp2
  go_ret
  exact ⟨rfl, HB.out⟩
theorem unwrap_any (l n : Int) (w : World) :
    Calls Tryz.prog 153 #[.agg #[.int .i64 l, wrongV n]] w fun e w' => e = .returned (wrongV n) ∧ w.alloc (.cells #[.int .i64 l, wrongV n] 80) = w' := by
  go_enter Tryz.func153, Tryz.ntmps153
  go_wp2
  go_ret
  exact ⟨rfl, rfl⟩
set_option maxHeartbeats 4000000 in
/-- errors.as: the error is a line's, the target is what it wraps. -/
theorem as_through (l n : Int) (g v : Nat) (old : Value) (w : World) (hv : w.cell? ⟨v, 0, none⟩ = some (.pointer (some ⟨g, 0, none⟩))) (ht : w.heap[g]? = some (.cells #[old] 81 (0, 0))) :
    Calls Tryz.prog 65 #[.iface 80 (.agg #[.int .i64 l, wrongV n]), .iface 84 (.pointer (some ⟨g, 0, none⟩)), vA 84 ⟨v, 0, none⟩ 150, rtI 81] w fun e w' => e = .returned (.bool true) ∧ Below w.heap.size (w.setCell ⟨g, 0, none⟩ (.int .i64 n)) w' := by
  have h10 := @run_callFunc_extern Tryz.prog 84 _ ReflectliteType.typeOf Tryz.func84 (by kernel_rfl) (by kernel_rfl) (by kernel_rfl) (by kernel_rfl)
  have h35 := @run_callFunc_extern Tryz.prog 159 _ (ReflectliteType.relation "AssignableTo" ReflectliteType.assignableTo) Tryz.func159 (by kernel_rfl) (by kernel_rfl) (by kernel_rfl) (by kernel_rfl)
  have h6 := @run_callFunc_extern Tryz.prog 62 _ (fun args => ReflectliteValue.unpack (args.getD 0 (.tuple #[]))) Tryz.func62 (by kernel_rfl) (by kernel_rfl) (by kernel_rfl) (by kernel_rfl)
  have h11 := @run_callFunc_extern Tryz.prog 85 _ (ReflectliteValue.method (ReflectliteValue.valueError "reflectlite.Value.Elem" 0) ReflectliteValue.elem) Tryz.func85 (by kernel_rfl) (by kernel_rfl) (by kernel_rfl) (by kernel_rfl)
  have h12 := @run_callFunc_extern Tryz.prog 86 _ ReflectliteValue.set Tryz.func86 (by kernel_rfl) (by kernel_rfl) (by kernel_rfl) (by kernel_rfl)
  have tO := typeOfW
  have tL := typeOfL
  have mA := asAssignable
  have mU := asUnwrap
  have aW := assignWW
  have aL := assignLW
  have vW := valueOfW
  have nA := noAsL
  have hU := hasUnwrapL
  have c0 : w.cell? ⟨g, 0, none⟩ = some old := by rw [cell_of_row _ _ 0 _ _ _ ht]; rfl
  have f0 : w.frozen? ⟨g, 0, none⟩ = false := frozen_of_row _ _ 0 _ _ ht
  have lg : g < w.heap.size := (Array.getElem?_eq_some_iff.1 ht).1
  have lv : v < w.heap.size := World.block_lt_of_cell? w _ hv
  have el := elemVW ⟨v, 0, none⟩ ⟨g, 0, none⟩ ((w.alloc (.cells #[tD 84, .pointer (some ⟨v, 0, none⟩), .int .u64 150] 99)).alloc (.cells #[.int .i64 l, wrongV n] 80)) (by rw [World.cell?_alloc_lt _ _ ⟨v, 0, none⟩ (by simp; omega), World.cell?_alloc_lt _ _ ⟨v, 0, none⟩ lv]; exact hv)
  have st := setW ⟨g, 0, none⟩ ⟨w.heap.size + 1 + 1, 0, none⟩ n old (((w.alloc (.cells #[tD 84, .pointer (some ⟨v, 0, none⟩), .int .u64 150] 99)).alloc (.cells #[.int .i64 l, wrongV n] 80)).alloc (.cells #[.int .i64 n] 81))
    (by rw [World.cell?_alloc_at _ _ _ _ (by simp)]; rfl)
    (by rw [World.cell?_alloc_lt _ _ ⟨g, 0, none⟩ (by simp; omega), World.cell?_alloc_lt _ _ ⟨g, 0, none⟩ (by simp; omega), World.cell?_alloc_lt _ _ ⟨g, 0, none⟩ lg]; exact c0)
    (by rw [World.frozen?_alloc_old _ _ ⟨g, 0, none⟩ (by simp; omega), World.frozen?_alloc_old _ _ ⟨g, 0, none⟩ (by simp; omega), World.frozen?_alloc_old _ _ ⟨g, 0, none⟩ (Nat.ne_of_lt lg)]; exact f0)
  go_enter Tryz.func65, Tryz.ntmps65
  go_wp2_with fail
  refine wp_loop_rounds 2 ?_
  rw [rounds_succ]
  go_wp2
  rw [rounds_succ]
  go_wp2
  go_ret
  exact ⟨rfl, below_setCell2 ((((Below.refl w.heap.size w).alloc (Nat.le_refl _) _).alloc (by simp) _).alloc (by simp; omega) _) _ _⟩
set_option maxHeartbeats 4000000 in
/-- errors.As, by what errors.as answers. -/
theorem as_frontW (err : Value) (T : TypeId) (hT : ∃ z, err = .iface T z) (g : Nat) (w : World) (hg : w.cell? ⟨0, 0, none⟩ = some (rtI 51)) (b : Bool) (R : World → Prop)
    (hA : Calls Tryz.prog 65 #[err, .iface 84 (.pointer (some ⟨g, 0, none⟩)), vA 84 ⟨w.heap.size, 0, none⟩ 150, rtI 81] ((w.alloc (.cells #[.pointer (some ⟨g, 0, none⟩)] 84)).alloc (.cells #[tD 84, .pointer (some ⟨w.heap.size, 0, none⟩), .int .u64 150] 99)) fun e w' => e = .returned (.bool b) ∧ R w') :
    Calls Tryz.prog 50 #[err, .iface 84 (.pointer (some ⟨g, 0, none⟩))] w fun e w' => e = .returned (.bool b) ∧ R w' := by
  obtain ⟨z, rfl⟩ := hT
  have h6 := @run_callFunc_extern Tryz.prog 62 _ (fun args => ReflectliteValue.unpack (args.getD 0 (.tuple #[]))) Tryz.func62 (by kernel_rfl) (by kernel_rfl) (by kernel_rfl) (by kernel_rfl)
  have h7 := @run_callFunc_extern Tryz.prog 63 _ (ReflectliteValue.methodAny (ReflectliteValue.valueError "reflectlite.Value.Type" 0) (fun t _ _ _ => ReflectliteType.toType t)) Tryz.func63 (by kernel_rfl) (by kernel_rfl) (by kernel_rfl) (by kernel_rfl)
  have h8 := @run_callFunc_extern Tryz.prog 64 _ (ReflectliteValue.method (ReflectliteValue.valueError "reflectlite.Value.IsNil" 0) ReflectliteValue.isNil) Tryz.func64 (by kernel_rfl) (by kernel_rfl) (by kernel_rfl) (by kernel_rfl)
  have h27 := @run_callFunc_extern Tryz.prog 149 _ (ReflectliteType.abiMethod fun t => do pure (.int .u8 (← Rtype.kind t))) Tryz.func149 (by kernel_rfl) (by kernel_rfl) (by kernel_rfl) (by kernel_rfl)
  have h37 := @run_callFunc_extern Tryz.prog 161 _ (ReflectliteType.method ReflectliteType.elem) Tryz.func161 (by kernel_rfl) (by kernel_rfl) (by kernel_rfl) (by kernel_rfl)
  have h38 := @run_callFunc_extern Tryz.prog 162 _ (ReflectliteType.relation "Implements" ReflectliteType.implements_) Tryz.func162 (by kernel_rfl) (by kernel_rfl) (by kernel_rfl) (by kernel_rfl)
  have f6 := valueOfPW
  have f7 := typePW
  have mK := asKind
  have mE := asElem
  have mI := asImplements
  have kP := kindPW
  have kE := kindEW
  have eP := elemPW
  have iE := implementsW
  have n8 := isNilPW ⟨w.heap.size, 0, none⟩ ⟨g, 0, none⟩ ((w.alloc (.cells #[.pointer (some ⟨g, 0, none⟩)] 84)).alloc (.cells #[tD 84, .pointer (some ⟨w.heap.size, 0, none⟩), .int .u64 150] 99)) (by simp)
  have lg := World.block_lt_of_cell? w _ hg
  have hg2 : ((w.alloc (.cells #[.pointer (some ⟨g, 0, none⟩)] 84)).alloc (.cells #[tD 84, .pointer (some ⟨w.heap.size, 0, none⟩), .int .u64 150] 99)).cell? ⟨0, 0, none⟩ = some (rtI 51) := by
    rw [World.cell?_alloc_lt _ _ ⟨0, 0, none⟩ (by simp only [World.size_alloc]; exact Nat.lt_succ_of_lt lg), World.cell?_alloc_lt _ _ ⟨0, 0, none⟩ lg]; exact hg
  have HA := Lib.hid hA
  clear hA
  go_enter Tryz.func50, Tryz.ntmps50
  go_wp2_with fail
  refine HA.out.mono ?_
  rintro e w' ⟨rfl, hR⟩
  have HR := Lib.hid hR
  clear hR
  go_wp2
  go_ret
  exact ⟨rfl, HR.out⟩
set_option maxHeartbeats 4000000 in
/-- errors.As, by what errors.as answers. -/
theorem as_frontL (err : Value) (T : TypeId) (hT : ∃ z, err = .iface T z) (g : Nat) (w : World) (hg : w.cell? ⟨0, 0, none⟩ = some (rtI 51)) (b : Bool) (R : World → Prop)
    (hA : Calls Tryz.prog 65 #[err, .iface 83 (.pointer (some ⟨g, 0, none⟩)), vA 83 ⟨w.heap.size, 0, none⟩ 150, rtI 80] ((w.alloc (.cells #[.pointer (some ⟨g, 0, none⟩)] 83)).alloc (.cells #[tD 83, .pointer (some ⟨w.heap.size, 0, none⟩), .int .u64 150] 99)) fun e w' => e = .returned (.bool b) ∧ R w') :
    Calls Tryz.prog 50 #[err, .iface 83 (.pointer (some ⟨g, 0, none⟩))] w fun e w' => e = .returned (.bool b) ∧ R w' := by
  obtain ⟨z, rfl⟩ := hT
  have h6 := @run_callFunc_extern Tryz.prog 62 _ (fun args => ReflectliteValue.unpack (args.getD 0 (.tuple #[]))) Tryz.func62 (by kernel_rfl) (by kernel_rfl) (by kernel_rfl) (by kernel_rfl)
  have h7 := @run_callFunc_extern Tryz.prog 63 _ (ReflectliteValue.methodAny (ReflectliteValue.valueError "reflectlite.Value.Type" 0) (fun t _ _ _ => ReflectliteType.toType t)) Tryz.func63 (by kernel_rfl) (by kernel_rfl) (by kernel_rfl) (by kernel_rfl)
  have h8 := @run_callFunc_extern Tryz.prog 64 _ (ReflectliteValue.method (ReflectliteValue.valueError "reflectlite.Value.IsNil" 0) ReflectliteValue.isNil) Tryz.func64 (by kernel_rfl) (by kernel_rfl) (by kernel_rfl) (by kernel_rfl)
  have h27 := @run_callFunc_extern Tryz.prog 149 _ (ReflectliteType.abiMethod fun t => do pure (.int .u8 (← Rtype.kind t))) Tryz.func149 (by kernel_rfl) (by kernel_rfl) (by kernel_rfl) (by kernel_rfl)
  have h37 := @run_callFunc_extern Tryz.prog 161 _ (ReflectliteType.method ReflectliteType.elem) Tryz.func161 (by kernel_rfl) (by kernel_rfl) (by kernel_rfl) (by kernel_rfl)
  have h38 := @run_callFunc_extern Tryz.prog 162 _ (ReflectliteType.relation "Implements" ReflectliteType.implements_) Tryz.func162 (by kernel_rfl) (by kernel_rfl) (by kernel_rfl) (by kernel_rfl)
  have f6 := valueOfPL
  have f7 := typePL
  have mK := asKind
  have mE := asElem
  have mI := asImplements
  have kP := kindPL
  have kE := kindEL
  have eP := elemPL
  have iE := implementsL
  have n8 := isNilPL ⟨w.heap.size, 0, none⟩ ⟨g, 0, none⟩ ((w.alloc (.cells #[.pointer (some ⟨g, 0, none⟩)] 83)).alloc (.cells #[tD 83, .pointer (some ⟨w.heap.size, 0, none⟩), .int .u64 150] 99)) (by simp)
  have lg := World.block_lt_of_cell? w _ hg
  have hg2 : ((w.alloc (.cells #[.pointer (some ⟨g, 0, none⟩)] 83)).alloc (.cells #[tD 83, .pointer (some ⟨w.heap.size, 0, none⟩), .int .u64 150] 99)).cell? ⟨0, 0, none⟩ = some (rtI 51) := by
    rw [World.cell?_alloc_lt _ _ ⟨0, 0, none⟩ (by simp only [World.size_alloc]; exact Nat.lt_succ_of_lt lg), World.cell?_alloc_lt _ _ ⟨0, 0, none⟩ lg]; exact hg
  have HA := Lib.hid hA
  clear hA
  go_enter Tryz.func50, Tryz.ntmps50
  go_wp2_with fail
  refine HA.out.mono ?_
  rintro e w' ⟨rfl, hR⟩
  have HR := Lib.hid hR
  clear hR
  go_wp2
  go_ret
  exact ⟨rfl, HR.out⟩

/-- What a line, or a whole file, is told to be wrong by. -/
inductive ErrR
  | none
  | file (n : Nat)
  | line (l n : Nat)
def errRV : ErrR → Value
  | .none => .nilIface
  | .file n => wrongV n
  | .line l n => .iface 80 (.agg #[.int .i64 (l : Nat), wrongV (n : Nat)])
def toldV : ErrR → Value
  | .none => .tuple #[.int .i64 0, .int .i64 0]
  | .file n => .tuple #[.int .i64 0, .int .i64 (n : Nat)]
  | .line l n => .tuple #[.int .i64 (l : Nat), .int .i64 (n : Nat)]
end Go.Proofs.YtapbedefahbilaaGreatDoor
