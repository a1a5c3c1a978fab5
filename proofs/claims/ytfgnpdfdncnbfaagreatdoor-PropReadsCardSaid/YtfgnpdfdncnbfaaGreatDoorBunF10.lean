/- errors.As, at a pointer to a lineError and at a pointer to a wrong; told. errors.As, at a pointer to a lineError and at a pointer to a wrong. told: the line and the number of what is wrong. Line: the record of a text taken as one line. records, plainly; and whose the cells are. -/
import Derived.Test.YtfgnpdfdncnbfaaGreatDoorBunF7
import Derived.Stop.Asserts
import Derived.RowKitTokens
import Derived.LaidEql
import Derived.Test.YtfgnpdfdncnbfaaGreatDoorBunF3
namespace Go.Proofs.YtfgnpdfdncnbfaaGreatDoor
open Go.RowKit Go.Extern.Stop Go.Stop Go.Extern Go.Shelf

abbrev tD (t : Nat) : Value := .pointer (some ⟨9, t, none⟩)
abbrev rtI (t : Nat) : Value := .iface 152 (.agg #[tD t])
abbrev vA (t : Nat) (p : Addr) (fl : Int) : Value := .agg #[tD t, .pointer (some p), .int .u64 fl]

theorem asKind (h : Value) (w : World) : (Go.method 422 152 (.agg #[h]) "Kind").run Tryz.prog w = .ok (232, h) w := by kernel_rfl
theorem asElem (h : Value) (w : World) : (Go.method 422 152 (.agg #[h]) "Elem").run Tryz.prog w = .ok (245, .agg #[h]) w := by kernel_rfl
theorem asImplements (h : Value) (w : World) : (Go.method 422 152 (.agg #[h]) "Implements").run Tryz.prog w = .ok (246, .agg #[h]) w := by kernel_rfl
theorem asAssignable (h : Value) (w : World) : (Go.method 422 152 (.agg #[h]) "AssignableTo").run Tryz.prog w = .ok (243, .agg #[h]) w := by kernel_rfl
theorem asUnwrap (v : Array Value) (w : World) : (Go.method 422 193 (.agg v) "Unwrap").run Tryz.prog w = .ok (255, .agg v) w := by kernel_rfl
theorem rlm (z : Sem Value) (f : TypeId → Addr → Nat → Nat → Sem Value) (v : Value) :
    ReflectliteValue.method z f #[v] = (do match ← ReflectliteValue.parts v with | none => z | some (t, a, fl) => f t a fl (fl % 32)) := rfl
theorem rls (v x : Value) : ReflectliteValue.set #[v, x] = (do
    let (some (dst, a, fl), some (src, b, _)) := (← ReflectliteValue.parts v, ← ReflectliteValue.parts x)
      | unsupported (.noEntry "extern/(internal/reflectlite.Value).Set.zeroValue")
    if fl / ReflectliteValue.flagAddr % 2 == 0 then unsupported (.noEntry "extern/(internal/reflectlite.Value).Set.unaddressable")
    let val ← loadVar src b
    if ← Rtype.directlyAssignable dst src then storeVar dst a val
    else if ← Rtype.implements dst src then
      if (← Rtype.kind src) == 20 then
        match val with
        | .nilIface => unsupported (.noEntry "extern/reflectlite: a nil value of one interface type handed on as a value of another")
        | _ => storeVar dst a val
      else storeVar dst a (.iface src val)
    else panicString ("reflectlite.Set: value of type " ++ (← Rtype.spelt src) ++ " is not assignable to type " ++ (← Rtype.spelt dst))
    pure (.tuple #[])) := rfl
theorem valueOfPL (t : Addr) (w : World) : (ReflectliteValue.unpack (.iface 194 (.pointer (some t)))).run Tryz.prog w = .ok (vA 194 ⟨w.heap.size, 0, none⟩ 150) (w.alloc (.cells #[.pointer (some t)] 194)) := by kernel_rfl
theorem typePL (a : Addr) (w : World) : (ReflectliteValue.methodAny (ReflectliteValue.valueError "reflectlite.Value.Type" 0) (fun t _ _ _ => ReflectliteType.toType t) #[vA 194 a 150]).run Tryz.prog w = .ok (rtI 194) w := by kernel_rfl
theorem kindPL (w : World) : ((ReflectliteType.abiMethod fun t => (fun a : Nat => Value.int IntKind.u8 (a : Int)) <$> Rtype.kind t) #[tD 194]).run Tryz.prog w = .ok (.int .u8 22) w := by kernel_rfl
theorem kindEL (w : World) : ((ReflectliteType.abiMethod fun t => (fun a : Nat => Value.int IntKind.u8 (a : Int)) <$> Rtype.kind t) #[tD 193]).run Tryz.prog w = .ok (.int .u8 25) w := by kernel_rfl
theorem partsPL (a : Addr) (w : World) : (ReflectliteValue.parts (vA 194 a 150)).run Tryz.prog w = .ok (some (194, a, 150)) w := by kernel_rfl
theorem isNilPL (a p : Addr) (W : World) (ha : W.cell? a = some (.pointer (some p))) :
    (ReflectliteValue.method (ReflectliteValue.valueError "reflectlite.Value.IsNil" 0) ReflectliteValue.isNil #[vA 194 a 150]).run Tryz.prog W = .ok (.bool false) W := by
  rw [rlm]
  simp only [Sem.run_bind, partsPL, Result.andThen]
  simp [ReflectliteValue.isNil, loadVar, isAgg, underlying, Tryz.underlying194, ha, Result.andThen]
theorem elemPL (w : World) : (ReflectliteType.method ReflectliteType.elem #[.agg #[tD 194]]).run Tryz.prog w = .ok (rtI 193) w := by kernel_rfl
theorem implementsL (w : World) : (ReflectliteType.relation "Implements" ReflectliteType.implements_ #[.agg #[tD 193], rtI 55]).run Tryz.prog w = .ok (.bool true) w := by kernel_rfl
theorem typeOfL (v : Value) (w : World) : (ReflectliteType.typeOf #[.iface 193 v]).run Tryz.prog w = .ok (rtI 193) w := by kernel_rfl
theorem elemOfL (w : World) : (Rtype.elem? 194).run Tryz.prog w = .ok (some 193) w := by kernel_rfl
theorem mkL (p : Addr) (w : World) : (ReflectliteValue.mk 193 p ReflectliteValue.flagAddr).run Tryz.prog w = .ok (vA 193 p 409) w := by kernel_rfl
theorem elemVL (a p : Addr) (W : World) (ha : W.cell? a = some (.pointer (some p))) :
    (ReflectliteValue.method (ReflectliteValue.valueError "reflectlite.Value.Elem" 0) ReflectliteValue.elem #[vA 194 a 150]).run Tryz.prog W = .ok (vA 193 p 409) W := by
  rw [rlm]
  simp only [Sem.run_bind, partsPL, Result.andThen]
  simp [ReflectliteValue.elem, loadVar, isAgg, underlying, Tryz.underlying194, ha, Result.andThen, elemOfL, mkL]
theorem partsAL (a : Addr) (w : World) : (ReflectliteValue.parts (vA 193 a 409)).run Tryz.prog w = .ok (some (193, a, 409)) w := by kernel_rfl
theorem partsBL (a : Addr) (w : World) : (ReflectliteValue.parts (vA 193 a 153)).run Tryz.prog w = .ok (some (193, a, 153)) w := by kernel_rfl
theorem directL (w : World) : (Rtype.directlyAssignable 193 193).run Tryz.prog w = .ok true w := by kernel_rfl
theorem noAsL (v : Value) (xT : TypeId) (w : World) : (Instr.typeAssert (.iface 193 v) xT 157 true).run Tryz.prog w = .ok (.tuple #[.nilIface, .bool false]) w := run_typeAssert_lacksB Tryz.underlying157 (by kernel_rfl) (by kernel_rfl) v xT w
theorem noUnwrapsL (v : Value) (xT : TypeId) (w : World) : (Instr.typeAssert (.iface 193 v) xT 161 true).run Tryz.prog w = .ok (.tuple #[.nilIface, .bool false]) w := run_typeAssert_lacksB Tryz.underlying161 (by kernel_rfl) (by kernel_rfl) v xT w
theorem assignLL (w : World) : (ReflectliteType.relation "AssignableTo" ReflectliteType.assignableTo #[.agg #[tD 193], rtI 193]).run Tryz.prog w = .ok (.bool true) w := by kernel_rfl
theorem assignLW (w : World) : (ReflectliteType.relation "AssignableTo" ReflectliteType.assignableTo #[.agg #[tD 193], rtI 186]).run Tryz.prog w = .ok (.bool false) w := by kernel_rfl
theorem valueOfPW (t : Addr) (w : World) : (ReflectliteValue.unpack (.iface 195 (.pointer (some t)))).run Tryz.prog w = .ok (vA 195 ⟨w.heap.size, 0, none⟩ 150) (w.alloc (.cells #[.pointer (some t)] 195)) := by kernel_rfl
theorem typePW (a : Addr) (w : World) : (ReflectliteValue.methodAny (ReflectliteValue.valueError "reflectlite.Value.Type" 0) (fun t _ _ _ => ReflectliteType.toType t) #[vA 195 a 150]).run Tryz.prog w = .ok (rtI 195) w := by kernel_rfl
theorem kindPW (w : World) : ((ReflectliteType.abiMethod fun t => (fun a : Nat => Value.int IntKind.u8 (a : Int)) <$> Rtype.kind t) #[tD 195]).run Tryz.prog w = .ok (.int .u8 22) w := by kernel_rfl
theorem kindEW (w : World) : ((ReflectliteType.abiMethod fun t => (fun a : Nat => Value.int IntKind.u8 (a : Int)) <$> Rtype.kind t) #[tD 186]).run Tryz.prog w = .ok (.int .u8 2) w := by kernel_rfl
theorem partsPW (a : Addr) (w : World) : (ReflectliteValue.parts (vA 195 a 150)).run Tryz.prog w = .ok (some (195, a, 150)) w := by kernel_rfl
theorem isNilPW (a p : Addr) (W : World) (ha : W.cell? a = some (.pointer (some p))) :
    (ReflectliteValue.method (ReflectliteValue.valueError "reflectlite.Value.IsNil" 0) ReflectliteValue.isNil #[vA 195 a 150]).run Tryz.prog W = .ok (.bool false) W := by
  rw [rlm]
  simp only [Sem.run_bind, partsPW, Result.andThen]
  simp [ReflectliteValue.isNil, loadVar, isAgg, underlying, Tryz.underlying195, ha, Result.andThen]
theorem elemPW (w : World) : (ReflectliteType.method ReflectliteType.elem #[.agg #[tD 195]]).run Tryz.prog w = .ok (rtI 186) w := by kernel_rfl
theorem implementsW (w : World) : (ReflectliteType.relation "Implements" ReflectliteType.implements_ #[.agg #[tD 186], rtI 55]).run Tryz.prog w = .ok (.bool true) w := by kernel_rfl
theorem typeOfW (v : Value) (w : World) : (ReflectliteType.typeOf #[.iface 186 v]).run Tryz.prog w = .ok (rtI 186) w := by kernel_rfl
theorem elemOfW (w : World) : (Rtype.elem? 195).run Tryz.prog w = .ok (some 186) w := by kernel_rfl
theorem mkW (p : Addr) (w : World) : (ReflectliteValue.mk 186 p ReflectliteValue.flagAddr).run Tryz.prog w = .ok (vA 186 p 386) w := by kernel_rfl
theorem elemVW (a p : Addr) (W : World) (ha : W.cell? a = some (.pointer (some p))) :
    (ReflectliteValue.method (ReflectliteValue.valueError "reflectlite.Value.Elem" 0) ReflectliteValue.elem #[vA 195 a 150]).run Tryz.prog W = .ok (vA 186 p 386) W := by
  rw [rlm]
  simp only [Sem.run_bind, partsPW, Result.andThen]
  simp [ReflectliteValue.elem, loadVar, isAgg, underlying, Tryz.underlying195, ha, Result.andThen, elemOfW, mkW]
theorem partsAW (a : Addr) (w : World) : (ReflectliteValue.parts (vA 186 a 386)).run Tryz.prog w = .ok (some (186, a, 386)) w := by kernel_rfl
theorem partsBW (a : Addr) (w : World) : (ReflectliteValue.parts (vA 186 a 130)).run Tryz.prog w = .ok (some (186, a, 130)) w := by kernel_rfl
theorem directW (w : World) : (Rtype.directlyAssignable 186 186).run Tryz.prog w = .ok true w := by kernel_rfl
theorem noAsW (v : Value) (xT : TypeId) (w : World) : (Instr.typeAssert (.iface 186 v) xT 157 true).run Tryz.prog w = .ok (.tuple #[.nilIface, .bool false]) w := run_typeAssert_lacksB Tryz.underlying157 (by kernel_rfl) (by kernel_rfl) v xT w
theorem noUnwrapsW (v : Value) (xT : TypeId) (w : World) : (Instr.typeAssert (.iface 186 v) xT 161 true).run Tryz.prog w = .ok (.tuple #[.nilIface, .bool false]) w := run_typeAssert_lacksB Tryz.underlying161 (by kernel_rfl) (by kernel_rfl) v xT w
theorem assignWL (w : World) : (ReflectliteType.relation "AssignableTo" ReflectliteType.assignableTo #[.agg #[tD 186], rtI 193]).run Tryz.prog w = .ok (.bool false) w := by kernel_rfl
theorem assignWW (w : World) : (ReflectliteType.relation "AssignableTo" ReflectliteType.assignableTo #[.agg #[tD 186], rtI 186]).run Tryz.prog w = .ok (.bool true) w := by kernel_rfl
theorem noUnwrapW (v : Value) (xT : TypeId) (w : World) : (Instr.typeAssert (.iface 186 v) xT 160 true).run Tryz.prog w = .ok (.tuple #[.nilIface, .bool false]) w := run_typeAssert_lacksB Tryz.underlying160 (by kernel_rfl) (by kernel_rfl) v xT w
theorem hasUnwrapL (v : Value) (xT : TypeId) (w : World) : (Instr.typeAssert (.iface 193 v) xT 160 true).run Tryz.prog w = .ok (.tuple #[.iface 193 v, .bool true]) w := run_typeAssert_hasB Tryz.underlying160 (by kernel_rfl) v xT w
theorem valueOfW (n : Int) (w : World) : (ReflectliteValue.unpack (.iface 186 (.int .i64 n))).run Tryz.prog w = .ok (vA 186 ⟨w.heap.size, 0, none⟩ 130) (w.alloc (.cells #[.int .i64 n] 186)) := by kernel_rfl
theorem valueOfL (l : Int) (x : Value) (w : World) : (ReflectliteValue.unpack (.iface 193 (.agg #[.int .i64 l, x]))).run Tryz.prog w = .ok (vA 193 ⟨w.heap.size, 0, none⟩ 153) (w.alloc (.cells #[.int .i64 l, x] 193)) := by kernel_rfl
end Go.Proofs.YtfgnpdfdncnbfaaGreatDoor

namespace Go.Proofs.YtfgnpdfdncnbfaaGreatDoor
open Go.RowKit Go.Extern.Stop Go.Stop Go.Extern Go.Shelf

theorem setW (ta b : Addr) (n : Int) (old : Value) (W : World) (hb : W.cell? b = some (.int .i64 n)) (ht : W.cell? ta = some old) (hf : W.frozen? ta = false) :
    (ReflectliteValue.set #[vA 186 ta 386, vA 186 b 130]).run Tryz.prog W = .ok (.tuple #[]) (W.setCell ta (.int .i64 n)) := by
  rw [rls]
  simp only [Sem.run_bind, partsAW, partsBW, Result.andThen]
  simp [ReflectliteValue.flagAddr, loadVar, isAgg, underlying, Tryz.underlying186, hb, Result.andThen, directW, storeVar, Value.cells, storeCells, Addr.add]
  rw [run_store Tryz.prog W ta _ _ (by rfl)]
  simp [ht, hf]
theorem setL (g h : Nat) (l n : Int) (u v : Value) (W : World) (hb : W.heap[h]? = some (.cells #[.int .i64 l, wrongV n] 193 (0, 0))) (ht : W.heap[g]? = some (.cells #[u, v] 193 (0, 0))) :
    (ReflectliteValue.set #[vA 193 ⟨g, 0, none⟩ 409, vA 193 ⟨h, 0, none⟩ 153]).run Tryz.prog W = .ok (.tuple #[]) (W.setRow g #[.int .i64 l, wrongV n]) := by
  rw [rls]
  simp only [Sem.run_bind, partsAL, partsBL, Result.andThen]
  have h1 := run_loadVar_row W h 193 193 _ (0, 0) _ hb Tryz.underlying193 rfl (by kernel_rfl)
  have h2 := run_storeVar_row (P := Tryz.prog) W g 193 193 _ #[.int .i64 l, wrongV n] ht (by kernel_rfl) rfl (by simp [Value.oneCell'])
  have hf : (409 / ReflectliteValue.flagAddr % 2 == 0) = false := by decide
  simp only [hf, Bool.false_eq_true, if_false, Sem.run_bind, h1, Result.andThen, directL, if_true, h2, Sem.run_pure]

theorem as_nil (t : Value) (w : World) : Calls Tryz.prog 52 #[.nilIface, t] w fun e w' => e = .returned (.bool false) ∧ w = w' := by
  go_enter Tryz.func52, Tryz.ntmps52
  go_wp2
  go_ret
  exact ⟨rfl, rfl⟩

theorem below_setRow2 {n g : Nat} {a b : World} (h : Below n a b) (cs : Array Value) : Below n (a.setRow g cs) (b.setRow g cs) := by
  refine ⟨h.os, h.tape, h.output, by simpa using h.size, fun k hk => ?_⟩
  unfold World.setRow
  simp only [Array.getElem?_modify]
  rw [h.block k hk]
theorem below_setCell2 {n : Nat} {a b : World} (h : Below n a b) (p : Addr) (v : Value) : Below n (a.setCell p v) (b.setCell p v) := by
  refine ⟨h.os, h.tape, h.output, by simpa using h.size, fun k hk => ?_⟩
  unfold World.setCell
  simp only [Array.getElem?_modify]
  rw [h.block k hk]
set_option maxHeartbeats 4000000 in
/-- errors.as: the error is a wrong, and so is the target. -/
theorem as_hitW (n : Int) (g v : Nat) (old : Value) (w : World) (hv : w.cell? ⟨v, 0, none⟩ = some (.pointer (some ⟨g, 0, none⟩))) (ht : w.heap[g]? = some (.cells #[old] 186 (0, 0))) :
    Calls Tryz.prog 77 #[wrongV n, .iface 195 (.pointer (some ⟨g, 0, none⟩)), vA 195 ⟨v, 0, none⟩ 150, rtI 186] w fun e w' => e = .returned (.bool true) ∧ Below w.heap.size (w.setCell ⟨g, 0, none⟩ (.int .i64 n)) w' := by
  have h10 := @run_callFunc_extern Tryz.prog 95 _ ReflectliteType.typeOf Tryz.func95 (by kernel_rfl) (by kernel_rfl) (by kernel_rfl) (by kernel_rfl)
  have h35 := @run_callFunc_extern Tryz.prog 243 _ (ReflectliteType.relation "AssignableTo" ReflectliteType.assignableTo) Tryz.func243 (by kernel_rfl) (by kernel_rfl) (by kernel_rfl) (by kernel_rfl)
  have h6 := @run_callFunc_extern Tryz.prog 74 _ (fun args => ReflectliteValue.unpack (args.getD 0 (.tuple #[]))) Tryz.func74 (by kernel_rfl) (by kernel_rfl) (by kernel_rfl) (by kernel_rfl)
  have h11 := @run_callFunc_extern Tryz.prog 96 _ (ReflectliteValue.method (ReflectliteValue.valueError "reflectlite.Value.Elem" 0) ReflectliteValue.elem) Tryz.func96 (by kernel_rfl) (by kernel_rfl) (by kernel_rfl) (by kernel_rfl)
  have h12 := @run_callFunc_extern Tryz.prog 97 _ ReflectliteValue.set Tryz.func97 (by kernel_rfl) (by kernel_rfl) (by kernel_rfl) (by kernel_rfl)
  have tO := typeOfW
  have mA := asAssignable
  have aW := assignWW
  have vW := valueOfW
  have c0 : w.cell? ⟨g, 0, none⟩ = some old := by rw [cell_of_row _ _ 0 _ _ _ ht]; rfl
  have f0 : w.frozen? ⟨g, 0, none⟩ = false := frozen_of_row _ _ 0 _ _ ht
  have lg : g < w.heap.size := (Array.getElem?_eq_some_iff.1 ht).1
  have lv : v < w.heap.size := World.block_lt_of_cell? w _ hv
  have el := elemVW ⟨v, 0, none⟩ ⟨g, 0, none⟩ (w.alloc (.cells #[tD 195, .pointer (some ⟨v, 0, none⟩), .int .u64 150] 124)) (by rw [World.cell?_alloc_lt _ _ ⟨v, 0, none⟩ lv]; exact hv)
  have st := setW ⟨g, 0, none⟩ ⟨w.heap.size + 1, 0, none⟩ n old ((w.alloc (.cells #[tD 195, .pointer (some ⟨v, 0, none⟩), .int .u64 150] 124)).alloc (.cells #[.int .i64 n] 186))
    (by rw [World.cell?_alloc_at _ _ _ _ (by simp)]; rfl)
    (by rw [World.cell?_alloc_lt _ _ ⟨g, 0, none⟩ (by simp; omega), World.cell?_alloc_lt _ _ ⟨g, 0, none⟩ lg]; exact c0)
    (by rw [World.frozen?_alloc_old _ _ ⟨g, 0, none⟩ (by simp; omega), World.frozen?_alloc_old _ _ ⟨g, 0, none⟩ (Nat.ne_of_lt lg)]; exact f0)
  go_enter Tryz.func77, Tryz.ntmps77
  go_wp2_with fail
  refine wp_loop_rounds 1 ?_
  rw [rounds_succ]
  go_wp2
  go_ret
  exact ⟨rfl, ((Below.refl _ _).alloc (by simp) _).alloc (by simp) _⟩
set_option maxHeartbeats 4000000 in
/-- errors.as: the error is a wrong, the target is none. -/
theorem as_missW (n : Int) (g v : Nat) (w : World) :
    Calls Tryz.prog 77 #[wrongV n, .iface 194 (.pointer (some ⟨g, 0, none⟩)), vA 194 ⟨v, 0, none⟩ 150, rtI 193] w fun e w' => e = .returned (.bool false) ∧ Below w.heap.size w w' := by
  have h10 := @run_callFunc_extern Tryz.prog 95 _ ReflectliteType.typeOf Tryz.func95 (by kernel_rfl) (by kernel_rfl) (by kernel_rfl) (by kernel_rfl)
  have h35 := @run_callFunc_extern Tryz.prog 243 _ (ReflectliteType.relation "AssignableTo" ReflectliteType.assignableTo) Tryz.func243 (by kernel_rfl) (by kernel_rfl) (by kernel_rfl) (by kernel_rfl)
  have h6 := @run_callFunc_extern Tryz.prog 74 _ (fun args => ReflectliteValue.unpack (args.getD 0 (.tuple #[]))) Tryz.func74 (by kernel_rfl) (by kernel_rfl) (by kernel_rfl) (by kernel_rfl)
  have h11 := @run_callFunc_extern Tryz.prog 96 _ (ReflectliteValue.method (ReflectliteValue.valueError "reflectlite.Value.Elem" 0) ReflectliteValue.elem) Tryz.func96 (by kernel_rfl) (by kernel_rfl) (by kernel_rfl) (by kernel_rfl)
  have h12 := @run_callFunc_extern Tryz.prog 97 _ ReflectliteValue.set Tryz.func97 (by kernel_rfl) (by kernel_rfl) (by kernel_rfl) (by kernel_rfl)
  have tO := typeOfW
  have mA := asAssignable
  have aW := assignWL
  have nA := noAsW
  have nU := noUnwrapW
  have nV := noUnwrapsW
  go_enter Tryz.func77, Tryz.ntmps77
  go_wp2_with fail
  refine wp_loop_rounds 1 ?_
  rw [rounds_succ]
  go_wp2
  go_ret
  exact ⟨rfl, (Below.refl _ _).alloc (Nat.le_refl _) _⟩
set_option maxHeartbeats 4000000 in
/-- errors.as: the error is a line's, and so is the target. -/
theorem as_hitL (l n : Int) (g v : Nat) (x y : Value) (w : World) (hv : w.cell? ⟨v, 0, none⟩ = some (.pointer (some ⟨g, 0, none⟩))) (ht : w.heap[g]? = some (.cells #[x, y] 193 (0, 0))) :
    Calls Tryz.prog 77 #[.iface 193 (.agg #[.int .i64 l, wrongV n]), .iface 194 (.pointer (some ⟨g, 0, none⟩)), vA 194 ⟨v, 0, none⟩ 150, rtI 193] w fun e w' => e = .returned (.bool true) ∧ Below w.heap.size (w.setRow g #[.int .i64 l, wrongV n]) w' := by
  have h10 := @run_callFunc_extern Tryz.prog 95 _ ReflectliteType.typeOf Tryz.func95 (by kernel_rfl) (by kernel_rfl) (by kernel_rfl) (by kernel_rfl)
  have h35 := @run_callFunc_extern Tryz.prog 243 _ (ReflectliteType.relation "AssignableTo" ReflectliteType.assignableTo) Tryz.func243 (by kernel_rfl) (by kernel_rfl) (by kernel_rfl) (by kernel_rfl)
  have h6 := @run_callFunc_extern Tryz.prog 74 _ (fun args => ReflectliteValue.unpack (args.getD 0 (.tuple #[]))) Tryz.func74 (by kernel_rfl) (by kernel_rfl) (by kernel_rfl) (by kernel_rfl)
  have h11 := @run_callFunc_extern Tryz.prog 96 _ (ReflectliteValue.method (ReflectliteValue.valueError "reflectlite.Value.Elem" 0) ReflectliteValue.elem) Tryz.func96 (by kernel_rfl) (by kernel_rfl) (by kernel_rfl) (by kernel_rfl)
  have h12 := @run_callFunc_extern Tryz.prog 97 _ ReflectliteValue.set Tryz.func97 (by kernel_rfl) (by kernel_rfl) (by kernel_rfl) (by kernel_rfl)
  have tO := typeOfL
  have mA := asAssignable
  have aL := assignLL
  have vL := valueOfL
  have lg : g < w.heap.size := (Array.getElem?_eq_some_iff.1 ht).1
  have lv : v < w.heap.size := World.block_lt_of_cell? w _ hv
  have el := elemVL ⟨v, 0, none⟩ ⟨g, 0, none⟩ (w.alloc (.cells #[tD 194, .pointer (some ⟨v, 0, none⟩), .int .u64 150] 124)) (by rw [World.cell?_alloc_lt _ _ ⟨v, 0, none⟩ lv]; exact hv)
  have st := setL g (w.heap.size + 1) l n x y ((w.alloc (.cells #[tD 194, .pointer (some ⟨v, 0, none⟩), .int .u64 150] 124)).alloc (.cells #[.int .i64 l, wrongV n] 193))
    (by have := heap_alloc_new (w.alloc (.cells #[tD 194, .pointer (some ⟨v, 0, none⟩), .int .u64 150] 124)) (.cells #[.int .i64 l, wrongV n] 193); rwa [World.size_alloc] at this)
    ((Below.heap_alloc _ _ _ (by simp; omega)).trans ((Below.heap_alloc _ _ _ (by omega)).trans ht))
  have hb2 := below_setRow2 (g := g) (((Below.refl w.heap.size w).alloc (Nat.le_refl _) (.cells #[tD 194, .pointer (some ⟨v, 0, none⟩), .int .u64 150] 124)).alloc (by simp) (.cells #[.int .i64 l, wrongV n] 193)) #[.int .i64 l, wrongV n]
  have HB := Lib.hid hb2
  clear hb2
  go_enter Tryz.func77, Tryz.ntmps77
  go_wp2_with fail
  refine wp_loop_rounds 1 ?_
  rw [rounds_succ]
  go_wp2
  go_ret
  exact ⟨rfl, HB.out⟩
theorem unwrap_any (l n : Int) (w : World) :
    Calls Tryz.prog 255 #[.agg #[.int .i64 l, wrongV n]] w fun e w' => e = .returned (wrongV n) ∧ w.alloc (.cells #[.int .i64 l, wrongV n] 193) = w' := by
  go_enter Tryz.func255, Tryz.ntmps255
  go_wp2
  go_ret
  exact ⟨rfl, rfl⟩
set_option maxHeartbeats 4000000 in
/-- errors.as: the error is a line's, the target is what it wraps. -/
theorem as_through (l n : Int) (g v : Nat) (old : Value) (w : World) (hv : w.cell? ⟨v, 0, none⟩ = some (.pointer (some ⟨g, 0, none⟩))) (ht : w.heap[g]? = some (.cells #[old] 186 (0, 0))) :
    Calls Tryz.prog 77 #[.iface 193 (.agg #[.int .i64 l, wrongV n]), .iface 195 (.pointer (some ⟨g, 0, none⟩)), vA 195 ⟨v, 0, none⟩ 150, rtI 186] w fun e w' => e = .returned (.bool true) ∧ Below w.heap.size (w.setCell ⟨g, 0, none⟩ (.int .i64 n)) w' := by
  have h10 := @run_callFunc_extern Tryz.prog 95 _ ReflectliteType.typeOf Tryz.func95 (by kernel_rfl) (by kernel_rfl) (by kernel_rfl) (by kernel_rfl)
  have h35 := @run_callFunc_extern Tryz.prog 243 _ (ReflectliteType.relation "AssignableTo" ReflectliteType.assignableTo) Tryz.func243 (by kernel_rfl) (by kernel_rfl) (by kernel_rfl) (by kernel_rfl)
  have h6 := @run_callFunc_extern Tryz.prog 74 _ (fun args => ReflectliteValue.unpack (args.getD 0 (.tuple #[]))) Tryz.func74 (by kernel_rfl) (by kernel_rfl) (by kernel_rfl) (by kernel_rfl)
  have h11 := @run_callFunc_extern Tryz.prog 96 _ (ReflectliteValue.method (ReflectliteValue.valueError "reflectlite.Value.Elem" 0) ReflectliteValue.elem) Tryz.func96 (by kernel_rfl) (by kernel_rfl) (by kernel_rfl) (by kernel_rfl)
  have h12 := @run_callFunc_extern Tryz.prog 97 _ ReflectliteValue.set Tryz.func97 (by kernel_rfl) (by kernel_rfl) (by kernel_rfl) (by kernel_rfl)
  have tO := typeOfW
  have tL := typeOfL
  have mA := asAssignable
  have mU := asUnwrap
  have aW := assignWW
  have aL := assignLW
  have vW := valueOfW
  have nA := noAsL
  have hU := hasUnwrapL
  have c0 : w.cell? ⟨g, 0, none⟩ = some old := by rw [cell_of_row _ _ 0 _ _ _ ht]; rfl
  have f0 : w.frozen? ⟨g, 0, none⟩ = false := frozen_of_row _ _ 0 _ _ ht
  have lg : g < w.heap.size := (Array.getElem?_eq_some_iff.1 ht).1
  have lv : v < w.heap.size := World.block_lt_of_cell? w _ hv
  have el := elemVW ⟨v, 0, none⟩ ⟨g, 0, none⟩ ((w.alloc (.cells #[tD 195, .pointer (some ⟨v, 0, none⟩), .int .u64 150] 124)).alloc (.cells #[.int .i64 l, wrongV n] 193)) (by rw [World.cell?_alloc_lt _ _ ⟨v, 0, none⟩ (by simp; omega), World.cell?_alloc_lt _ _ ⟨v, 0, none⟩ lv]; exact hv)
  have st := setW ⟨g, 0, none⟩ ⟨w.heap.size + 1 + 1, 0, none⟩ n old (((w.alloc (.cells #[tD 195, .pointer (some ⟨v, 0, none⟩), .int .u64 150] 124)).alloc (.cells #[.int .i64 l, wrongV n] 193)).alloc (.cells #[.int .i64 n] 186))
    (by rw [World.cell?_alloc_at _ _ _ _ (by simp)]; rfl)
    (by rw [World.cell?_alloc_lt _ _ ⟨g, 0, none⟩ (by simp; omega), World.cell?_alloc_lt _ _ ⟨g, 0, none⟩ (by simp; omega), World.cell?_alloc_lt _ _ ⟨g, 0, none⟩ lg]; exact c0)
    (by rw [World.frozen?_alloc_old _ _ ⟨g, 0, none⟩ (by simp; omega), World.frozen?_alloc_old _ _ ⟨g, 0, none⟩ (by simp; omega), World.frozen?_alloc_old _ _ ⟨g, 0, none⟩ (Nat.ne_of_lt lg)]; exact f0)
  go_enter Tryz.func77, Tryz.ntmps77
  go_wp2_with fail
  refine wp_loop_rounds 2 ?_
  rw [rounds_succ]
  go_wp2
  rw [rounds_succ]
  go_wp2
  go_ret
  exact ⟨rfl, below_setCell2 ((((Below.refl w.heap.size w).alloc (Nat.le_refl _) _).alloc (by simp) _).alloc (by simp; omega) _) _ _⟩
set_option maxHeartbeats 4000000 in
/-- errors.As, by what errors.as answers. -/
theorem as_frontW (err : Value) (T : TypeId) (hT : ∃ z, err = .iface T z) (g : Nat) (w : World) (hg : w.cell? ⟨1, 0, none⟩ = some (rtI 55)) (b : Bool) (R : World → Prop)
    (hA : Calls Tryz.prog 77 #[err, .iface 195 (.pointer (some ⟨g, 0, none⟩)), vA 195 ⟨w.heap.size, 0, none⟩ 150, rtI 186] ((w.alloc (.cells #[.pointer (some ⟨g, 0, none⟩)] 195)).alloc (.cells #[tD 195, .pointer (some ⟨w.heap.size, 0, none⟩), .int .u64 150] 124)) fun e w' => e = .returned (.bool b) ∧ R w') :
    Calls Tryz.prog 52 #[err, .iface 195 (.pointer (some ⟨g, 0, none⟩))] w fun e w' => e = .returned (.bool b) ∧ R w' := by
  obtain ⟨z, rfl⟩ := hT
  have h6 := @run_callFunc_extern Tryz.prog 74 _ (fun args => ReflectliteValue.unpack (args.getD 0 (.tuple #[]))) Tryz.func74 (by kernel_rfl) (by kernel_rfl) (by kernel_rfl) (by kernel_rfl)
  have h7 := @run_callFunc_extern Tryz.prog 75 _ (ReflectliteValue.methodAny (ReflectliteValue.valueError "reflectlite.Value.Type" 0) (fun t _ _ _ => ReflectliteType.toType t)) Tryz.func75 (by kernel_rfl) (by kernel_rfl) (by kernel_rfl) (by kernel_rfl)
  have h8 := @run_callFunc_extern Tryz.prog 76 _ (ReflectliteValue.method (ReflectliteValue.valueError "reflectlite.Value.IsNil" 0) ReflectliteValue.isNil) Tryz.func76 (by kernel_rfl) (by kernel_rfl) (by kernel_rfl) (by kernel_rfl)
  have h27 := @run_callFunc_extern Tryz.prog 232 _ (ReflectliteType.abiMethod fun t => do pure (.int .u8 (← Rtype.kind t))) Tryz.func232 (by kernel_rfl) (by kernel_rfl) (by kernel_rfl) (by kernel_rfl)
  have h37 := @run_callFunc_extern Tryz.prog 245 _ (ReflectliteType.method ReflectliteType.elem) Tryz.func245 (by kernel_rfl) (by kernel_rfl) (by kernel_rfl) (by kernel_rfl)
  have h38 := @run_callFunc_extern Tryz.prog 246 _ (ReflectliteType.relation "Implements" ReflectliteType.implements_) Tryz.func246 (by kernel_rfl) (by kernel_rfl) (by kernel_rfl) (by kernel_rfl)
  have f6 := valueOfPW
  have f7 := typePW
  have mK := asKind
  have mE := asElem
  have mI := asImplements
  have kP := kindPW
  have kE := kindEW
  have eP := elemPW
  have iE := implementsW
  have n8 := isNilPW ⟨w.heap.size, 0, none⟩ ⟨g, 0, none⟩ ((w.alloc (.cells #[.pointer (some ⟨g, 0, none⟩)] 195)).alloc (.cells #[tD 195, .pointer (some ⟨w.heap.size, 0, none⟩), .int .u64 150] 124)) (by simp)
  have lg := World.block_lt_of_cell? w _ hg
  have hg2 : ((w.alloc (.cells #[.pointer (some ⟨g, 0, none⟩)] 195)).alloc (.cells #[tD 195, .pointer (some ⟨w.heap.size, 0, none⟩), .int .u64 150] 124)).cell? ⟨1, 0, none⟩ = some (rtI 55) := by
    rw [World.cell?_alloc_lt _ _ ⟨1, 0, none⟩ (by simp only [World.size_alloc]; exact Nat.lt_succ_of_lt lg), World.cell?_alloc_lt _ _ ⟨1, 0, none⟩ lg]; exact hg
  have HA := Lib.hid hA
  clear hA
  go_enter Tryz.func52, Tryz.ntmps52
  go_wp2_with fail
  refine HA.out.mono ?_
  rintro e w' ⟨rfl, hR⟩
  have HR := Lib.hid hR
  clear hR
  go_wp2
  go_ret
  exact ⟨rfl, HR.out⟩
set_option maxHeartbeats 4000000 in
/-- errors.As, by what errors.as answers. -/
theorem as_frontL (err : Value) (T : TypeId) (hT : ∃ z, err = .iface T z) (g : Nat) (w : World) (hg : w.cell? ⟨1, 0, none⟩ = some (rtI 55)) (b : Bool) (R : World → Prop)
    (hA : Calls Tryz.prog 77 #[err, .iface 194 (.pointer (some ⟨g, 0, none⟩)), vA 194 ⟨w.heap.size, 0, none⟩ 150, rtI 193] ((w.alloc (.cells #[.pointer (some ⟨g, 0, none⟩)] 194)).alloc (.cells #[tD 194, .pointer (some ⟨w.heap.size, 0, none⟩), .int .u64 150] 124)) fun e w' => e = .returned (.bool b) ∧ R w') :
    Calls Tryz.prog 52 #[err, .iface 194 (.pointer (some ⟨g, 0, none⟩))] w fun e w' => e = .returned (.bool b) ∧ R w' := by
  obtain ⟨z, rfl⟩ := hT
  have h6 := @run_callFunc_extern Tryz.prog 74 _ (fun args => ReflectliteValue.unpack (args.getD 0 (.tuple #[]))) Tryz.func74 (by kernel_rfl) (by kernel_rfl) (by kernel_rfl) (by kernel_rfl)
  have h7 := @run_callFunc_extern Tryz.prog 75 _ (ReflectliteValue.methodAny (ReflectliteValue.valueError "reflectlite.Value.Type" 0) (fun t _ _ _ => ReflectliteType.toType t)) Tryz.func75 (by kernel_rfl) (by kernel_rfl) (by kernel_rfl) (by kernel_rfl)
  have h8 := @run_callFunc_extern Tryz.prog 76 _ (ReflectliteValue.method (ReflectliteValue.valueError "reflectlite.Value.IsNil" 0) ReflectliteValue.isNil) Tryz.func76 (by kernel_rfl) (by kernel_rfl) (by kernel_rfl) (by kernel_rfl)
  have h27 := @run_callFunc_extern Tryz.prog 232 _ (ReflectliteType.abiMethod fun t => do pure (.int .u8 (← Rtype.kind t))) Tryz.func232 (by kernel_rfl) (by kernel_rfl) (by kernel_rfl) (by kernel_rfl)
  have h37 := @run_callFunc_extern Tryz.prog 245 _ (ReflectliteType.method ReflectliteType.elem) Tryz.func245 (by kernel_rfl) (by kernel_rfl) (by kernel_rfl) (by kernel_rfl)
  have h38 := @run_callFunc_extern Tryz.prog 246 _ (ReflectliteType.relation "Implements" ReflectliteType.implements_) Tryz.func246 (by kernel_rfl) (by kernel_rfl) (by kernel_rfl) (by kernel_rfl)
  have f6 := valueOfPL
  have f7 := typePL
  have mK := asKind
  have mE := asElem
  have mI := asImplements
  have kP := kindPL
  have kE := kindEL
  have eP := elemPL
  have iE := implementsL
  have n8 := isNilPL ⟨w.heap.size, 0, none⟩ ⟨g, 0, none⟩ ((w.alloc (.cells #[.pointer (some ⟨g, 0, none⟩)] 194)).alloc (.cells #[tD 194, .pointer (some ⟨w.heap.size, 0, none⟩), .int .u64 150] 124)) (by simp)
  have lg := World.block_lt_of_cell? w _ hg
  have hg2 : ((w.alloc (.cells #[.pointer (some ⟨g, 0, none⟩)] 194)).alloc (.cells #[tD 194, .pointer (some ⟨w.heap.size, 0, none⟩), .int .u64 150] 124)).cell? ⟨1, 0, none⟩ = some (rtI 55) := by
    rw [World.cell?_alloc_lt _ _ ⟨1, 0, none⟩ (by simp only [World.size_alloc]; exact Nat.lt_succ_of_lt lg), World.cell?_alloc_lt _ _ ⟨1, 0, none⟩ lg]; exact hg
  have HA := Lib.hid hA
  clear hA
  go_enter Tryz.func52, Tryz.ntmps52
  go_wp2_with fail
  refine HA.out.mono ?_
  rintro e w' ⟨rfl, hR⟩
  have HR := Lib.hid hR
  clear hR
  go_wp2
  go_ret
  exact ⟨rfl, HR.out⟩

/-- What a line, or a whole file, is told to be wrong by. -/
inductive ErrR
  | none
  | file (n : Nat)
  | line (l n : Nat)
def errRV : ErrR → Value
  | .none => .nilIface
  | .file n => wrongV n
  | .line l n => .iface 193 (.agg #[.int .i64 (l : Nat), wrongV (n : Nat)])
def toldV : ErrR → Value
  | .none => .tuple #[.int .i64 0, .int .i64 0]
  | .file n => .tuple #[.int .i64 0, .int .i64 (n : Nat)]
  | .line l n => .tuple #[.int .i64 (l : Nat), .int .i64 (n : Nat)]
end Go.Proofs.YtfgnpdfdncnbfaaGreatDoor

namespace Go.Proofs.YtfgnpdfdncnbfaaGreatDoor
open Go.RowKit Go.Shelf

theorem two_allocs {w w' : World} {A B : Obj} (h : Below ((w.alloc A).alloc B).heap.size ((w.alloc A).alloc B) w') : Below w.heap.size w w' :=
  (((Below.refl _ _).alloc (Nat.le_refl _) _).alloc (by simp) _).trans (h.mono (by simp; omega))
theorem row_two {w : World} {A B o : Obj} {g : Nat} (h : w.heap[g]? = some o) : ((w.alloc A).alloc B).heap[g]? = some o := by
  have hg := (Array.getElem?_eq_some_iff.1 h).1
  rw [Below.heap_alloc _ _ _ (by simp; omega), Below.heap_alloc _ _ _ hg]
  exact h
theorem asL_miss (n : Int) (g : Nat) (w : World) {m : Int} (hG : FGlob w m) :
    Calls Tryz.prog 52 #[wrongV n, .iface 194 (.pointer (some ⟨g, 0, none⟩))] w fun e w' => e = .returned (.bool false) ∧ Below w.heap.size w w' :=
  as_frontL (wrongV n) 186 ⟨_, rfl⟩ g w hG.et false (Below w.heap.size w) ((as_missW n g w.heap.size _).mono fun _ _ ⟨h1, h2⟩ => ⟨h1, two_allocs h2⟩)
theorem asW_hit (n : Int) (g : Nat) (old : Value) (w : World) {m : Int} (hG : FGlob w m) (ht : w.heap[g]? = some (.cells #[old] 186 (0, 0))) :
    Calls Tryz.prog 52 #[wrongV n, .iface 195 (.pointer (some ⟨g, 0, none⟩))] w fun e w' => e = .returned (.bool true) ∧ Below w.heap.size (w.setCell ⟨g, 0, none⟩ (.int .i64 n)) w' :=
  as_frontW (wrongV n) 186 ⟨_, rfl⟩ g w hG.et true (Below w.heap.size (w.setCell ⟨g, 0, none⟩ (.int .i64 n)))
    ((as_hitW n g w.heap.size old _ (by simp) (row_two ht)).mono fun _ _ ⟨h1, h2⟩ => ⟨h1, (below_setCell2 (((Below.refl w.heap.size w).alloc (Nat.le_refl _) _).alloc (by simp) _) _ _).trans (h2.mono (by simp; omega))⟩)
theorem asL_hit (l n : Int) (g : Nat) (x y : Value) (w : World) {m : Int} (hG : FGlob w m) (ht : w.heap[g]? = some (.cells #[x, y] 193 (0, 0))) :
    Calls Tryz.prog 52 #[.iface 193 (.agg #[.int .i64 l, wrongV n]), .iface 194 (.pointer (some ⟨g, 0, none⟩))] w fun e w' => e = .returned (.bool true) ∧ Below w.heap.size (w.setRow g #[.int .i64 l, wrongV n]) w' :=
  as_frontL _ 193 ⟨_, rfl⟩ g w hG.et true (Below w.heap.size (w.setRow g #[.int .i64 l, wrongV n]))
    ((as_hitL l n g w.heap.size x y _ (by simp) (row_two ht)).mono fun _ _ ⟨h1, h2⟩ => ⟨h1, (below_setRow2 (((Below.refl w.heap.size w).alloc (Nat.le_refl _) _).alloc (by simp) _) _).trans (h2.mono (by simp; omega))⟩)
theorem asW_through (l n : Int) (g : Nat) (old : Value) (w : World) {m : Int} (hG : FGlob w m) (ht : w.heap[g]? = some (.cells #[old] 186 (0, 0))) :
    Calls Tryz.prog 52 #[.iface 193 (.agg #[.int .i64 l, wrongV n]), .iface 195 (.pointer (some ⟨g, 0, none⟩))] w fun e w' => e = .returned (.bool true) ∧ Below w.heap.size (w.setCell ⟨g, 0, none⟩ (.int .i64 n)) w' :=
  as_frontW _ 193 ⟨_, rfl⟩ g w hG.et true (Below w.heap.size (w.setCell ⟨g, 0, none⟩ (.int .i64 n)))
    ((as_through l n g w.heap.size old _ (by simp) (row_two ht)).mono fun _ _ ⟨h1, h2⟩ => ⟨h1, (below_setCell2 (((Below.refl w.heap.size w).alloc (Nat.le_refl _) _).alloc (by simp) _) _ _).trans (h2.mono (by simp; omega))⟩)

abbrev atO (l : Int) (x : Value) : Obj := .cells #[.int .i64 l, x] 193 (0, 0)
abbrev whatO (n : Int) : Obj := .cells #[.int .i64 n] 186 (0, 0)
set_option maxHeartbeats 1000000 in
theorem told_nil (w : World) : Calls Tryz.prog 107 #[.nilIface] w fun e w' => e = .returned (.tuple #[.int .i64 0, .int .i64 0]) ∧ Below w.heap.size w w' := by
  go_enter Tryz.func107, Tryz.ntmps107
  go_wp2_with fail
  refine (as_nil _ _).mono ?_
  rintro e w' ⟨rfl, rfl⟩
  go_wp2_with fail
  refine (as_nil _ _).mono ?_
  rintro e w' ⟨rfl, rfl⟩
  go_wp2
  go_region
  all_goals
    go_wp2
    go_ret2
    exact ⟨rfl, (((Below.refl _ _).alloc (Nat.le_refl _) _).alloc (by simp) _).drew⟩
/-- The end of told, both variables known. -/
theorem told_rows {w w2 : World} {l n : Int} {x : Value} (h0 : w2.heap[w.heap.size]? = some (atO l x)) (h1 : w2.heap[w.heap.size + 1]? = some (whatO n)) :
    w2.cell? ⟨w.heap.size, 0, none⟩ = some (.int .i64 l) ∧ w2.cell? ⟨w.heap.size + 1, 0, none⟩ = some (.int .i64 n) := by
  constructor
  · rw [cell_of_row _ _ 0 _ _ _ h0]; rfl
  · rw [cell_of_row _ _ 0 _ _ _ h1]; rfl
set_option maxHeartbeats 1000000 in
theorem told_file (n : Int) (w : World) {m : Int} (hG : FGlob w m) : Calls Tryz.prog 107 #[wrongV n] w fun e w' => e = .returned (.tuple #[.int .i64 0, .int .i64 n]) ∧ Below w.heap.size w w' := by
  have A0 : Below w.heap.size w ((w.alloc (atO 0 .nilIface)).alloc (whatO 0)) := ((Below.refl _ _).alloc (Nat.le_refl _) _).alloc (by simp) _
  have hG0 := hG.below A0
  have r0 : ((w.alloc (atO 0 .nilIface)).alloc (whatO 0)).heap[w.heap.size]? = some (atO 0 .nilIface) := by rw [Below.heap_alloc _ _ _ (by simp)]; exact heap_alloc_new _ _
  have r1 : ((w.alloc (atO 0 .nilIface)).alloc (whatO 0)).heap[w.heap.size + 1]? = some (whatO 0) := by have := heap_alloc_new (w.alloc (atO 0 .nilIface)) (whatO 0); rwa [World.size_alloc] at this
  have HA0 := Lib.hid A0
  have R0 := Lib.hid r0
  have R1 := Lib.hid r1
  clear A0 r0 r1
  go_enter Tryz.func107, Tryz.ntmps107
  go_wp2_with fail
  refine (asL_miss n w.heap.size _ hG0).mono ?_
  rintro e w1 ⟨rfl, b1⟩
  have hG1 := hG0.below b1
  have r0 := row_below R0.out b1
  have r1 := row_below R1.out b1
  have B1 := Lib.hid (HA0.out.trans (b1.mono HA0.out.size))
  clear b1
  go_wp2_with fail
  refine (asW_hit n (w.heap.size + 1) _ w1 hG1 r1).mono ?_
  rintro e w2 ⟨rfl, b2⟩
  have lt1 := (Array.getElem?_eq_some_iff.1 r1).1
  have q0 : w2.heap[w.heap.size]? = some (atO 0 .nilIface) := (b2.block _ (by omega)).trans ((Below.heap_setCell w1 ⟨w.heap.size + 1, 0, none⟩ _ w.heap.size (by simp)).trans r0)
  have q1 : w2.heap[w.heap.size + 1]? = some (whatO n) := (b2.block _ lt1).trans (set_heap _ r1)
  obtain ⟨c0, c1⟩ := told_rows q0 q1
  have B2 := Lib.hid ((B1.out.setCell (p := ⟨w.heap.size + 1, 0, none⟩) (by simp) (.int .i64 n)).trans (b2.mono B1.out.size))
  clear r0 r1 b2 q0 q1
  go_wp2
  go_region
  all_goals
    go_wp2
    go_ret2
    exact ⟨rfl, B2.out.drew⟩
set_option maxHeartbeats 1000000 in
theorem told_line (l n : Int) (w : World) {m : Int} (hG : FGlob w m) : Calls Tryz.prog 107 #[.iface 193 (.agg #[.int .i64 l, wrongV n])] w fun e w' => e = .returned (.tuple #[.int .i64 l, .int .i64 n]) ∧ Below w.heap.size w w' := by
  have A0 : Below w.heap.size w ((w.alloc (atO 0 .nilIface)).alloc (whatO 0)) := ((Below.refl _ _).alloc (Nat.le_refl _) _).alloc (by simp) _
  have hG0 := hG.below A0
  have r0 : ((w.alloc (atO 0 .nilIface)).alloc (whatO 0)).heap[w.heap.size]? = some (atO 0 .nilIface) := by rw [Below.heap_alloc _ _ _ (by simp)]; exact heap_alloc_new _ _
  have r1 : ((w.alloc (atO 0 .nilIface)).alloc (whatO 0)).heap[w.heap.size + 1]? = some (whatO 0) := by have := heap_alloc_new (w.alloc (atO 0 .nilIface)) (whatO 0); rwa [World.size_alloc] at this
  have HA0 := Lib.hid A0
  have R0 := Lib.hid r0
  have R1 := Lib.hid r1
  clear A0 r0 r1
  go_enter Tryz.func107, Tryz.ntmps107
  go_wp2_with fail
  refine (asL_hit l n w.heap.size _ _ _ hG0 R0.out).mono ?_
  rintro e w1 ⟨rfl, b1⟩
  have hz := (Array.getElem?_eq_some_iff.1 R1.out).1
  have r0 : w1.heap[w.heap.size]? = some (atO l (wrongV n)) := (b1.block _ (by omega)).trans (setRow_heap _ _ _ _ _ _ R0.out)
  have r1 : w1.heap[w.heap.size + 1]? = some (whatO 0) := (b1.block _ hz).trans ((setRow_other _ _ _ _ (by omega)).trans R1.out)
  have B1 := Lib.hid ((below_setRow HA0.out (Nat.le_refl _) #[.int .i64 l, wrongV n]).trans (b1.mono HA0.out.size))
  have hG1 := hG.below B1.out
  clear b1
  go_wp2_with fail
  refine (asW_through l n (w.heap.size + 1) _ w1 hG1 r1).mono ?_
  rintro e w2 ⟨rfl, b2⟩
  have lt1 := (Array.getElem?_eq_some_iff.1 r1).1
  have q0 : w2.heap[w.heap.size]? = some (atO l (wrongV n)) := (b2.block _ (by omega)).trans ((Below.heap_setCell w1 ⟨w.heap.size + 1, 0, none⟩ _ w.heap.size (by simp)).trans r0)
  have q1 : w2.heap[w.heap.size + 1]? = some (whatO n) := (b2.block _ lt1).trans (set_heap _ r1)
  obtain ⟨c0, c1⟩ := told_rows q0 q1
  have B2 := Lib.hid ((B1.out.setCell (p := ⟨w.heap.size + 1, 0, none⟩) (by simp) (.int .i64 n)).trans (b2.mono B1.out.size))
  clear r0 r1 b2 q0 q1 hz
  go_wp2
  go_region
  all_goals
    go_wp2
    go_ret2
    exact ⟨rfl, B2.out.drew⟩
theorem told_any (R : ErrR) (w : World) {m : Int} (hG : FGlob w m) : Calls Tryz.prog 107 #[errRV R] w fun e w' => e = .returned (toldV R) ∧ Below w.heap.size w w' := by
  cases R with
  | none => exact told_nil w
  | file n => exact told_file n w hG
  | line l n => exact told_line l n w hG
end Go.Proofs.YtfgnpdfdncnbfaaGreatDoor

namespace Go.Proofs.YtfgnpdfdncnbfaaGreatDoor
open Go.RowKit Go.Shelf

def LinePost (R : LineR) (w : World) (e : Ending) (w' : World) : Prop := match R with
  | .nothing => e = .returned (.tuple #[recV 0 0 0 (.slice none 0 0), .bool false, .int .i64 0]) ∧ Below w.heap.size w w'
  | .bad n => e = .returned (.tuple #[recV 0 0 0 (.slice none 0 0), .bool false, .int .i64 (n : Nat)]) ∧ Below w.heap.size w w'
  | .good a b fs => ∃ v, e = .returned (.tuple #[recV 0 (a : Nat) (b : Nat) v, .bool true, .int .i64 0]) ∧ w'.ownsRow w.heap.size 9 1 v fs.length (fs.map strV) ∧ Below w.heap.size w w'
/-- What record answers, in one form. -/
theorem rec_form {R : LineR} {w : World} {e : Ending} {w' : World} (h : RecPost R w e w') : ∃ (a b : Nat) (o : Option Addr) (n cap : Nat) (c : Bool) (E : Nat) (Er : ErrR), e = .returned (.tuple #[recV 0 (a : Nat) (b : Nat) (.slice o n cap), .bool c, errRV Er]) ∧ toldV Er = .tuple #[.int .i64 0, .int .i64 (E : Nat)] ∧ Below w.heap.size w w' ∧
    (∃ xs, w'.ownsRow w.heap.size 9 1 (.slice o n cap) n xs) ∧
    ∀ (w0 : World) (w'' : World), w0.heap.size ≤ w.heap.size → Below w0.heap.size w0 w'' → (∀ xs, w'.ownsRow w.heap.size 9 1 (.slice o n cap) n xs → w''.ownsRow w0.heap.size 9 1 (.slice o n cap) n xs) → LinePost R w0 (.returned (.tuple #[recV 0 (a : Nat) (b : Nat) (.slice o n cap), .bool c, .int .i64 (E : Nat)])) w'' := by
  cases R with
  | nothing =>
    obtain ⟨rfl, hb⟩ := h
    exact ⟨0, 0, none, 0, 0, false, 0, .none, rfl, rfl, hb, ⟨[], World.ownsRow_nil _ _ _ _⟩, fun w0 w'' _ hb' _ => ⟨rfl, hb'⟩⟩
  | bad n =>
    obtain ⟨rfl, hb⟩ := h
    exact ⟨0, 0, none, 0, 0, false, n, .file n, rfl, rfl, hb, ⟨[], World.ownsRow_nil _ _ _ _⟩, fun w0 w'' _ hb' _ => ⟨rfl, hb'⟩⟩
  | good a b fs =>
    obtain ⟨v, rfl, ho, hb⟩ := h
    obtain ⟨o, cap, rfl⟩ := own_form ho
    exact ⟨a, b, o, fs.length, cap, true, 0, .none, rfl, rfl, hb, ⟨_, ho⟩, fun w0 w'' _ hb' hk => ⟨_, rfl, hk _ ho, hb'⟩⟩

end Go.Proofs.YtfgnpdfdncnbfaaGreatDoor

namespace Go.Proofs.YtfgnpdfdncnbfaaGreatDoor
open Go.RowKit Go.Shelf

/-- A record: its line's number, its range, its fields. -/
abbrev RecD := Nat × Nat × Nat × List (List UInt8)
def recsP : List (List UInt8 × Nat) → List RecD → List RecD × ErrR
  | [], acc => (acc, .none)
  | (x, n) :: r, acc => match lineL x with
    | .bad e => ([], .line n e)
    | .nothing => recsP r acc
    | .good a b fs => if acc.length = 300 then ([], .line n 24) else recsP r (acc ++ [(n, a, b, fs)])
def parseL (l : List UInt8) : List RecD × ErrR := if 20000 < l.length then ([], .file 20) else recsP (numL l) []
theorem recsP_more : ∀ (pre r : List (List UInt8 × Nat)) (acc acc' : List RecD), recsP pre acc = (acc', .none) → recsP (pre ++ r) acc = recsP r acc'
  | [], r, acc, acc', h => by cases h; rfl
  | (x, n) :: t, r, acc, acc', h => by
    rw [List.cons_append, recsP]
    rw [recsP] at h
    cases hl : lineL x with
    | nothing => rw [hl] at h; exact recsP_more t r acc acc' h
    | bad e => rw [hl] at h; cases h
    | good a b fs =>
      rw [hl] at h
      simp only at h ⊢
      split at h
      · cases h
      · rename_i h3
        rw [if_neg h3]
        exact recsP_more t r _ acc' h
theorem recsP_stop : ∀ (pre r : List (List UInt8 × Nat)) (acc : List RecD) (n e : Nat), recsP pre acc = ([], .line n e) → recsP (pre ++ r) acc = ([], .line n e)
  | [], r, acc, n, e, h => by cases h
  | (x, m) :: t, r, acc, n, e, h => by
    rw [List.cons_append, recsP]
    rw [recsP] at h
    cases hl : lineL x with
    | nothing => rw [hl] at h; exact recsP_stop t r acc n e h
    | bad e => rw [hl] at h; exact h
    | good a b fs =>
      rw [hl] at h
      simp only at h ⊢
      split at h
      · rename_i h3
        rw [if_pos h3]
        exact h
      · rename_i h3
        rw [if_neg h3]
        exact recsP_stop t r _ n e h
theorem recsP_pre {pre all : List (List UInt8 × Nat)} {n e : Nat} (hp : pre <+: all) (h : recsP pre [] = ([], .line n e)) : recsP all [] = ([], .line n e) := by
  obtain ⟨t, rfl⟩ := hp
  exact recsP_stop _ _ _ _ _ h
theorem recsP_bad {pre : List (List UInt8 × Nat)} {acc : List RecD} {x : List UInt8} {n e : Nat} (h : recsP pre [] = (acc, .none)) (hx : lineL x = .bad e) : recsP (pre ++ [(x, n)]) [] = ([], .line n e) := by
  rw [recsP_more _ _ _ _ h, recsP, hx]
theorem recsP_skip {pre : List (List UInt8 × Nat)} {acc : List RecD} {x : List UInt8} {n : Nat} (h : recsP pre [] = (acc, .none)) (hx : lineL x = .nothing) : recsP (pre ++ [(x, n)]) [] = (acc, .none) := by
  rw [recsP_more _ _ _ _ h, recsP, hx]
  rfl
theorem recsP_full {pre : List (List UInt8 × Nat)} {acc : List RecD} {x : List UInt8} {n a b : Nat} {fs : List (List UInt8)} (h : recsP pre [] = (acc, .none)) (hx : lineL x = .good a b fs) (h3 : acc.length = 300) : recsP (pre ++ [(x, n)]) [] = ([], .line n 24) := by
  rw [recsP_more _ _ _ _ h, recsP, hx]
  simp only
  rw [if_pos h3]
theorem recsP_good {pre : List (List UInt8 × Nat)} {acc : List RecD} {x : List UInt8} {n a b : Nat} {fs : List (List UInt8)} (h : recsP pre [] = (acc, .none)) (hx : lineL x = .good a b fs) (h3 : ¬ acc.length = 300) : recsP (pre ++ [(x, n)]) [] = (acc ++ [(n, a, b, fs)], .none) := by
  rw [recsP_more _ _ _ _ h, recsP, hx]
  simp only
  rw [if_neg h3]
  rfl

/-- The records' cells, and whose the fields' rows are. -/
def RecsOwn (w : World) (base : Nat) (K : Nat → Prop) : List RecD → List Value → Prop
  | [], cs => cs = []
  | (n, a, b, fs) :: r, cs => ∃ v cs', cs = .int .i64 (n : Nat) :: .int .i64 (a : Nat) :: .int .i64 (b : Nat) :: v :: cs' ∧ w.ownsRow base 9 1 v fs.length (fs.map strV) ∧ (∀ k, v.ownBlock = some k → K k) ∧ RecsOwn w base K r cs'
theorem RecsOwn.length {w : World} {base : Nat} {K : Nat → Prop} : ∀ {acc : List RecD} {cs : List Value}, RecsOwn w base K acc cs → cs.length = acc.length * 4
  | [], cs, h => by rw [RecsOwn] at h; rw [h]; rfl
  | (n, a, b, fs) :: r, cs, h => by
    rw [RecsOwn] at h
    obtain ⟨v, cs', rfl, _, _, h⟩ := h
    have := RecsOwn.length h
    simp only [List.length_cons]
    omega
theorem RecsOwn.snoc {w : World} {base : Nat} {K : Nat → Prop} {n a b : Nat} {fs : List (List UInt8)} {v : Value} (ho : w.ownsRow base 9 1 v fs.length (fs.map strV)) (hk : ∀ k, v.ownBlock = some k → K k) :
    ∀ {acc : List RecD} {cs : List Value}, RecsOwn w base K acc cs → RecsOwn w base K (acc ++ [(n, a, b, fs)]) (cs ++ [.int .i64 (n : Nat), .int .i64 (a : Nat), .int .i64 (b : Nat), v])
  | [], cs, h => by
    rw [RecsOwn] at h
    rw [h]
    exact ⟨v, [], rfl, ho, hk, rfl⟩
  | (n', a', b', fs') :: r, cs, h => by
    rw [RecsOwn] at h
    obtain ⟨v', cs', rfl, h1, h2, h3⟩ := h
    exact ⟨v', _, rfl, h1, h2, RecsOwn.snoc ho hk h3⟩
theorem own_block_lt {w : World} {base : Nat} {e : TypeId} {size : Nat} {v : Value} {n : Nat} {xs : List Value} (h : w.ownsRow base e size v n xs) {k : Nat} (hk : v.ownBlock = some k) : base ≤ k ∧ k < w.heap.size ∧ ∃ c fr, w.heap[k]? = some (.cells c e fr) := by
  rcases h.2 with ⟨rfl, _⟩ | ⟨g, cap, cur, rfl, hb, hh, _⟩
  · simp [Value.ownBlock] at hk
  · obtain rfl : g = k := by simpa [Value.ownBlock] using hk
    exact ⟨hb, (Array.getElem?_eq_some_iff.1 hh).1, _, _, hh⟩
theorem own_moves1 {A B : World} {base : Nat} {e : TypeId} {size : Nat} {v : Value} {n : Nat} {xs : List Value} {S : Nat → Prop} (h : A.ownsRow base e size v n xs) (hm : Moves S A B) (hS : ∀ k, v.ownBlock = some k → ¬ S k) : B.ownsRow base e size v n xs := by
  refine ⟨h.1, ?_⟩
  rcases h.2 with hn | ⟨g, cap, cur, rfl, hg, hh, rest⟩
  · exact .inl hn
  · exact .inr ⟨g, cap, cur, rfl, hg, (hm.block _ (Array.getElem?_eq_some_iff.1 hh).1 (hS g (by simp [Value.ownBlock]))).trans hh, rest⟩
/-- What has not been turned stays; the words of the blocks may be others. -/
theorem RecsOwn.moves {A B : World} {base base' : Nat} {K K' S : Nat → Prop} (hm : Moves S A B) (hb : base' ≤ base) (hS : ∀ k, base ≤ k → k < A.heap.size → (∃ c fr, A.heap[k]? = some (.cells c 9 fr)) → K k → ¬ S k ∧ K' k) :
    ∀ {acc : List RecD} {cs : List Value}, RecsOwn A base K acc cs → RecsOwn B base' K' acc cs
  | [], cs, h => h
  | (n, a, b, fs) :: r, cs, h => by
    rw [RecsOwn] at h
    obtain ⟨v, cs', rfl, h1, h2, h3⟩ := h
    have hk : ∀ k, v.ownBlock = some k → ¬ S k ∧ K' k := fun k hk => by
      have := own_block_lt h1 hk
      exact hS k this.1 this.2.1 this.2.2 (h2 k hk)
    exact ⟨v, cs', rfl, own_base (own_moves1 h1 hm fun k h => (hk k h).1) hb, fun k h => (hk k h).2, RecsOwn.moves hm hb hS h3⟩

/-- What records answers. -/
def RecsPost (R : List RecD × ErrR) (w : World) (e : Ending) (w' : World) : Prop :=
  ∃ v cs, e = .returned (.tuple #[v, errRV R.2]) ∧ w'.ownsRow w.heap.size 47 4 v R.1.length cs ∧ RecsOwn w' w.heap.size (fun _ => True) R.1 cs ∧ Below w.heap.size w w'
end Go.Proofs.YtfgnpdfdncnbfaaGreatDoor
