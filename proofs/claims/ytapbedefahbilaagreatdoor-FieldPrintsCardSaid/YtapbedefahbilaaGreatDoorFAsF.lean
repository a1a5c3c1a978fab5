/- errors.As, at a pointer to a lineError and at a pointer to a wrong; told. -/
import Derived.Test.YtapbedefahbilaaGreatDoorFLine
import Derived.Stop.Asserts
import Derived.RowKitTokens
import Derived.LaidEql
namespace Go.Proofs.YtapbedefahbilaaGreatDoor
open Go.RowKit Go.Extern.Stop Go.Stop Go.Extern Go.Shelf

abbrev tD (t : Nat) : Value := .pointer (some ⟨8, t, none⟩)
abbrev rtI (t : Nat) : Value := .iface 123 (.agg #[tD t])
abbrev vA (t : Nat) (p : Addr) (fl : Int) : Value := .agg #[tD t, .pointer (some p), .int .u64 fl]

theorem asKind (h : Value) (w : World) : (Go.method 317 123 (.agg #[h]) "Kind").run Tryz.prog w = .ok (149, h) w := by kernel_rfl
theorem asElem (h : Value) (w : World) : (Go.method 317 123 (.agg #[h]) "Elem").run Tryz.prog w = .ok (161, .agg #[h]) w := by kernel_rfl
theorem asImplements (h : Value) (w : World) : (Go.method 317 123 (.agg #[h]) "Implements").run Tryz.prog w = .ok (162, .agg #[h]) w := by kernel_rfl
theorem asAssignable (h : Value) (w : World) : (Go.method 317 123 (.agg #[h]) "AssignableTo").run Tryz.prog w = .ok (159, .agg #[h]) w := by kernel_rfl
theorem asUnwrap (v : Array Value) (w : World) : (Go.method 317 80 (.agg v) "Unwrap").run Tryz.prog w = .ok (153, .agg v) w := by kernel_rfl
theorem rlm (z : Sem Value) (f : TypeId → Addr → Nat → Nat → Sem Value) (v : Value) :
    ReflectliteValue.method z f #[v] = (do match ← ReflectliteValue.parts v with | none => z | some (t, a, fl) => f t a fl (fl % 32)) := rfl
theorem rls (v x : Value) : ReflectliteValue.set #[v, x] = (do
    let (some (dst, a, fl), some (src, b, _)) := (← ReflectliteValue.parts v, ← ReflectliteValue.parts x)
      | unsupported (.noEntry "extern/(internal/reflectlite.Value).Set.zeroValue")
    if fl / ReflectliteValue.flagAddr % 2 == 0 then unsupported (.noEntry "extern/(internal/reflectlite.Value).Set.unaddressable")
    let val ← loadVar src b
    if ← Rtype.directlyAssignable dst src then storeVar dst a val
    else if ← Rtype.implements dst src then
      if (← Rtype.kind src) == 20 then
        match val with
        | .nilIface => unsupported (.noEntry "extern/reflectlite: a nil value of one interface type handed on as a value of another")
        | _ => storeVar dst a val
      else storeVar dst a (.iface src val)
    else panicString ("reflectlite.Set: value of type " ++ (← Rtype.spelt src) ++ " is not assignable to type " ++ (← Rtype.spelt dst))
    pure (.tuple #[])) := rfl
theorem valueOfPL (t : Addr) (w : World) : (ReflectliteValue.unpack (.iface 83 (.pointer (some t)))).run Tryz.prog w = .ok (vA 83 ⟨w.heap.size, 0, none⟩ 150) (w.alloc (.cells #[.pointer (some t)] 83)) := by kernel_rfl
theorem typePL (a : Addr) (w : World) : (ReflectliteValue.methodAny (ReflectliteValue.valueError "reflectlite.Value.Type" 0) (fun t _ _ _ => ReflectliteType.toType t) #[vA 83 a 150]).run Tryz.prog w = .ok (rtI 83) w := by kernel_rfl
theorem kindPL (w : World) : ((ReflectliteType.abiMethod fun t => (fun a : Nat => Value.int IntKind.u8 (a : Int)) <$> Rtype.kind t) #[tD 83]).run Tryz.prog w = .ok (.int .u8 22) w := by kernel_rfl
theorem kindEL (w : World) : ((ReflectliteType.abiMethod fun t => (fun a : Nat => Value.int IntKind.u8 (a : Int)) <$> Rtype.kind t) #[tD 80]).run Tryz.prog w = .ok (.int .u8 25) w := by kernel_rfl
theorem partsPL (a : Addr) (w : World) : (ReflectliteValue.parts (vA 83 a 150)).run Tryz.prog w = .ok (some (83, a, 150)) w := by kernel_rfl
theorem isNilPL (a p : Addr) (W : World) (ha : W.cell? a = some (.pointer (some p))) :
    (ReflectliteValue.method (ReflectliteValue.valueError "reflectlite.Value.IsNil" 0) ReflectliteValue.isNil #[vA 83 a 150]).run Tryz.prog W = .ok (.bool false) W := by
  rw [rlm]
  simp only [Sem.run_bind, partsPL, Result.andThen]
  simp [ReflectliteValue.isNil, loadVar, isAgg, underlying, Tryz.underlying83, ha, Result.andThen]
theorem elemPL (w : World) : (ReflectliteType.method ReflectliteType.elem #[.agg #[tD 83]]).run Tryz.prog w = .ok (rtI 80) w := by kernel_rfl
theorem implementsL (w : World) : (ReflectliteType.relation "Implements" ReflectliteType.implements_ #[.agg #[tD 80], rtI 51]).run Tryz.prog w = .ok (.bool true) w := by kernel_rfl
theorem typeOfL (v : Value) (w : World) : (ReflectliteType.typeOf #[.iface 80 v]).run Tryz.prog w = .ok (rtI 80) w := by kernel_rfl
theorem elemOfL (w : World) : (Rtype.elem? 83).run Tryz.prog w = .ok (some 80) w := by kernel_rfl
theorem mkL (p : Addr) (w : World) : (ReflectliteValue.mk 80 p ReflectliteValue.flagAddr).run Tryz.prog w = .ok (vA 80 p 409) w := by kernel_rfl
theorem elemVL (a p : Addr) (W : World) (ha : W.cell? a = some (.pointer (some p))) :
    (ReflectliteValue.method (ReflectliteValue.valueError "reflectlite.Value.Elem" 0) ReflectliteValue.elem #[vA 83 a 150]).run Tryz.prog W = .ok (vA 80 p 409) W := by
  rw [rlm]
  simp only [Sem.run_bind, partsPL, Result.andThen]
  simp [ReflectliteValue.elem, loadVar, isAgg, underlying, Tryz.underlying83, ha, Result.andThen, elemOfL, mkL]
theorem partsAL (a : Addr) (w : World) : (ReflectliteValue.parts (vA 80 a 409)).run Tryz.prog w = .ok (some (80, a, 409)) w := by kernel_rfl
theorem partsBL (a : Addr) (w : World) : (ReflectliteValue.parts (vA 80 a 153)).run Tryz.prog w = .ok (some (80, a, 153)) w := by kernel_rfl
theorem directL (w : World) : (Rtype.directlyAssignable 80 80).run Tryz.prog w = .ok true w := by kernel_rfl
theorem noAsL (v : Value) (xT : TypeId) (w : World) : (Instr.typeAssert (.iface 80 v) xT 128 true).run Tryz.prog w = .ok (.tuple #[.nilIface, .bool false]) w := run_typeAssert_lacksB Tryz.underlying128 (by kernel_rfl) (by kernel_rfl) v xT w
theorem noUnwrapsL (v : Value) (xT : TypeId) (w : World) : (Instr.typeAssert (.iface 80 v) xT 133 true).run Tryz.prog w = .ok (.tuple #[.nilIface, .bool false]) w := run_typeAssert_lacksB Tryz.underlying133 (by kernel_rfl) (by kernel_rfl) v xT w
theorem assignLL (w : World) : (ReflectliteType.relation "AssignableTo" ReflectliteType.assignableTo #[.agg #[tD 80], rtI 80]).run Tryz.prog w = .ok (.bool true) w := by kernel_rfl
theorem assignLW (w : World) : (ReflectliteType.relation "AssignableTo" ReflectliteType.assignableTo #[.agg #[tD 80], rtI 81]).run Tryz.prog w = .ok (.bool false) w := by kernel_rfl
theorem valueOfPW (t : Addr) (w : World) : (ReflectliteValue.unpack (.iface 84 (.pointer (some t)))).run Tryz.prog w = .ok (vA 84 ⟨w.heap.size, 0, none⟩ 150) (w.alloc (.cells #[.pointer (some t)] 84)) := by kernel_rfl
theorem typePW (a : Addr) (w : World) : (ReflectliteValue.methodAny (ReflectliteValue.valueError "reflectlite.Value.Type" 0) (fun t _ _ _ => ReflectliteType.toType t) #[vA 84 a 150]).run Tryz.prog w = .ok (rtI 84) w := by kernel_rfl
theorem kindPW (w : World) : ((ReflectliteType.abiMethod fun t => (fun a : Nat => Value.int IntKind.u8 (a : Int)) <$> Rtype.kind t) #[tD 84]).run Tryz.prog w = .ok (.int .u8 22) w := by kernel_rfl
theorem kindEW (w : World) : ((ReflectliteType.abiMethod fun t => (fun a : Nat => Value.int IntKind.u8 (a : Int)) <$> Rtype.kind t) #[tD 81]).run Tryz.prog w = .ok (.int .u8 2) w := by kernel_rfl
theorem partsPW (a : Addr) (w : World) : (ReflectliteValue.parts (vA 84 a 150)).run Tryz.prog w = .ok (some (84, a, 150)) w := by kernel_rfl
theorem isNilPW (a p : Addr) (W : World) (ha : W.cell? a = some (.pointer (some p))) :
    (ReflectliteValue.method (ReflectliteValue.valueError "reflectlite.Value.IsNil" 0) ReflectliteValue.isNil #[vA 84 a 150]).run Tryz.prog W = .ok (.bool false) W := by
  rw [rlm]
  simp only [Sem.run_bind, partsPW, Result.andThen]
  simp [ReflectliteValue.isNil, loadVar, isAgg, underlying, Tryz.underlying84, ha, Result.andThen]
theorem elemPW (w : World) : (ReflectliteType.method ReflectliteType.elem #[.agg #[tD 84]]).run Tryz.prog w = .ok (rtI 81) w := by kernel_rfl
theorem implementsW (w : World) : (ReflectliteType.relation "Implements" ReflectliteType.implements_ #[.agg #[tD 81], rtI 51]).run Tryz.prog w = .ok (.bool true) w := by kernel_rfl
theorem typeOfW (v : Value) (w : World) : (ReflectliteType.typeOf #[.iface 81 v]).run Tryz.prog w = .ok (rtI 81) w := by kernel_rfl
theorem elemOfW (w : World) : (Rtype.elem? 84).run Tryz.prog w = .ok (some 81) w := by kernel_rfl
theorem mkW (p : Addr) (w : World) : (ReflectliteValue.mk 81 p ReflectliteValue.flagAddr).run Tryz.prog w = .ok (vA 81 p 386) w := by kernel_rfl
theorem elemVW (a p : Addr) (W : World) (ha : W.cell? a = some (.pointer (some p))) :
    (ReflectliteValue.method (ReflectliteValue.valueError "reflectlite.Value.Elem" 0) ReflectliteValue.elem #[vA 84 a 150]).run Tryz.prog W = .ok (vA 81 p 386) W := by
  rw [rlm]
  simp only [Sem.run_bind, partsPW, Result.andThen]
  simp [ReflectliteValue.elem, loadVar, isAgg, underlying, Tryz.underlying84, ha, Result.andThen, elemOfW, mkW]
theorem partsAW (a : Addr) (w : World) : (ReflectliteValue.parts (vA 81 a 386)).run Tryz.prog w = .ok (some (81, a, 386)) w := by kernel_rfl
theorem partsBW (a : Addr) (w : World) : (ReflectliteValue.parts (vA 81 a 130)).run Tryz.prog w = .ok (some (81, a, 130)) w := by kernel_rfl
theorem directW (w : World) : (Rtype.directlyAssignable 81 81).run Tryz.prog w = .ok true w := by kernel_rfl
theorem noAsW (v : Value) (xT : TypeId) (w : World) : (Instr.typeAssert (.iface 81 v) xT 128 true).run Tryz.prog w = .ok (.tuple #[.nilIface, .bool false]) w := run_typeAssert_lacksB Tryz.underlying128 (by kernel_rfl) (by kernel_rfl) v xT w
theorem noUnwrapsW (v : Value) (xT : TypeId) (w : World) : (Instr.typeAssert (.iface 81 v) xT 133 true).run Tryz.prog w = .ok (.tuple #[.nilIface, .bool false]) w := run_typeAssert_lacksB Tryz.underlying133 (by kernel_rfl) (by kernel_rfl) v xT w
theorem assignWL (w : World) : (ReflectliteType.relation "AssignableTo" ReflectliteType.assignableTo #[.agg #[tD 81], rtI 80]).run Tryz.prog w = .ok (.bool false) w := by kernel_rfl
theorem assignWW (w : World) : (ReflectliteType.relation "AssignableTo" ReflectliteType.assignableTo #[.agg #[tD 81], rtI 81]).run Tryz.prog w = .ok (.bool true) w := by kernel_rfl
theorem noUnwrapW (v : Value) (xT : TypeId) (w : World) : (Instr.typeAssert (.iface 81 v) xT 131 true).run Tryz.prog w = .ok (.tuple #[.nilIface, .bool false]) w := run_typeAssert_lacksB Tryz.underlying131 (by kernel_rfl) (by kernel_rfl) v xT w
theorem hasUnwrapL (v : Value) (xT : TypeId) (w : World) : (Instr.typeAssert (.iface 80 v) xT 131 true).run Tryz.prog w = .ok (.tuple #[.iface 80 v, .bool true]) w := run_typeAssert_hasB Tryz.underlying131 (by kernel_rfl) v xT w
theorem valueOfW (n : Int) (w : World) : (ReflectliteValue.unpack (.iface 81 (.int .i64 n))).run Tryz.prog w = .ok (vA 81 ⟨w.heap.size, 0, none⟩ 130) (w.alloc (.cells #[.int .i64 n] 81)) := by kernel_rfl
theorem valueOfL (l : Int) (x : Value) (w : World) : (ReflectliteValue.unpack (.iface 80 (.agg #[.int .i64 l, x]))).run Tryz.prog w = .ok (vA 80 ⟨w.heap.size, 0, none⟩ 153) (w.alloc (.cells #[.int .i64 l, x] 80)) := by kernel_rfl
end Go.Proofs.YtapbedefahbilaaGreatDoor
