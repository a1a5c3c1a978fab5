/- errors.As at a pointer to a fault's number; what is wrong, told. -/
import Derived.Test.YtnpbbmoknlbfaaaGreatDoorBase
import Derived.Test.YtnpbbmoknlbfaaaGreatDoorProg
import Derived.Stop.Asserts
import Derived.RowKitTokens
import Derived.LaidEql
namespace Go.Proofs.YtnpbbmoknlbfaaaGreatDoor
open Go.RowKit Go.Extern.Stop Go.Stop Go.Extern Go.Shelf

abbrev tDQK (t : Nat) : Value := .pointer (some ⟨9, t, none⟩)
abbrev rtIQK (t : Nat) : Value := .iface 170 (.agg #[tDQK t])
abbrev vAQK (t : Nat) (p : Addr) (fl : Int) : Value := .agg #[tDQK t, .pointer (some p), .int .u64 fl]
theorem asKindQK (h : Value) (w : World) : (Go.method 366 170 (.agg #[h]) "Kind").run Tryz.prog w = .ok (199, h) w := by kernel_rfl
theorem asElemQK (h : Value) (w : World) : (Go.method 366 170 (.agg #[h]) "Elem").run Tryz.prog w = .ok (212, .agg #[h]) w := by kernel_rfl
theorem asImplementsQK (h : Value) (w : World) : (Go.method 366 170 (.agg #[h]) "Implements").run Tryz.prog w = .ok (213, .agg #[h]) w := by kernel_rfl
theorem asAssignableQK (h : Value) (w : World) : (Go.method 366 170 (.agg #[h]) "AssignableTo").run Tryz.prog w = .ok (210, .agg #[h]) w := by kernel_rfl
theorem asUnwrapQK (v : Array Value) (w : World) : (Go.method 366 134 (.agg v) "Unwrap").run Tryz.prog w = .ok (204, .agg v) w := by kernel_rfl
theorem rlmQK (z : Sem Value) (f : TypeId → Addr → Nat → Nat → Sem Value) (v : Value) :
    ReflectliteValue.method z f #[v] = (do match ← ReflectliteValue.parts v with | none => z | some (t, a, fl) => f t a fl (fl % 32)) := rfl
theorem rlsQK (v x : Value) : ReflectliteValue.set #[v, x] = (do
    let (some (dst, a, fl), some (src, b, _)) := (← ReflectliteValue.parts v, ← ReflectliteValue.parts x)
      | unsupported (.noEntry "extern/(internal/reflectlite.Value).Set.zeroValue")
    if fl / ReflectliteValue.flagAddr % 2 == 0 then unsupported (.noEntry "extern/(internal/reflectlite.Value).Set.unaddressable")
    let val ← loadVar src b
    if ← Rtype.directlyAssignable dst src then storeVar dst a val
    else if ← Rtype.implements dst src then
      if (← Rtype.kind src) == 20 then
        match val with
        | .nilIface => unsupported (.noEntry "extern/reflectlite: a nil value of one interface type handed on as a value of another")
        | _ => storeVar dst a val
      else storeVar dst a (.iface src val)
    else panicString ("reflectlite.Set: value of type " ++ (← Rtype.spelt src) ++ " is not assignable to type " ++ (← Rtype.spelt dst))
    pure (.tuple #[])) := rfl
theorem typeOfLQK (v : Value) (w : World) : (ReflectliteType.typeOf #[.iface 134 v]).run Tryz.prog w = .ok (rtIQK 134) w := by kernel_rfl
theorem noAsLQK (v : Value) (xT : TypeId) (w : World) : (Instr.typeAssert (.iface 134 v) xT 174 true).run Tryz.prog w = .ok (.tuple #[.nilIface, .bool false]) w := run_typeAssert_lacksB Tryz.underlying174 (by kernel_rfl) (by kernel_rfl) v xT w
theorem hasUnwrapLQK (v : Value) (xT : TypeId) (w : World) : (Instr.typeAssert (.iface 134 v) xT 177 true).run Tryz.prog w = .ok (.tuple #[.iface 134 v, .bool true]) w := run_typeAssert_hasB Tryz.underlying177 (by kernel_rfl) v xT w
theorem assignLWQK (w : World) : (ReflectliteType.relation "AssignableTo" ReflectliteType.assignableTo #[.agg #[tDQK 134], rtIQK 101]).run Tryz.prog w = .ok (.bool false) w := by kernel_rfl
theorem valueOfPWQK (t : Addr) (w : World) : (ReflectliteValue.unpack (.iface 103 (.pointer (some t)))).run Tryz.prog w = .ok (vAQK 103 ⟨w.heap.size, 0, none⟩ 150) (w.alloc (.cells #[.pointer (some t)] 103)) := by kernel_rfl
theorem typePWQK (a : Addr) (w : World) : (ReflectliteValue.methodAny (ReflectliteValue.valueError "reflectlite.Value.Type" 0) (fun t _ _ _ => ReflectliteType.toType t) #[vAQK 103 a 150]).run Tryz.prog w = .ok (rtIQK 103) w := by kernel_rfl
theorem kindPWQK (w : World) : ((ReflectliteType.abiMethod fun t => (fun a : Nat => Value.int IntKind.u8 (a : Int)) <$> Rtype.kind t) #[tDQK 103]).run Tryz.prog w = .ok (.int .u8 22) w := by kernel_rfl
theorem kindEWQK (w : World) : ((ReflectliteType.abiMethod fun t => (fun a : Nat => Value.int IntKind.u8 (a : Int)) <$> Rtype.kind t) #[tDQK 101]).run Tryz.prog w = .ok (.int .u8 2) w := by kernel_rfl
theorem partsPWQK (a : Addr) (w : World) : (ReflectliteValue.parts (vAQK 103 a 150)).run Tryz.prog w = .ok (some (103, a, 150)) w := by kernel_rfl
theorem isNilPWQK (a p : Addr) (W : World) (ha : W.cell? a = some (.pointer (some p))) :
    (ReflectliteValue.method (ReflectliteValue.valueError "reflectlite.Value.IsNil" 0) ReflectliteValue.isNil #[vAQK 103 a 150]).run Tryz.prog W = .ok (.bool false) W := by
  rw [rlmQK]
  simp only [Sem.run_bind, partsPWQK, Result.andThen]
  simp [ReflectliteValue.isNil, loadVar, isAgg, underlying, Tryz.underlying103, ha, Result.andThen]
theorem elemPWQK (w : World) : (ReflectliteType.method ReflectliteType.elem #[.agg #[tDQK 103]]).run Tryz.prog w = .ok (rtIQK 101) w := by kernel_rfl
theorem implementsWQK (w : World) : (ReflectliteType.relation "Implements" ReflectliteType.implements_ #[.agg #[tDQK 101], rtIQK 65]).run Tryz.prog w = .ok (.bool true) w := by kernel_rfl
theorem typeOfWQK (v : Value) (w : World) : (ReflectliteType.typeOf #[.iface 101 v]).run Tryz.prog w = .ok (rtIQK 101) w := by kernel_rfl
theorem elemOfWQK (w : World) : (Rtype.elem? 103).run Tryz.prog w = .ok (some 101) w := by kernel_rfl
theorem mkWQK (p : Addr) (w : World) : (ReflectliteValue.mk 101 p ReflectliteValue.flagAddr).run Tryz.prog w = .ok (vAQK 101 p 386) w := by kernel_rfl
theorem elemVWQK (a p : Addr) (W : World) (ha : W.cell? a = some (.pointer (some p))) :
    (ReflectliteValue.method (ReflectliteValue.valueError "reflectlite.Value.Elem" 0) ReflectliteValue.elem #[vAQK 103 a 150]).run Tryz.prog W = .ok (vAQK 101 p 386) W := by
  rw [rlmQK]
  simp only [Sem.run_bind, partsPWQK, Result.andThen]
  simp [ReflectliteValue.elem, loadVar, isAgg, underlying, Tryz.underlying103, ha, Result.andThen, elemOfWQK, mkWQK]
theorem partsAWQK (a : Addr) (w : World) : (ReflectliteValue.parts (vAQK 101 a 386)).run Tryz.prog w = .ok (some (101, a, 386)) w := by kernel_rfl
theorem partsBWQK (a : Addr) (w : World) : (ReflectliteValue.parts (vAQK 101 a 130)).run Tryz.prog w = .ok (some (101, a, 130)) w := by kernel_rfl
theorem directWQK (w : World) : (Rtype.directlyAssignable 101 101).run Tryz.prog w = .ok true w := by kernel_rfl
theorem assignWWQK (w : World) : (ReflectliteType.relation "AssignableTo" ReflectliteType.assignableTo #[.agg #[tDQK 101], rtIQK 101]).run Tryz.prog w = .ok (.bool true) w := by kernel_rfl
theorem valueOfWQK (n : Int) (w : World) : (ReflectliteValue.unpack (.iface 101 (.int .i64 n))).run Tryz.prog w = .ok (vAQK 101 ⟨w.heap.size, 0, none⟩ 130) (w.alloc (.cells #[.int .i64 n] 101)) := by kernel_rfl
theorem setWQK (ta b : Addr) (n : Int) (old : Value) (W : World) (hb : W.cell? b = some (.int .i64 n)) (ht : W.cell? ta = some old) (hf : W.frozen? ta = false) :
    (ReflectliteValue.set #[vAQK 101 ta 386, vAQK 101 b 130]).run Tryz.prog W = .ok (.tuple #[]) (W.setCell ta (.int .i64 n)) := by
  rw [rlsQK]
  simp only [Sem.run_bind, partsAWQK, partsBWQK, Result.andThen]
  simp [ReflectliteValue.flagAddr, loadVar, isAgg, underlying, Tryz.underlying101, hb, Result.andThen, directWQK, storeVar, Value.cells, storeCells, Addr.add]
  rw [run_store Tryz.prog W ta _ _ (by rfl)]
  simp [ht, hf]
theorem as_nilQK (t : Value) (w : World) : Calls Tryz.prog 82 #[.nilIface, t] w fun e w' => e = .returned (.bool false) ∧ w = w' := by
  go_enter Tryz.func82, Tryz.ntmps82
  go_wp2
  go_ret
  exact ⟨rfl, rfl⟩
theorem below_setCell2QK {n : Nat} {a b : World} (h : Below n a b) (p : Addr) (v : Value) : Below n (a.setCell p v) (b.setCell p v) := by
  refine ⟨h.os, h.tape, h.output, by simpa using h.size, fun k hk => ?_⟩
  unfold World.setCell
  simp only [Array.getElem?_modify]
  rw [h.block k hk]
theorem unwrap_anyQK (l : ByteArray) (n : Int) (w : World) :
    Calls Tryz.prog 204 #[.agg #[.string l, .int .i64 n]] w fun e w' => e = .returned (.iface 101 (.int .i64 n)) ∧ w.alloc (.cells #[.string l, .int .i64 n] 134) = w' := by
  go_enter Tryz.func204, Tryz.ntmps204
  go_wp2
  go_ret
  exact ⟨rfl, rfl⟩
set_option maxHeartbeats 4000000 in
/-- errors.as: the error is a line's, the target is what it wraps. -/
theorem as_throughQK (l : ByteArray) (n : Int) (g v : Nat) (old : Value) (w : World) (hv : w.cell? ⟨v, 0, none⟩ = some (.pointer (some ⟨g, 0, none⟩))) (ht : w.heap[g]? = some (.cells #[old] 101 (0, 0))) :
    Calls Tryz.prog 106 #[.iface 134 (.agg #[.string l, .int .i64 n]), .iface 103 (.pointer (some ⟨g, 0, none⟩)), vAQK 103 ⟨v, 0, none⟩ 150, rtIQK 101] w fun e w' => e = .returned (.bool true) ∧ Below w.heap.size (w.setCell ⟨g, 0, none⟩ (.int .i64 n)) w' := by
  have h10 := @run_callFunc_extern Tryz.prog 127 _ ReflectliteType.typeOf Tryz.func127 (by kernel_rfl) (by kernel_rfl) (by kernel_rfl) (by kernel_rfl)
  have h35 := @run_callFunc_extern Tryz.prog 210 _ (ReflectliteType.relation "AssignableTo" ReflectliteType.assignableTo) Tryz.func210 (by kernel_rfl) (by kernel_rfl) (by kernel_rfl) (by kernel_rfl)
  have h6 := @run_callFunc_extern Tryz.prog 103 _ (fun args => ReflectliteValue.unpack (args.getD 0 (.tuple #[]))) Tryz.func103 (by kernel_rfl) (by kernel_rfl) (by kernel_rfl) (by kernel_rfl)
  have h11 := @run_callFunc_extern Tryz.prog 131 _ (ReflectliteValue.method (ReflectliteValue.valueError "reflectlite.Value.Elem" 0) ReflectliteValue.elem) Tryz.func131 (by kernel_rfl) (by kernel_rfl) (by kernel_rfl) (by kernel_rfl)
  have h12 := @run_callFunc_extern Tryz.prog 132 _ ReflectliteValue.set Tryz.func132 (by kernel_rfl) (by kernel_rfl) (by kernel_rfl) (by kernel_rfl)
  have tO := typeOfWQK
  have tL := typeOfLQK
  have mA := asAssignableQK
  have mU := asUnwrapQK
  have aW := assignWWQK
  have aL := assignLWQK
  have vW := valueOfWQK
  have nA := noAsLQK
  have hU := hasUnwrapLQK
  have c0 : w.cell? ⟨g, 0, none⟩ = some old := by rw [cell_of_row _ _ 0 _ _ _ ht]; rfl
  have f0 : w.frozen? ⟨g, 0, none⟩ = false := frozen_of_row _ _ 0 _ _ ht
  have lg : g < w.heap.size := (Array.getElem?_eq_some_iff.1 ht).1
  have lv : v < w.heap.size := World.block_lt_of_cell? w _ hv
  have el := elemVWQK ⟨v, 0, none⟩ ⟨g, 0, none⟩ ((w.alloc (.cells #[tDQK 103, .pointer (some ⟨v, 0, none⟩), .int .u64 150] 138)).alloc (.cells #[.string l, .int .i64 n] 134)) (by rw [World.cell?_alloc_lt _ _ ⟨v, 0, none⟩ (by simp; omega), World.cell?_alloc_lt _ _ ⟨v, 0, none⟩ lv]; exact hv)
  have st := setWQK ⟨g, 0, none⟩ ⟨w.heap.size + 1 + 1, 0, none⟩ n old (((w.alloc (.cells #[tDQK 103, .pointer (some ⟨v, 0, none⟩), .int .u64 150] 138)).alloc (.cells #[.string l, .int .i64 n] 134)).alloc (.cells #[.int .i64 n] 101))
    (by rw [World.cell?_alloc_at _ _ _ _ (by simp)]; rfl)
    (by rw [World.cell?_alloc_lt _ _ ⟨g, 0, none⟩ (by simp; omega), World.cell?_alloc_lt _ _ ⟨g, 0, none⟩ (by simp; omega), World.cell?_alloc_lt _ _ ⟨g, 0, none⟩ lg]; exact c0)
    (by rw [World.frozen?_alloc_old _ _ ⟨g, 0, none⟩ (by simp; omega), World.frozen?_alloc_old _ _ ⟨g, 0, none⟩ (by simp; omega), World.frozen?_alloc_old _ _ ⟨g, 0, none⟩ (Nat.ne_of_lt lg)]; exact f0)
  go_enter Tryz.func106, Tryz.ntmps106
  go_wp2_with fail
  refine wp_loop_rounds 2 ?_
  rw [rounds_succ]
  go_wp2
  rw [rounds_succ]
  go_wp2
  go_ret
  exact ⟨rfl, below_setCell2QK ((((Below.refl w.heap.size w).alloc (Nat.le_refl _) _).alloc (by simp) _).alloc (by simp; omega) _) _ _⟩
set_option maxHeartbeats 4000000 in
/-- errors.As, by what errors.as answers. -/
theorem as_frontWQK (err : Value) (T : TypeId) (hT : ∃ z, err = .iface T z) (g : Nat) (w : World) (hg : w.cell? ⟨2, 0, none⟩ = some (rtIQK 65)) (b : Bool) (R : World → Prop)
    (hA : Calls Tryz.prog 106 #[err, .iface 103 (.pointer (some ⟨g, 0, none⟩)), vAQK 103 ⟨w.heap.size, 0, none⟩ 150, rtIQK 101] ((w.alloc (.cells #[.pointer (some ⟨g, 0, none⟩)] 103)).alloc (.cells #[tDQK 103, .pointer (some ⟨w.heap.size, 0, none⟩), .int .u64 150] 138)) fun e w' => e = .returned (.bool b) ∧ R w') :
    Calls Tryz.prog 82 #[err, .iface 103 (.pointer (some ⟨g, 0, none⟩))] w fun e w' => e = .returned (.bool b) ∧ R w' := by
  obtain ⟨z, rfl⟩ := hT
  have h6 := @run_callFunc_extern Tryz.prog 103 _ (fun args => ReflectliteValue.unpack (args.getD 0 (.tuple #[]))) Tryz.func103 (by kernel_rfl) (by kernel_rfl) (by kernel_rfl) (by kernel_rfl)
  have h7 := @run_callFunc_extern Tryz.prog 104 _ (ReflectliteValue.methodAny (ReflectliteValue.valueError "reflectlite.Value.Type" 0) (fun t _ _ _ => ReflectliteType.toType t)) Tryz.func104 (by kernel_rfl) (by kernel_rfl) (by kernel_rfl) (by kernel_rfl)
  have h8 := @run_callFunc_extern Tryz.prog 105 _ (ReflectliteValue.method (ReflectliteValue.valueError "reflectlite.Value.IsNil" 0) ReflectliteValue.isNil) Tryz.func105 (by kernel_rfl) (by kernel_rfl) (by kernel_rfl) (by kernel_rfl)
  have h27 := @run_callFunc_extern Tryz.prog 199 _ (ReflectliteType.abiMethod fun t => do pure (.int .u8 (← Rtype.kind t))) Tryz.func199 (by kernel_rfl) (by kernel_rfl) (by kernel_rfl) (by kernel_rfl)
  have h37 := @run_callFunc_extern Tryz.prog 212 _ (ReflectliteType.method ReflectliteType.elem) Tryz.func212 (by kernel_rfl) (by kernel_rfl) (by kernel_rfl) (by kernel_rfl)
  have h38 := @run_callFunc_extern Tryz.prog 213 _ (ReflectliteType.relation "Implements" ReflectliteType.implements_) Tryz.func213 (by kernel_rfl) (by kernel_rfl) (by kernel_rfl) (by kernel_rfl)
  have f6 := valueOfPWQK
  have f7 := typePWQK
  have mK := asKindQK
  have mE := asElemQK
  have mI := asImplementsQK
  have kP := kindPWQK
  have kE := kindEWQK
  have eP := elemPWQK
  have iE := implementsWQK
  have n8 := isNilPWQK ⟨w.heap.size, 0, none⟩ ⟨g, 0, none⟩ ((w.alloc (.cells #[.pointer (some ⟨g, 0, none⟩)] 103)).alloc (.cells #[tDQK 103, .pointer (some ⟨w.heap.size, 0, none⟩), .int .u64 150] 138)) (by simp)
  have lg := World.block_lt_of_cell? w _ hg
  have hg2 : ((w.alloc (.cells #[.pointer (some ⟨g, 0, none⟩)] 103)).alloc (.cells #[tDQK 103, .pointer (some ⟨w.heap.size, 0, none⟩), .int .u64 150] 138)).cell? ⟨2, 0, none⟩ = some (rtIQK 65) := by
    rw [World.cell?_alloc_lt _ _ ⟨2, 0, none⟩ (by simp only [World.size_alloc]; exact Nat.lt_succ_of_lt lg), World.cell?_alloc_lt _ _ ⟨2, 0, none⟩ lg]; exact hg
  have HA := Lib.hid hA
  clear hA
  go_enter Tryz.func82, Tryz.ntmps82
  go_wp2_with fail
  refine HA.out.mono ?_
  rintro e w' ⟨rfl, hR⟩
  have HR := Lib.hid hR
  clear hR
  go_wp2
  go_ret
  exact ⟨rfl, HR.out⟩
theorem row_twoQK {w : World} {A B o : Obj} {g : Nat} (h : w.heap[g]? = some o) : ((w.alloc A).alloc B).heap[g]? = some o := by
  have hg := (Array.getElem?_eq_some_iff.1 h).1
  rw [Below.heap_alloc _ _ _ (by simp; omega), Below.heap_alloc _ _ _ hg]
  exact h
theorem asW_throughQK (l : ByteArray) (n : Int) (g : Nat) (old : Value) (w : World) (hG : w.cell? ⟨2, 0, none⟩ = some (rtIQK 65)) (ht : w.heap[g]? = some (.cells #[old] 101 (0, 0))) :
    Calls Tryz.prog 82 #[.iface 134 (.agg #[.string l, .int .i64 n]), .iface 103 (.pointer (some ⟨g, 0, none⟩))] w fun e w' => e = .returned (.bool true) ∧ Below w.heap.size (w.setCell ⟨g, 0, none⟩ (.int .i64 n)) w' :=
  as_frontWQK _ 134 ⟨_, rfl⟩ g w hG true (Below w.heap.size (w.setCell ⟨g, 0, none⟩ (.int .i64 n)))
    ((as_throughQK l n g w.heap.size old _ (by simp) (row_twoQK ht)).mono fun _ _ ⟨h1, h2⟩ => ⟨h1, (below_setCell2QK (((Below.refl w.heap.size w).alloc (Nat.le_refl _) _).alloc (by simp) _) _ _).trans (h2.mono (by simp; omega))⟩)

abbrev faultK (l : ByteArray) (n : Int) : Value := .iface 134 (.agg #[.string l, .int .i64 n])
theorem inK_any (l : ByteArray) (n : Int) (w : World) : Calls Tryz.prog 79 #[.string l, .int .i64 n] w fun e w' => e = .returned (faultK l n) ∧ w = w' := by
  go_enter Tryz.func79, Tryz.ntmps79
  go_wp2
  go_ret
  exact ⟨rfl, rfl⟩
theorem toldK_nil (w : World) : Calls Tryz.prog 53 #[.nilIface] w fun e w' => e = .returned (.int .i64 0) ∧ Below w.heap.size w w' := by
  go_enter Tryz.func53, Tryz.ntmps53
  go_wp2_with fail
  refine (as_nilQK _ _).mono ?_
  rintro e w' ⟨rfl, rfl⟩
  go_wp2
  go_ret
  exact ⟨rfl, (Below.refl _ _).alloc (Nat.le_refl _) _⟩
theorem toldK_fault (l : ByteArray) (n : Int) (w : World) (hG : w.cell? ⟨2, 0, none⟩ = some (rtIQK 65)) : Calls Tryz.prog 53 #[faultK l n] w fun e w' => e = .returned (.int .i64 n) ∧ Below w.heap.size w w' := by
  have A0 : Below w.heap.size w (w.alloc (.cells #[.int .i64 0] 101)) := (Below.refl _ _).alloc (Nat.le_refl _) _
  have hG0 : (w.alloc (.cells #[.int .i64 0] 101)).cell? ⟨2, 0, none⟩ = some (rtIQK 65) := (A0.cell (World.block_lt_of_cell? w _ hG)).trans hG
  have r0 : (w.alloc (.cells #[.int .i64 0] 101)).heap[w.heap.size]? = some (.cells #[.int .i64 0] 101 (0, 0)) := heap_alloc_new _ _
  have HH := Lib.hid (asW_throughQK l n w.heap.size _ _ hG0 r0)
  have HA0 := Lib.hid A0
  have R0 := Lib.hid r0
  clear A0 r0 hG0
  go_enter Tryz.func53, Tryz.ntmps53
  go_wp2_with fail
  refine HH.out.mono ?_
  rintro e w1 ⟨rfl, b1⟩
  have c0 : w1.cell? ⟨w.heap.size, 0, none⟩ = some (.int .i64 n) := by
    rw [show w1.cell? ⟨w.heap.size, 0, none⟩ = ((w.alloc (.cells #[.int .i64 0] 101)).setCell ⟨w.heap.size, 0, none⟩ (.int .i64 n)).cell? ⟨w.heap.size, 0, none⟩ from World.cell?_of_block (b1.block _ (by simp))]
    rw [cell_of_row _ _ 0 _ _ _ (heap_setCell_same _ _ 0 _ _ _ R0.out)]; rfl
  have HB1 := Lib.hid ((HA0.out.setCell (p := ⟨w.heap.size, 0, none⟩) (by simp) (.int .i64 n)).trans (b1.mono (by simp)))
  clear b1
  go_wp2
  go_ret
  exact ⟨rfl, HB1.out⟩
end Go.Proofs.YtnpbbmoknlbfaaaGreatDoor
