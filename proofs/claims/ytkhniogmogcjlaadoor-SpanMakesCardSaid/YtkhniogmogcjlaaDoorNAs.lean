/- errors.As at a pointer to a fault; told. -/
import Derived.Test.YtkhniogmogcjlaaDoorNFind
import Derived.Stop.Asserts
import Derived.RowKitTokens
import Derived.LaidEql
namespace Go.Proofs.YtkhniogmogcjlaaDoor
open Go.RowKit Go.Extern.Stop Go.Stop Go.Extern Go.Shelf

abbrev tD (t : Nat) : Value := .pointer (some ⟨1, t, none⟩)
abbrev rtI (t : Nat) : Value := .iface 105 (.agg #[tD t])
abbrev vA (t : Nat) (p : Addr) (fl : Int) : Value := .agg #[tD t, .pointer (some p), .int .u64 fl]
theorem asKind (h : Value) (w : World) : (Go.method 272 105 (.agg #[h]) "Kind").run Tryd.prog w = .ok (110, h) w := by kernel_rfl
theorem asElem (h : Value) (w : World) : (Go.method 272 105 (.agg #[h]) "Elem").run Tryd.prog w = .ok (120, .agg #[h]) w := by kernel_rfl
theorem asImplements (h : Value) (w : World) : (Go.method 272 105 (.agg #[h]) "Implements").run Tryd.prog w = .ok (121, .agg #[h]) w := by kernel_rfl
theorem asAssignable (h : Value) (w : World) : (Go.method 272 105 (.agg #[h]) "AssignableTo").run Tryd.prog w = .ok (118, .agg #[h]) w := by kernel_rfl
theorem rlm (z : Sem Value) (f : TypeId → Addr → Nat → Nat → Sem Value) (v : Value) :
    ReflectliteValue.method z f #[v] = (do match ← ReflectliteValue.parts v with | none => z | some (t, a, fl) => f t a fl (fl % 32)) := rfl
theorem rls (v x : Value) : ReflectliteValue.set #[v, x] = (do
    let (some (dst, a, fl), some (src, b, _)) := (← ReflectliteValue.parts v, ← ReflectliteValue.parts x)
      | unsupported (.noEntry "extern/(internal/reflectlite.Value).Set.zeroValue")
    if fl / ReflectliteValue.flagAddr % 2 == 0 then unsupported (.noEntry "extern/(internal/reflectlite.Value).Set.unaddressable")
    let val ← loadVar src b
    if ← Rtype.directlyAssignable dst src then storeVar dst a val
    else if ← Rtype.implements dst src then
      if (← Rtype.kind src) == 20 then
        match val with
        | .nilIface => unsupported (.noEntry "extern/reflectlite: a nil value of one interface type handed on as a value of another")
        | _ => storeVar dst a val
      else storeVar dst a (.iface src val)
    else panicString ("reflectlite.Set: value of type " ++ (← Rtype.spelt src) ++ " is not assignable to type " ++ (← Rtype.spelt dst))
    pure (.tuple #[])) := rfl
theorem valueOfPL (t : Addr) (w : World) : (ReflectliteValue.unpack (.iface 65 (.pointer (some t)))).run Tryd.prog w = .ok (vA 65 ⟨w.heap.size, 0, none⟩ 150) (w.alloc (.cells #[.pointer (some t)] 65)) := by kernel_rfl
theorem typePL (a : Addr) (w : World) : (ReflectliteValue.methodAny (ReflectliteValue.valueError "reflectlite.Value.Type" 0) (fun t _ _ _ => ReflectliteType.toType t) #[vA 65 a 150]).run Tryd.prog w = .ok (rtI 65) w := by kernel_rfl
theorem kindPL (w : World) : ((ReflectliteType.abiMethod fun t => (fun a : Nat => Value.int IntKind.u8 (a : Int)) <$> Rtype.kind t) #[tD 65]).run Tryd.prog w = .ok (.int .u8 22) w := by kernel_rfl
theorem kindEL (w : World) : ((ReflectliteType.abiMethod fun t => (fun a : Nat => Value.int IntKind.u8 (a : Int)) <$> Rtype.kind t) #[tD 63]).run Tryd.prog w = .ok (.int .u8 25) w := by kernel_rfl
theorem partsPL (a : Addr) (w : World) : (ReflectliteValue.parts (vA 65 a 150)).run Tryd.prog w = .ok (some (65, a, 150)) w := by kernel_rfl
theorem isNilPL (a p : Addr) (W : World) (ha : W.cell? a = some (.pointer (some p))) :
    (ReflectliteValue.method (ReflectliteValue.valueError "reflectlite.Value.IsNil" 0) ReflectliteValue.isNil #[vA 65 a 150]).run Tryd.prog W = .ok (.bool false) W := by
  rw [rlm]
  simp only [Sem.run_bind, partsPL, Result.andThen]
  simp [ReflectliteValue.isNil, loadVar, isAgg, underlying, Tryd.underlying65, ha, Result.andThen]
theorem elemPL (w : World) : (ReflectliteType.method ReflectliteType.elem #[.agg #[tD 65]]).run Tryd.prog w = .ok (rtI 63) w := by kernel_rfl
theorem implementsL (w : World) : (ReflectliteType.relation "Implements" ReflectliteType.implements_ #[.agg #[tD 63], rtI 48]).run Tryd.prog w = .ok (.bool true) w := by kernel_rfl
theorem typeOfL (v : Value) (w : World) : (ReflectliteType.typeOf #[.iface 63 v]).run Tryd.prog w = .ok (rtI 63) w := by kernel_rfl
theorem elemOfL (w : World) : (Rtype.elem? 65).run Tryd.prog w = .ok (some 63) w := by kernel_rfl
theorem mkL (p : Addr) (w : World) : (ReflectliteValue.mk 63 p ReflectliteValue.flagAddr).run Tryd.prog w = .ok (vA 63 p 409) w := by kernel_rfl
theorem elemVL (a p : Addr) (W : World) (ha : W.cell? a = some (.pointer (some p))) :
    (ReflectliteValue.method (ReflectliteValue.valueError "reflectlite.Value.Elem" 0) ReflectliteValue.elem #[vA 65 a 150]).run Tryd.prog W = .ok (vA 63 p 409) W := by
  rw [rlm]
  simp only [Sem.run_bind, partsPL, Result.andThen]
  simp [ReflectliteValue.elem, loadVar, isAgg, underlying, Tryd.underlying65, ha, Result.andThen, elemOfL, mkL]
theorem partsAL (a : Addr) (w : World) : (ReflectliteValue.parts (vA 63 a 409)).run Tryd.prog w = .ok (some (63, a, 409)) w := by kernel_rfl
theorem partsBL (a : Addr) (w : World) : (ReflectliteValue.parts (vA 63 a 153)).run Tryd.prog w = .ok (some (63, a, 153)) w := by kernel_rfl
theorem directL (w : World) : (Rtype.directlyAssignable 63 63).run Tryd.prog w = .ok true w := by kernel_rfl
theorem assignLL (w : World) : (ReflectliteType.relation "AssignableTo" ReflectliteType.assignableTo #[.agg #[tD 63], rtI 63]).run Tryd.prog w = .ok (.bool true) w := by kernel_rfl
theorem valueOfL (l : Int) (x : Value) (w : World) : (ReflectliteValue.unpack (.iface 63 (.agg #[.int .i64 l, x]))).run Tryd.prog w = .ok (vA 63 ⟨w.heap.size, 0, none⟩ 153) (w.alloc (.cells #[.int .i64 l, x] 63)) := by kernel_rfl
theorem setL (g h : Nat) (l n : Int) (u v : Value) (W : World) (hb : W.heap[h]? = some (.cells #[.int .i64 l, .int .i64 n] 63 (0, 0))) (ht : W.heap[g]? = some (.cells #[u, v] 63 (0, 0))) :
    (ReflectliteValue.set #[vA 63 ⟨g, 0, none⟩ 409, vA 63 ⟨h, 0, none⟩ 153]).run Tryd.prog W = .ok (.tuple #[]) (W.setRow g #[.int .i64 l, .int .i64 n]) := by
  rw [rls]
  simp only [Sem.run_bind, partsAL, partsBL, Result.andThen]
  have h1 := run_loadVar_row W h 63 63 _ (0, 0) _ hb Tryd.underlying63 rfl (by kernel_rfl)
  have h2 := run_storeVar_row (P := Tryd.prog) W g 63 63 _ #[.int .i64 l, .int .i64 n] ht (by kernel_rfl) rfl (by simp [Value.oneCell'])
  have hf : (409 / ReflectliteValue.flagAddr % 2 == 0) = false := by decide
  simp only [hf, Bool.false_eq_true, if_false, Sem.run_bind, h1, Result.andThen, directL, if_true, h2, Sem.run_pure]
theorem as_nil (t : Value) (w : World) : Calls Tryd.prog 42 #[.nilIface, t] w fun e w' => e = .returned (.bool false) ∧ w = w' := by
  go_enter Tryd.func42, Tryd.ntmps42
  go_wp2
  go_ret
  exact ⟨rfl, rfl⟩
theorem below_setRow2 {n g : Nat} {a b : World} (h : Below n a b) (cs : Array Value) : Below n (a.setRow g cs) (b.setRow g cs) := by
  refine ⟨h.os, h.tape, h.output, by simpa using h.size, fun k hk => ?_⟩
  unfold World.setRow
  simp only [Array.getElem?_modify]
  rw [h.block k hk]
set_option maxHeartbeats 4000000 in
/-- errors.as: the error is a line's, and so is the target. -/
theorem as_hitL (l n : Int) (g v : Nat) (x y : Value) (w : World) (hv : w.cell? ⟨v, 0, none⟩ = some (.pointer (some ⟨g, 0, none⟩))) (ht : w.heap[g]? = some (.cells #[x, y] 63 (0, 0))) :
    Calls Tryd.prog 55 #[.iface 63 (.agg #[.int .i64 l, .int .i64 n]), .iface 65 (.pointer (some ⟨g, 0, none⟩)), vA 65 ⟨v, 0, none⟩ 150, rtI 63] w fun e w' => e = .returned (.bool true) ∧ Below w.heap.size (w.setRow g #[.int .i64 l, .int .i64 n]) w' := by
  have h10 := @run_callFunc_extern Tryd.prog 66 _ ReflectliteType.typeOf Tryd.func66 (by kernel_rfl) (by kernel_rfl) (by kernel_rfl) (by kernel_rfl)
  have h35 := @run_callFunc_extern Tryd.prog 118 _ (ReflectliteType.relation "AssignableTo" ReflectliteType.assignableTo) Tryd.func118 (by kernel_rfl) (by kernel_rfl) (by kernel_rfl) (by kernel_rfl)
  have h6 := @run_callFunc_extern Tryd.prog 52 _ (fun args => ReflectliteValue.unpack (args.getD 0 (.tuple #[]))) Tryd.func52 (by kernel_rfl) (by kernel_rfl) (by kernel_rfl) (by kernel_rfl)
  have h11 := @run_callFunc_extern Tryd.prog 67 _ (ReflectliteValue.method (ReflectliteValue.valueError "reflectlite.Value.Elem" 0) ReflectliteValue.elem) Tryd.func67 (by kernel_rfl) (by kernel_rfl) (by kernel_rfl) (by kernel_rfl)
  have h12 := @run_callFunc_extern Tryd.prog 68 _ ReflectliteValue.set Tryd.func68 (by kernel_rfl) (by kernel_rfl) (by kernel_rfl) (by kernel_rfl)
  have tO := typeOfL
  have mA := asAssignable
  have aL := assignLL
  have vL := valueOfL
  have lg : g < w.heap.size := (Array.getElem?_eq_some_iff.1 ht).1
  have lv : v < w.heap.size := World.block_lt_of_cell? w _ hv
  have el := elemVL ⟨v, 0, none⟩ ⟨g, 0, none⟩ (w.alloc (.cells #[tD 65, .pointer (some ⟨v, 0, none⟩), .int .u64 150] 83)) (by rw [World.cell?_alloc_lt _ _ ⟨v, 0, none⟩ lv]; exact hv)
  have st := setL g (w.heap.size + 1) l n x y ((w.alloc (.cells #[tD 65, .pointer (some ⟨v, 0, none⟩), .int .u64 150] 83)).alloc (.cells #[.int .i64 l, .int .i64 n] 63))
    (by have := heap_alloc_new (w.alloc (.cells #[tD 65, .pointer (some ⟨v, 0, none⟩), .int .u64 150] 83)) (.cells #[.int .i64 l, .int .i64 n] 63); rwa [World.size_alloc] at this)
    ((Below.heap_alloc _ _ _ (by simp; omega)).trans ((Below.heap_alloc _ _ _ (by omega)).trans ht))
  have hb2 := below_setRow2 (g := g) (((Below.refl w.heap.size w).alloc (Nat.le_refl _) (.cells #[tD 65, .pointer (some ⟨v, 0, none⟩), .int .u64 150] 83)).alloc (by simp) (.cells #[.int .i64 l, .int .i64 n] 63)) #[.int .i64 l, .int .i64 n]
  have HB := Lib.hid hb2
  clear hb2
  go_enter Tryd.func55, Tryd.ntmps55
  go_wp2_with fail
  refine wp_loop_rounds 1 ?_
  rw [rounds_succ]
  go_wp2
  go_ret
  exact ⟨rfl, HB.out⟩
set_option maxHeartbeats 4000000 in
/-- errors.As, by what errors.as answers. -/
theorem as_frontL (err : Value) (T : TypeId) (hT : ∃ z, err = .iface T z) (g : Nat) (w : World) (hg : w.cell? ⟨0, 0, none⟩ = some (rtI 48)) (b : Bool) (R : World → Prop)
    (hA : Calls Tryd.prog 55 #[err, .iface 65 (.pointer (some ⟨g, 0, none⟩)), vA 65 ⟨w.heap.size, 0, none⟩ 150, rtI 63] ((w.alloc (.cells #[.pointer (some ⟨g, 0, none⟩)] 65)).alloc (.cells #[tD 65, .pointer (some ⟨w.heap.size, 0, none⟩), .int .u64 150] 83)) fun e w' => e = .returned (.bool b) ∧ R w') :
    Calls Tryd.prog 42 #[err, .iface 65 (.pointer (some ⟨g, 0, none⟩))] w fun e w' => e = .returned (.bool b) ∧ R w' := by
  obtain ⟨z, rfl⟩ := hT
  have h6 := @run_callFunc_extern Tryd.prog 52 _ (fun args => ReflectliteValue.unpack (args.getD 0 (.tuple #[]))) Tryd.func52 (by kernel_rfl) (by kernel_rfl) (by kernel_rfl) (by kernel_rfl)
  have h7 := @run_callFunc_extern Tryd.prog 53 _ (ReflectliteValue.methodAny (ReflectliteValue.valueError "reflectlite.Value.Type" 0) (fun t _ _ _ => ReflectliteType.toType t)) Tryd.func53 (by kernel_rfl) (by kernel_rfl) (by kernel_rfl) (by kernel_rfl)
  have h8 := @run_callFunc_extern Tryd.prog 54 _ (ReflectliteValue.method (ReflectliteValue.valueError "reflectlite.Value.IsNil" 0) ReflectliteValue.isNil) Tryd.func54 (by kernel_rfl) (by kernel_rfl) (by kernel_rfl) (by kernel_rfl)
  have h27 := @run_callFunc_extern Tryd.prog 110 _ (ReflectliteType.abiMethod fun t => do pure (.int .u8 (← Rtype.kind t))) Tryd.func110 (by kernel_rfl) (by kernel_rfl) (by kernel_rfl) (by kernel_rfl)
  have h37 := @run_callFunc_extern Tryd.prog 120 _ (ReflectliteType.method ReflectliteType.elem) Tryd.func120 (by kernel_rfl) (by kernel_rfl) (by kernel_rfl) (by kernel_rfl)
  have h38 := @run_callFunc_extern Tryd.prog 121 _ (ReflectliteType.relation "Implements" ReflectliteType.implements_) Tryd.func121 (by kernel_rfl) (by kernel_rfl) (by kernel_rfl) (by kernel_rfl)
  have f6 := valueOfPL
  have f7 := typePL
  have mK := asKind
  have mE := asElem
  have mI := asImplements
  have kP := kindPL
  have kE := kindEL
  have eP := elemPL
  have iE := implementsL
  have n8 := isNilPL ⟨w.heap.size, 0, none⟩ ⟨g, 0, none⟩ ((w.alloc (.cells #[.pointer (some ⟨g, 0, none⟩)] 65)).alloc (.cells #[tD 65, .pointer (some ⟨w.heap.size, 0, none⟩), .int .u64 150] 83)) (by simp)
  have lg := World.block_lt_of_cell? w _ hg
  have hg2 : ((w.alloc (.cells #[.pointer (some ⟨g, 0, none⟩)] 65)).alloc (.cells #[tD 65, .pointer (some ⟨w.heap.size, 0, none⟩), .int .u64 150] 83)).cell? ⟨0, 0, none⟩ = some (rtI 48) := by
    rw [World.cell?_alloc_lt _ _ ⟨0, 0, none⟩ (by simp only [World.size_alloc]; exact Nat.lt_succ_of_lt lg), World.cell?_alloc_lt _ _ ⟨0, 0, none⟩ lg]; exact hg
  have HA := Lib.hid hA
  clear hA
  go_enter Tryd.func42, Tryd.ntmps42
  go_wp2_with fail
  refine HA.out.mono ?_
  rintro e w' ⟨rfl, hR⟩
  have HR := Lib.hid hR
  clear hR
  go_wp2
  go_ret
  exact ⟨rfl, HR.out⟩
theorem row_two {w : World} {A B o : Obj} {g : Nat} (h : w.heap[g]? = some o) : ((w.alloc A).alloc B).heap[g]? = some o := by
  have hg := (Array.getElem?_eq_some_iff.1 h).1
  rw [Below.heap_alloc _ _ _ (by simp; omega), Below.heap_alloc _ _ _ hg]
  exact h
theorem asL_hit (l n : Int) (g : Nat) (x y : Value) (w : World) (hG : w.cell? ⟨0, 0, none⟩ = some (rtI 48)) (ht : w.heap[g]? = some (.cells #[x, y] 63 (0, 0))) :
    Calls Tryd.prog 42 #[.iface 63 (.agg #[.int .i64 l, .int .i64 n]), .iface 65 (.pointer (some ⟨g, 0, none⟩))] w fun e w' => e = .returned (.bool true) ∧ Below w.heap.size (w.setRow g #[.int .i64 l, .int .i64 n]) w' :=
  as_frontL _ 63 ⟨_, rfl⟩ g w hG true (Below w.heap.size (w.setRow g #[.int .i64 l, .int .i64 n]))
    ((as_hitL l n g w.heap.size x y _ (by simp) (row_two ht)).mono fun _ _ ⟨h1, h2⟩ => ⟨h1, (below_setRow2 (((Below.refl w.heap.size w).alloc (Nat.le_refl _) _).alloc (by simp) _) _).trans (h2.mono (by simp; omega))⟩)
theorem moves_drewN0 (w : World) (q : Nat) : Moves (fun _ => False) w (w.drewN q) := by
  induction q with
  | zero => exact Moves.refl _ _
  | succ q ih => exact ih.drew
abbrev fltO (n l : Int) : Obj := .cells #[.int .i64 n, .int .i64 l] 63 (0, 0)
set_option maxHeartbeats 1000000 in
theorem told_nil (w : World) : Calls Tryd.prog 33 #[.nilIface] w fun e w' => e = .returned (.tuple #[.int .i64 0, .int .i64 0]) ∧ Below w.heap.size w w' := by
  go_enter Tryd.func33, Tryd.ntmps33
  go_wp2_with fail
  refine (as_nil _ _).mono ?_
  rintro e w' ⟨rfl, rfl⟩
  go_wp2
  go_quiet (fail)
  go_wp2
  go_ret2
  exact ⟨rfl, (((Below.refl _ _).alloc (Nat.le_refl _) _).trans (Moves.below (Below.refl _ _) (by simp) (moves_drewN0 _ _) (fun k h => h.elim)))⟩
set_option maxHeartbeats 1000000 in
theorem told_fault (n l : Int) (w : World) (hG : w.cell? ⟨0, 0, none⟩ = some (rtI 48)) : Calls Tryd.prog 33 #[.iface 63 (.agg #[.int .i64 n, .int .i64 l])] w fun e w' => e = .returned (.tuple #[.int .i64 l, .int .i64 n]) ∧ Below w.heap.size w w' := by
  have A0 : Below w.heap.size w (w.alloc (fltO 0 0)) := (Below.refl _ _).alloc (Nat.le_refl _) _
  have hG0 := cell_keep A0 hG
  have r0 : (w.alloc (fltO 0 0)).heap[w.heap.size]? = some (fltO 0 0) := heap_alloc_new _ _
  have HH := Lib.hid (asL_hit n l w.heap.size _ _ _ hG0 r0)
  have HA0 := Lib.hid A0
  have R0 := Lib.hid r0
  clear A0 r0 hG0
  go_enter Tryd.func33, Tryd.ntmps33
  go_wp2_with fail
  refine HH.out.mono ?_
  rintro e w1 ⟨rfl, b1⟩
  have r0 : w1.heap[w.heap.size]? = some (fltO n l) := (b1.block _ (by simp)).trans (setRow_heap _ _ _ _ _ _ R0.out)
  have B1 : Below w.heap.size w w1 := (below_setRow HA0.out (Nat.le_refl _) _).trans (b1.mono (by simp))
  have c0 : w1.cell? ⟨w.heap.size, 0, none⟩ = some (.int .i64 n) := by rw [cell_of_row _ _ 0 _ _ _ r0]; rfl
  have c1 : w1.cell? ⟨w.heap.size, 1, none⟩ = some (.int .i64 l) := by rw [cell_of_row _ _ 1 _ _ _ r0]; rfl
  have HB1 := Lib.hid B1
  clear r0 b1 B1
  go_wp2
  go_quiet (fail)
  go_wp2
  go_ret2
  exact ⟨rfl, HB1.out.trans (Moves.below (Below.refl _ _) HB1.out.size (moves_drewN0 _ _) (fun k h => h.elim))⟩
end Go.Proofs.YtkhniogmogcjlaaDoor
