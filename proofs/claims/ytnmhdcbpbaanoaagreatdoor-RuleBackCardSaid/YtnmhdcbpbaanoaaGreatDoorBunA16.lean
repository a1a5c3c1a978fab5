/- errors.As, at a pointer to a number and at a pointer to what stands in a line. Printed by genjas.py. judgeOf, decided, Right, Applies, Decide. A builder's WriteString, its row's place told. A text gone through rune by rune, or byte by byte, as it is cut into parts, plainly; an item's stars. -/
import Derived.Test.YtnmhdcbpbaanoaaGreatDoorBunA15
import Derived.Test.YtnmhdcbpbaanoaaGreatDoorBunA14
import Derived.Test.YtnmhdcbpbaanoaaGreatDoorBunA12
import Derived.Lib.AppendStr
import Derived.Lib.Builder
import Derived.Test.YtnmhdcbpbaanoaaGreatDoorBunA6
import Derived.Laws.RangeAny
import Derived.Lib.DecodeN
namespace Go.Proofs.YtnmhdcbpbaanoaaGreatDoor
open Go.RowKit Go.Extern.Stop Go.Stop Go.Extern Go.Shelf

abbrev numVJ (n : Int) : Value := .iface 88 (.int .i64 n)
abbrev partVJ (s : ByteArray) (n : Int) : Value := .iface 160 (.agg #[.string s, .int .i64 n])
abbrev lineVJ (l : Int) (s : ByteArray) (n : Int) : Value := .iface 120 (.agg #[.int .i64 l, partVJ s n])
theorem setNJ (ta b : Addr) (n : Int) (old : Value) (W : World) (hb : W.cell? b = some (.int .i64 n)) (ht : W.cell? ta = some old) (hf : W.frozen? ta = false) :
    (ReflectliteValue.set #[vAJ 88 ta 386, vAJ 88 b 130]).run Tryz.prog W = .ok (.tuple #[]) (W.setCell ta (.int .i64 n)) := by
  rw [rlsJ]
  simp only [Sem.run_bind, partsANJ, partsBNJ, Result.andThen]
  simp [ReflectliteValue.flagAddr, loadVar, isAgg, underlying, Tryz.underlying88, hb, Result.andThen, directNJ, storeVar, Value.cells, storeCells, Addr.add]
  rw [run_store Tryz.prog W ta _ _ (by rfl)]
  simp [ht, hf]
theorem setLJ (g h : Nat) (l n : Int) (s : ByteArray) (u v : Value) (W : World) (hb : W.heap[h]? = some (.cells #[.int .i64 l, partVJ s n] 120 (0, 0))) (ht : W.heap[g]? = some (.cells #[u, v] 120 (0, 0))) :
    (ReflectliteValue.set #[vAJ 120 ⟨g, 0, none⟩ 409, vAJ 120 ⟨h, 0, none⟩ 153]).run Tryz.prog W = .ok (.tuple #[]) (W.setRow g #[.int .i64 l, partVJ s n]) := by
  rw [rlsJ]
  simp only [Sem.run_bind, partsALJ, partsBLJ, Result.andThen]
  have h1 := run_loadVar_row W h 120 120 _ (0, 0) _ hb Tryz.underlying120 rfl (by kernel_rfl)
  have h2 := run_storeVar_row (P := Tryz.prog) W g 120 120 _ #[.int .i64 l, partVJ s n] ht (by kernel_rfl) rfl (by simp [Value.oneCell'])
  have hf : (409 / ReflectliteValue.flagAddr % 2 == 0) = false := by decide
  simp only [hf, Bool.false_eq_true, if_false, Sem.run_bind, h1, Result.andThen, directLJ, if_true, h2, Sem.run_pure]

theorem as_nilJ (t : Value) (w : World) : Calls Tryz.prog 60 #[.nilIface, t] w fun e w' => e = .returned (.bool false) ∧ w = w' := by
  go_enter Tryz.func60, Tryz.ntmps60
  go_wp2
  go_ret
  exact ⟨rfl, rfl⟩

theorem below_setRow2J {n g : Nat} {a b : World} (h : Below n a b) (cs : Array Value) : Below n (a.setRow g cs) (b.setRow g cs) := by
  refine ⟨h.os, h.tape, h.output, by simpa using h.size, fun k hk => ?_⟩
  unfold World.setRow
  simp only [Array.getElem?_modify]
  rw [h.block k hk]
theorem below_setCell2J {n : Nat} {a b : World} (h : Below n a b) (p : Addr) (v : Value) : Below n (a.setCell p v) (b.setCell p v) := by
  refine ⟨h.os, h.tape, h.output, by simpa using h.size, fun k hk => ?_⟩
  unfold World.setCell
  simp only [Array.getElem?_modify]
  rw [h.block k hk]
set_option maxHeartbeats 4000000 in
theorem as_thruPJ (s : ByteArray) (n : Int) (g v : Nat) (old : Value) (w : World) (hv : w.cell? ⟨v, 0, none⟩ = some (.pointer (some ⟨g, 0, none⟩))) (ht : w.heap[g]? = some (.cells #[old] 88 (0, 0))) :
    Calls Tryz.prog 88 #[partVJ s n, .iface 90 (.pointer (some ⟨g, 0, none⟩)), vAJ 90 ⟨v, 0, none⟩ 150, rtIJ 88] w fun e w' => e = .returned (.bool true) ∧ Below w.heap.size (w.setCell ⟨g, 0, none⟩ (.int .i64 n)) w' := by
  have h10 := @run_callFunc_extern Tryz.prog 117 _ ReflectliteType.typeOf Tryz.func117 (by kernel_rfl) (by kernel_rfl) (by kernel_rfl) (by kernel_rfl)
  have h35 := @run_callFunc_extern Tryz.prog 231 _ (ReflectliteType.relation "AssignableTo" ReflectliteType.assignableTo) Tryz.func231 (by kernel_rfl) (by kernel_rfl) (by kernel_rfl) (by kernel_rfl)
  have h6 := @run_callFunc_extern Tryz.prog 85 _ (fun args => ReflectliteValue.unpack (args.getD 0 (.tuple #[]))) Tryz.func85 (by kernel_rfl) (by kernel_rfl) (by kernel_rfl) (by kernel_rfl)
  have h11 := @run_callFunc_extern Tryz.prog 118 _ (ReflectliteValue.method (ReflectliteValue.valueError "reflectlite.Value.Elem" 0) ReflectliteValue.elem) Tryz.func118 (by kernel_rfl) (by kernel_rfl) (by kernel_rfl) (by kernel_rfl)
  have h12 := @run_callFunc_extern Tryz.prog 119 _ ReflectliteValue.set Tryz.func119 (by kernel_rfl) (by kernel_rfl) (by kernel_rfl) (by kernel_rfl)
  have tN := typeOfNJ
  have tP := typeOfPJ
  have tL := typeOfLJ
  have mA := asAssignableJ
  have mU := asUnwrapPJ
  have mL := asUnwrapLJ
  have aN := assignNNJ
  have aP := assignPNJ
  have aL := assignLNJ
  have vN := valueOfNJ
  have nA := noAsPJ
  have nL := noAsLJ
  have hU := hasUnwrapPJ
  have hL := hasUnwrapLJ
  have c0 : w.cell? ⟨g, 0, none⟩ = some old := by rw [cell_of_row _ _ 0 _ _ _ ht]; rfl
  have f0 : w.frozen? ⟨g, 0, none⟩ = false := frozen_of_row _ _ 0 _ _ ht
  have lg : g < w.heap.size := (Array.getElem?_eq_some_iff.1 ht).1
  have lv : v < w.heap.size := World.block_lt_of_cell? w _ hv
  have el := elemVNJ ⟨v, 0, none⟩ ⟨g, 0, none⟩ ((w.alloc (.cells #[tDJ 90, .pointer (some ⟨v, 0, none⟩), .int .u64 150] 143)).alloc (.cells #[.string s, .int .i64 n] 160)) (by rw [World.cell?_alloc_lt _ _ ⟨v, 0, none⟩ (by simp; omega), World.cell?_alloc_lt _ _ ⟨v, 0, none⟩ lv]; exact hv)
  have st := setNJ ⟨g, 0, none⟩ ⟨w.heap.size + 1 + 1, 0, none⟩ n old (((w.alloc (.cells #[tDJ 90, .pointer (some ⟨v, 0, none⟩), .int .u64 150] 143)).alloc (.cells #[.string s, .int .i64 n] 160)).alloc (.cells #[.int .i64 n] 88))
    (by rw [World.cell?_alloc_at _ _ _ _ (by simp)]; rfl)
    (by rw [World.cell?_alloc_lt _ _ ⟨g, 0, none⟩ (by simp; omega), World.cell?_alloc_lt _ _ ⟨g, 0, none⟩ (by simp; omega), World.cell?_alloc_lt _ _ ⟨g, 0, none⟩ lg]; exact c0)
    (by rw [World.frozen?_alloc_old _ _ ⟨g, 0, none⟩ (by simp; omega), World.frozen?_alloc_old _ _ ⟨g, 0, none⟩ (by simp; omega), World.frozen?_alloc_old _ _ ⟨g, 0, none⟩ (Nat.ne_of_lt lg)]; exact f0)
  go_enter Tryz.func88, Tryz.ntmps88
  go_wp2_with fail
  refine wp_loop_rounds 2 ?_
  rw [rounds_succ]
  go_wp2
  rw [rounds_succ]
  go_wp2
  go_ret
  exact ⟨rfl, below_setCell2J ((((Below.refl w.heap.size w).alloc (Nat.le_refl _) _).alloc (by simp; first | done | omega) _).alloc (by simp; first | done | omega) _) _ _⟩
set_option maxHeartbeats 4000000 in
theorem as_thruLJ (l : Int) (s : ByteArray) (n : Int) (g v : Nat) (old : Value) (w : World) (hv : w.cell? ⟨v, 0, none⟩ = some (.pointer (some ⟨g, 0, none⟩))) (ht : w.heap[g]? = some (.cells #[old] 88 (0, 0))) :
    Calls Tryz.prog 88 #[lineVJ l s n, .iface 90 (.pointer (some ⟨g, 0, none⟩)), vAJ 90 ⟨v, 0, none⟩ 150, rtIJ 88] w fun e w' => e = .returned (.bool true) ∧ Below w.heap.size (w.setCell ⟨g, 0, none⟩ (.int .i64 n)) w' := by
  have h10 := @run_callFunc_extern Tryz.prog 117 _ ReflectliteType.typeOf Tryz.func117 (by kernel_rfl) (by kernel_rfl) (by kernel_rfl) (by kernel_rfl)
  have h35 := @run_callFunc_extern Tryz.prog 231 _ (ReflectliteType.relation "AssignableTo" ReflectliteType.assignableTo) Tryz.func231 (by kernel_rfl) (by kernel_rfl) (by kernel_rfl) (by kernel_rfl)
  have h6 := @run_callFunc_extern Tryz.prog 85 _ (fun args => ReflectliteValue.unpack (args.getD 0 (.tuple #[]))) Tryz.func85 (by kernel_rfl) (by kernel_rfl) (by kernel_rfl) (by kernel_rfl)
  have h11 := @run_callFunc_extern Tryz.prog 118 _ (ReflectliteValue.method (ReflectliteValue.valueError "reflectlite.Value.Elem" 0) ReflectliteValue.elem) Tryz.func118 (by kernel_rfl) (by kernel_rfl) (by kernel_rfl) (by kernel_rfl)
  have h12 := @run_callFunc_extern Tryz.prog 119 _ ReflectliteValue.set Tryz.func119 (by kernel_rfl) (by kernel_rfl) (by kernel_rfl) (by kernel_rfl)
  have tN := typeOfNJ
  have tP := typeOfPJ
  have tL := typeOfLJ
  have mA := asAssignableJ
  have mU := asUnwrapPJ
  have mL := asUnwrapLJ
  have aN := assignNNJ
  have aP := assignPNJ
  have aL := assignLNJ
  have vN := valueOfNJ
  have nA := noAsPJ
  have nL := noAsLJ
  have hU := hasUnwrapPJ
  have hL := hasUnwrapLJ
  have c0 : w.cell? ⟨g, 0, none⟩ = some old := by rw [cell_of_row _ _ 0 _ _ _ ht]; rfl
  have f0 : w.frozen? ⟨g, 0, none⟩ = false := frozen_of_row _ _ 0 _ _ ht
  have lg : g < w.heap.size := (Array.getElem?_eq_some_iff.1 ht).1
  have lv : v < w.heap.size := World.block_lt_of_cell? w _ hv
  have el := elemVNJ ⟨v, 0, none⟩ ⟨g, 0, none⟩ (((w.alloc (.cells #[tDJ 90, .pointer (some ⟨v, 0, none⟩), .int .u64 150] 143)).alloc (.cells #[.int .i64 l, partVJ s n] 120)).alloc (.cells #[.string s, .int .i64 n] 160)) (by rw [World.cell?_alloc_lt _ _ ⟨v, 0, none⟩ (by simp; omega), World.cell?_alloc_lt _ _ ⟨v, 0, none⟩ (by simp; omega), World.cell?_alloc_lt _ _ ⟨v, 0, none⟩ lv]; exact hv)
  have st := setNJ ⟨g, 0, none⟩ ⟨w.heap.size + 1 + 1 + 1, 0, none⟩ n old ((((w.alloc (.cells #[tDJ 90, .pointer (some ⟨v, 0, none⟩), .int .u64 150] 143)).alloc (.cells #[.int .i64 l, partVJ s n] 120)).alloc (.cells #[.string s, .int .i64 n] 160)).alloc (.cells #[.int .i64 n] 88))
    (by rw [World.cell?_alloc_at _ _ _ _ (by simp)]; rfl)
    (by rw [World.cell?_alloc_lt _ _ ⟨g, 0, none⟩ (by simp; omega), World.cell?_alloc_lt _ _ ⟨g, 0, none⟩ (by simp; omega), World.cell?_alloc_lt _ _ ⟨g, 0, none⟩ (by simp; omega), World.cell?_alloc_lt _ _ ⟨g, 0, none⟩ lg]; exact c0)
    (by rw [World.frozen?_alloc_old _ _ ⟨g, 0, none⟩ (by simp; omega), World.frozen?_alloc_old _ _ ⟨g, 0, none⟩ (by simp; omega), World.frozen?_alloc_old _ _ ⟨g, 0, none⟩ (by simp; omega), World.frozen?_alloc_old _ _ ⟨g, 0, none⟩ (Nat.ne_of_lt lg)]; exact f0)
  go_enter Tryz.func88, Tryz.ntmps88
  go_wp2_with fail
  refine wp_loop_rounds 3 ?_
  rw [rounds_succ]
  go_wp2
  rw [rounds_succ]
  go_wp2
  rw [rounds_succ]
  go_wp2
  go_ret
  exact ⟨rfl, below_setCell2J (((((Below.refl w.heap.size w).alloc (Nat.le_refl _) _).alloc (by simp; first | done | omega) _).alloc (by simp; first | done | omega) _).alloc (by simp; first | done | omega) _) _ _⟩
set_option maxHeartbeats 4000000 in
/-- errors.as: the error is a line's, and so is the target. -/
theorem as_hitLJ (l n : Int) (s : ByteArray) (g v : Nat) (x y : Value) (w : World) (hv : w.cell? ⟨v, 0, none⟩ = some (.pointer (some ⟨g, 0, none⟩))) (ht : w.heap[g]? = some (.cells #[x, y] 120 (0, 0))) :
    Calls Tryz.prog 88 #[.iface 120 (.agg #[.int .i64 l, partVJ s n]), .iface 121 (.pointer (some ⟨g, 0, none⟩)), vAJ 121 ⟨v, 0, none⟩ 150, rtIJ 120] w fun e w' => e = .returned (.bool true) ∧ Below w.heap.size (w.setRow g #[.int .i64 l, partVJ s n]) w' := by
  have h10 := @run_callFunc_extern Tryz.prog 117 _ ReflectliteType.typeOf Tryz.func117 (by kernel_rfl) (by kernel_rfl) (by kernel_rfl) (by kernel_rfl)
  have h35 := @run_callFunc_extern Tryz.prog 231 _ (ReflectliteType.relation "AssignableTo" ReflectliteType.assignableTo) Tryz.func231 (by kernel_rfl) (by kernel_rfl) (by kernel_rfl) (by kernel_rfl)
  have h6 := @run_callFunc_extern Tryz.prog 85 _ (fun args => ReflectliteValue.unpack (args.getD 0 (.tuple #[]))) Tryz.func85 (by kernel_rfl) (by kernel_rfl) (by kernel_rfl) (by kernel_rfl)
  have h11 := @run_callFunc_extern Tryz.prog 118 _ (ReflectliteValue.method (ReflectliteValue.valueError "reflectlite.Value.Elem" 0) ReflectliteValue.elem) Tryz.func118 (by kernel_rfl) (by kernel_rfl) (by kernel_rfl) (by kernel_rfl)
  have h12 := @run_callFunc_extern Tryz.prog 119 _ ReflectliteValue.set Tryz.func119 (by kernel_rfl) (by kernel_rfl) (by kernel_rfl) (by kernel_rfl)
  have tO := typeOfLJ
  have mA := asAssignableJ
  have aL := assignLLJ
  have vL := valueOfLJ
  have lg : g < w.heap.size := (Array.getElem?_eq_some_iff.1 ht).1
  have lv : v < w.heap.size := World.block_lt_of_cell? w _ hv
  have el := elemVLJ ⟨v, 0, none⟩ ⟨g, 0, none⟩ (w.alloc (.cells #[tDJ 121, .pointer (some ⟨v, 0, none⟩), .int .u64 150] 143)) (by rw [World.cell?_alloc_lt _ _ ⟨v, 0, none⟩ lv]; exact hv)
  have st := setLJ g (w.heap.size + 1) l n s x y ((w.alloc (.cells #[tDJ 121, .pointer (some ⟨v, 0, none⟩), .int .u64 150] 143)).alloc (.cells #[.int .i64 l, partVJ s n] 120))
    (by have := heap_alloc_new (w.alloc (.cells #[tDJ 121, .pointer (some ⟨v, 0, none⟩), .int .u64 150] 143)) (.cells #[.int .i64 l, partVJ s n] 120); rwa [World.size_alloc] at this)
    ((Below.heap_alloc _ _ _ (by simp; omega)).trans ((Below.heap_alloc _ _ _ (by omega)).trans ht))
  have hb2 := below_setRow2J (g := g) (((Below.refl w.heap.size w).alloc (Nat.le_refl _) (.cells #[tDJ 121, .pointer (some ⟨v, 0, none⟩), .int .u64 150] 143)).alloc (by simp) (.cells #[.int .i64 l, partVJ s n] 120)) #[.int .i64 l, partVJ s n]
  have HB := Lib.hid hb2
  clear hb2
  go_enter Tryz.func88, Tryz.ntmps88
  go_wp2_with fail
  refine wp_loop_rounds 1 ?_
  rw [rounds_succ]
  go_wp2
  go_ret
  exact ⟨rfl, HB.out⟩
set_option maxHeartbeats 4000000 in
/-- errors.as: nothing in it is a line's. -/
theorem as_missPJ (s : ByteArray) (n : Int) (g v : Nat) (w : World) :
    Calls Tryz.prog 88 #[partVJ s n, .iface 121 (.pointer (some ⟨g, 0, none⟩)), vAJ 121 ⟨v, 0, none⟩ 150, rtIJ 120] w fun e w' => e = .returned (.bool false) ∧ Below w.heap.size w w' := by
  have h10 := @run_callFunc_extern Tryz.prog 117 _ ReflectliteType.typeOf Tryz.func117 (by kernel_rfl) (by kernel_rfl) (by kernel_rfl) (by kernel_rfl)
  have h35 := @run_callFunc_extern Tryz.prog 231 _ (ReflectliteType.relation "AssignableTo" ReflectliteType.assignableTo) Tryz.func231 (by kernel_rfl) (by kernel_rfl) (by kernel_rfl) (by kernel_rfl)
  have h6 := @run_callFunc_extern Tryz.prog 85 _ (fun args => ReflectliteValue.unpack (args.getD 0 (.tuple #[]))) Tryz.func85 (by kernel_rfl) (by kernel_rfl) (by kernel_rfl) (by kernel_rfl)
  have h11 := @run_callFunc_extern Tryz.prog 118 _ (ReflectliteValue.method (ReflectliteValue.valueError "reflectlite.Value.Elem" 0) ReflectliteValue.elem) Tryz.func118 (by kernel_rfl) (by kernel_rfl) (by kernel_rfl) (by kernel_rfl)
  have h12 := @run_callFunc_extern Tryz.prog 119 _ ReflectliteValue.set Tryz.func119 (by kernel_rfl) (by kernel_rfl) (by kernel_rfl) (by kernel_rfl)
  have tN := typeOfNJ
  have tP := typeOfPJ
  have mA := asAssignableJ
  have mU := asUnwrapPJ
  have aN := assignNLJ
  have aP := assignPLJ
  have nA := noAsPJ
  have nN := noAsNJ
  have hU := hasUnwrapPJ
  have nU := noUnwrapNJ
  have nV := noUnwrapsNJ
  go_enter Tryz.func88, Tryz.ntmps88
  go_wp2_with fail
  refine wp_loop_rounds 2 ?_
  rw [rounds_succ]
  go_wp2
  rw [rounds_succ]
  go_wp2
  go_ret
  exact ⟨rfl, ((Below.refl _ _).alloc (Nat.le_refl _) _).alloc (by simp) _⟩
set_option maxHeartbeats 4000000 in
/-- errors.As, by what errors.as answers. -/
theorem as_frontNJ (err : Value) (T : TypeId) (hT : ∃ z, err = .iface T z) (g : Nat) (w : World) (hg : w.cell? ⟨0, 0, none⟩ = some (rtIJ 58)) (b : Bool) (R : World → Prop)
    (hA : Calls Tryz.prog 88 #[err, .iface 90 (.pointer (some ⟨g, 0, none⟩)), vAJ 90 ⟨w.heap.size, 0, none⟩ 150, rtIJ 88] ((w.alloc (.cells #[.pointer (some ⟨g, 0, none⟩)] 90)).alloc (.cells #[tDJ 90, .pointer (some ⟨w.heap.size, 0, none⟩), .int .u64 150] 143)) fun e w' => e = .returned (.bool b) ∧ R w') :
    Calls Tryz.prog 60 #[err, .iface 90 (.pointer (some ⟨g, 0, none⟩))] w fun e w' => e = .returned (.bool b) ∧ R w' := by
  obtain ⟨z, rfl⟩ := hT
  have h6 := @run_callFunc_extern Tryz.prog 85 _ (fun args => ReflectliteValue.unpack (args.getD 0 (.tuple #[]))) Tryz.func85 (by kernel_rfl) (by kernel_rfl) (by kernel_rfl) (by kernel_rfl)
  have h7 := @run_callFunc_extern Tryz.prog 86 _ (ReflectliteValue.methodAny (ReflectliteValue.valueError "reflectlite.Value.Type" 0) (fun t _ _ _ => ReflectliteType.toType t)) Tryz.func86 (by kernel_rfl) (by kernel_rfl) (by kernel_rfl) (by kernel_rfl)
  have h8 := @run_callFunc_extern Tryz.prog 87 _ (ReflectliteValue.method (ReflectliteValue.valueError "reflectlite.Value.IsNil" 0) ReflectliteValue.isNil) Tryz.func87 (by kernel_rfl) (by kernel_rfl) (by kernel_rfl) (by kernel_rfl)
  have h27 := @run_callFunc_extern Tryz.prog 218 _ (ReflectliteType.abiMethod fun t => do pure (.int .u8 (← Rtype.kind t))) Tryz.func218 (by kernel_rfl) (by kernel_rfl) (by kernel_rfl) (by kernel_rfl)
  have h37 := @run_callFunc_extern Tryz.prog 233 _ (ReflectliteType.method ReflectliteType.elem) Tryz.func233 (by kernel_rfl) (by kernel_rfl) (by kernel_rfl) (by kernel_rfl)
  have h38 := @run_callFunc_extern Tryz.prog 234 _ (ReflectliteType.relation "Implements" ReflectliteType.implements_) Tryz.func234 (by kernel_rfl) (by kernel_rfl) (by kernel_rfl) (by kernel_rfl)
  have f6 := valueOfPNJ
  have f7 := typePNJ
  have mK := asKindJ
  have mE := asElemJ
  have mI := asImplementsJ
  have kP := kindPNJ
  have kE := kindENJ
  have eP := elemPNJ
  have iE := implementsNJ
  have n8 := isNilPNJ ⟨w.heap.size, 0, none⟩ ⟨g, 0, none⟩ ((w.alloc (.cells #[.pointer (some ⟨g, 0, none⟩)] 90)).alloc (.cells #[tDJ 90, .pointer (some ⟨w.heap.size, 0, none⟩), .int .u64 150] 143)) (by simp)
  have lg := World.block_lt_of_cell? w _ hg
  have hg2 : ((w.alloc (.cells #[.pointer (some ⟨g, 0, none⟩)] 90)).alloc (.cells #[tDJ 90, .pointer (some ⟨w.heap.size, 0, none⟩), .int .u64 150] 143)).cell? ⟨0, 0, none⟩ = some (rtIJ 58) := by
    rw [World.cell?_alloc_lt _ _ ⟨0, 0, none⟩ (by simp only [World.size_alloc]; exact Nat.lt_succ_of_lt lg), World.cell?_alloc_lt _ _ ⟨0, 0, none⟩ lg]; exact hg
  have HA := Lib.hid hA
  clear hA
  go_enter Tryz.func60, Tryz.ntmps60
  go_wp2_with fail
  refine HA.out.mono ?_
  rintro e w' ⟨rfl, hR⟩
  have HR := Lib.hid hR
  clear hR
  go_wp2
  go_ret
  exact ⟨rfl, HR.out⟩
set_option maxHeartbeats 4000000 in
/-- errors.As, by what errors.as answers. -/
theorem as_frontLJ (err : Value) (T : TypeId) (hT : ∃ z, err = .iface T z) (g : Nat) (w : World) (hg : w.cell? ⟨0, 0, none⟩ = some (rtIJ 58)) (b : Bool) (R : World → Prop)
    (hA : Calls Tryz.prog 88 #[err, .iface 121 (.pointer (some ⟨g, 0, none⟩)), vAJ 121 ⟨w.heap.size, 0, none⟩ 150, rtIJ 120] ((w.alloc (.cells #[.pointer (some ⟨g, 0, none⟩)] 121)).alloc (.cells #[tDJ 121, .pointer (some ⟨w.heap.size, 0, none⟩), .int .u64 150] 143)) fun e w' => e = .returned (.bool b) ∧ R w') :
    Calls Tryz.prog 60 #[err, .iface 121 (.pointer (some ⟨g, 0, none⟩))] w fun e w' => e = .returned (.bool b) ∧ R w' := by
  obtain ⟨z, rfl⟩ := hT
  have h6 := @run_callFunc_extern Tryz.prog 85 _ (fun args => ReflectliteValue.unpack (args.getD 0 (.tuple #[]))) Tryz.func85 (by kernel_rfl) (by kernel_rfl) (by kernel_rfl) (by kernel_rfl)
  have h7 := @run_callFunc_extern Tryz.prog 86 _ (ReflectliteValue.methodAny (ReflectliteValue.valueError "reflectlite.Value.Type" 0) (fun t _ _ _ => ReflectliteType.toType t)) Tryz.func86 (by kernel_rfl) (by kernel_rfl) (by kernel_rfl) (by kernel_rfl)
  have h8 := @run_callFunc_extern Tryz.prog 87 _ (ReflectliteValue.method (ReflectliteValue.valueError "reflectlite.Value.IsNil" 0) ReflectliteValue.isNil) Tryz.func87 (by kernel_rfl) (by kernel_rfl) (by kernel_rfl) (by kernel_rfl)
  have h27 := @run_callFunc_extern Tryz.prog 218 _ (ReflectliteType.abiMethod fun t => do pure (.int .u8 (← Rtype.kind t))) Tryz.func218 (by kernel_rfl) (by kernel_rfl) (by kernel_rfl) (by kernel_rfl)
  have h37 := @run_callFunc_extern Tryz.prog 233 _ (ReflectliteType.method ReflectliteType.elem) Tryz.func233 (by kernel_rfl) (by kernel_rfl) (by kernel_rfl) (by kernel_rfl)
  have h38 := @run_callFunc_extern Tryz.prog 234 _ (ReflectliteType.relation "Implements" ReflectliteType.implements_) Tryz.func234 (by kernel_rfl) (by kernel_rfl) (by kernel_rfl) (by kernel_rfl)
  have f6 := valueOfPLJ
  have f7 := typePLJ
  have mK := asKindJ
  have mE := asElemJ
  have mI := asImplementsJ
  have kP := kindPLJ
  have kE := kindELJ
  have eP := elemPLJ
  have iE := implementsLJ
  have n8 := isNilPLJ ⟨w.heap.size, 0, none⟩ ⟨g, 0, none⟩ ((w.alloc (.cells #[.pointer (some ⟨g, 0, none⟩)] 121)).alloc (.cells #[tDJ 121, .pointer (some ⟨w.heap.size, 0, none⟩), .int .u64 150] 143)) (by simp)
  have lg := World.block_lt_of_cell? w _ hg
  have hg2 : ((w.alloc (.cells #[.pointer (some ⟨g, 0, none⟩)] 121)).alloc (.cells #[tDJ 121, .pointer (some ⟨w.heap.size, 0, none⟩), .int .u64 150] 143)).cell? ⟨0, 0, none⟩ = some (rtIJ 58) := by
    rw [World.cell?_alloc_lt _ _ ⟨0, 0, none⟩ (by simp only [World.size_alloc]; exact Nat.lt_succ_of_lt lg), World.cell?_alloc_lt _ _ ⟨0, 0, none⟩ lg]; exact hg
  have HA := Lib.hid hA
  clear hA
  go_enter Tryz.func60, Tryz.ntmps60
  go_wp2_with fail
  refine HA.out.mono ?_
  rintro e w' ⟨rfl, hR⟩
  have HR := Lib.hid hR
  clear hR
  go_wp2
  go_ret
  exact ⟨rfl, HR.out⟩

end Go.Proofs.YtnmhdcbpbaanoaaGreatDoor

namespace Go.Proofs.YtnmhdcbpbaanoaaGreatDoor
open Go.RowKit Go.Shelf Go.Maps
attribute [local go_sem] Oper.semAt_some

theorem two_setJ {w : World} {g : Nat} {u v : Value} {t : TypeId} (a b : Value) (h : w.heap[g]? = some (.cells #[u, v] t (0, 0))) :
    ((w.setCell ⟨g, 0, none⟩ a).setCell ⟨g, 1, none⟩ b).heap[g]? = some (.cells #[a, b] t (0, 0)) ∧ Moves (fun k => k = g) w ((w.setCell ⟨g, 0, none⟩ a).setCell ⟨g, 1, none⟩ b) := by
  have h1 : (w.setCell ⟨g, 0, none⟩ a).heap[g]? = some (.cells #[a, v] t (0, 0)) := by rw [heap_setCell_same _ _ _ _ _ _ h]; rfl
  exact ⟨by rw [heap_setCell_same _ _ _ _ _ _ h1]; rfl, (Moves.setCell (S := fun k => k = g) rfl).trans (Moves.setCell (S := fun k => k = g) rfl)⟩
theorem jug_cells {w : World} {g : Nat} {u v : Value} {t : TypeId} (h : w.heap[g]? = some (.cells #[u, v] t (0, 0))) : w.cell? ⟨g, 0, none⟩ = some u ∧ w.cell? ⟨g, 1, none⟩ = some v ∧ w.frozen? ⟨g, 0, none⟩ = false ∧ w.frozen? ⟨g, 1, none⟩ = false := by
  refine ⟨?_, ?_, frozen_of_row _ _ _ _ _ h, frozen_of_row _ _ _ _ _ h⟩
  · rw [cell_of_row _ _ 0 _ _ _ h]; rfl
  · rw [cell_of_row _ _ 1 _ _ _ h]; rfl
theorem faultIn_any (s : ByteArray) (n : Int) (w : World) : Calls Tryz.prog 65 #[.string s, .int .i64 n] w fun e w' => e = .returned (partVJ s n) ∧ w = w' := by
  go_enter Tryz.func65, Tryz.ntmps65
  go_wp2
  go_ret
  exact ⟨rfl, rfl⟩
abbrev rulesB : ByteArray := ⟨#[114, 117, 108, 101, 115]⟩
/-- What judgeOf answers. -/
def jugR (b : Bool) (o : Option Addr) (n cap : Nat) (lo : Option Addr) (k lcap : Nat) : Value := if b then .tuple #[jugV o n cap lo k lcap, .nilIface] else .tuple #[jugV none 0 0 none 0 0, partVJ rulesB 90]
set_option maxRecDepth 100000 in
set_option maxHeartbeats 4000000 in
theorem judgeOf_any (o lo : Option Addr) (l : List RulX) (cap k lcap : Nat) (hn : l.length ≤ 1000000) (hfw : FewC l) (w : World) (hA : AtC w o l) (hI : ItsC w l) :
    Calls Tryz.prog 57 #[.slice lo k lcap, .slice o l.length cap] w fun e w' => e = .returned (jugR (rightsU (l.map plX) 32) o l.length cap lo k lcap) ∧ Below w.heap.size w w' := by
  obtain ⟨w1, hw1⟩ : ∃ w1, w.alloc (jugO none 0 0 none 0 0) = w1 := ⟨_, rfl⟩
  have b1 : Below w.heap.size w w1 := by rw [← hw1]; exact (Below.refl _ _).alloc (Nat.le_refl _) _
  have z1 : w1.heap.size = w.heap.size + 1 := by rw [← hw1]; simp
  have r1 : w1.heap[w.heap.size]? = some (jugO none 0 0 none 0 0) := by rw [← hw1]; exact heap_alloc_new _ _
  obtain ⟨w2, hw2⟩ : ∃ w2, w1.alloc (jugO o l.length cap lo k lcap) = w2 := ⟨_, rfl⟩
  have b2 : Below w1.heap.size w1 w2 := by rw [← hw2]; exact (Below.refl _ _).alloc (Nat.le_refl _) _
  have r2 : w2.heap[w.heap.size + 1]? = some (jugO o l.length cap lo k lcap) := by rw [← hw2, ← z1]; exact heap_alloc_new _ _
  have B2 := b1.trans (b2.mono b1.size)
  have HR := Lib.hid (rightJ_any o l cap 32 hn hfw w2 (hA.below B2) (hI.below B2))
  obtain ⟨b, hb⟩ : ∃ b, rightsU (l.map plX) 32 = b := ⟨_, rfl⟩
  obtain ⟨n, hnn⟩ : ∃ n, l.length = n := ⟨_, rfl⟩
  rw [hb] at HR ⊢
  rw [hnn] at HR hw2 r2 ⊢
  have HW1 := Lib.hid hw1
  have HW2 := Lib.hid hw2
  have HB := Lib.hid B2
  have HR1 := Lib.hid (row_below r1 b2)
  have HR2 := Lib.hid r2
  clear hw1 hw2 b1 b2 r1 r2 B2 z1 hnn hb hA hI hn hfw
  go_enter Tryz.func57, Tryz.ntmps57
  go_wp2_with fail
  rw [HW1.out]
  try rw [HW2.out]
  refine HR.out.mono ?_
  rintro e w3 ⟨rfl, b3⟩
  have h1 := row_below HR1.out b3
  obtain ⟨p0, p1, f0, f1⟩ := jug_cells h1
  obtain ⟨q0, q1, _⟩ := jug_cells (row_below HR2.out b3)
  have HB3 := Lib.hid (HB.out.trans (b3.mono HB.out.size))
  have hz3 := HB3.out.size
  cases b with
  | true =>
    obtain ⟨r6, m6⟩ := two_setJ (.slice o n cap) (.slice lo k lcap) h1
    obtain ⟨w6, hw6⟩ : ∃ w6, (w3.setCell ⟨w.heap.size, 0, none⟩ (.slice o n cap)).setCell ⟨w.heap.size, 1, none⟩ (.slice lo k lcap) = w6 := ⟨_, rfl⟩
    rw [hw6] at r6 m6
    have HB6 := Lib.hid (Moves.below HB3.out hz3 m6 (fun k hk => by omega))
    have HW6 := Lib.hid hw6
    have HR6 := Lib.hid r6
    clear b3 h1 r6 m6 hw6
    go_wp2_with fail
    rw [HW6.out]
    exact bodyPost_ret (v := jugR true o n cap lo k lcap) (results_cell_tmp rfl _ _ w.heap.size _ _ _ _ _ rfl rfl HR6.out Tryz.underlying84 rfl (by kernel_rfl)) rfl ⟨rfl, HB6.out⟩
  | false =>
    obtain ⟨r6, m6⟩ := two_setJ (.slice none 0 0) (.slice none 0 0) h1
    obtain ⟨w6, hw6⟩ : ∃ w6, (w3.setCell ⟨w.heap.size, 0, none⟩ (.slice none 0 0)).setCell ⟨w.heap.size, 1, none⟩ (.slice none 0 0) = w6 := ⟨_, rfl⟩
    rw [hw6] at r6 m6
    have HB6 := Lib.hid (Moves.below HB3.out hz3 m6 (fun k hk => by omega))
    have HW6 := Lib.hid hw6
    have HR6 := Lib.hid r6
    have HIN := Lib.hid (faultIn_any rulesB 90 w3)
    clear b3 h1 r6 m6 hw6
    go_wp2_with fail
    refine HIN.out.mono ?_
    rintro e _ ⟨rfl, rfl⟩
    go_wp2_with fail
    rw [HW6.out]
    exact bodyPost_ret (v := jugR false o n cap lo k lcap) (results_cell_tmp rfl _ _ w.heap.size _ _ _ _ _ rfl rfl HR6.out Tryz.underlying84 rfl (by kernel_rfl)) rfl ⟨rfl, HB6.out⟩
theorem RightJ_any (o : Option Addr) (l : List RulX) (cap : Nat) (m : Int) (hn : l.length ≤ 1000000) (hfw : FewC l) (w : World) (hA : AtC w o l) (hI : ItsC w l) :
    Calls Tryz.prog 21 #[.slice o l.length cap, .int .i64 m] w fun e w' => e = .returned (.bool (rightsU (l.map plX) m)) ∧ Below w.heap.size w w' := by
  have HR := Lib.hid (rightJ_any o l cap m hn hfw w hA hI)
  obtain ⟨b, hb⟩ : ∃ b, rightsU (l.map plX) m = b := ⟨_, rfl⟩
  obtain ⟨n, hnn⟩ : ∃ n, l.length = n := ⟨_, rfl⟩
  rw [hb] at HR ⊢
  rw [hnn] at HR ⊢
  clear hA hI hn hfw hnn hb
  go_enter Tryz.func21, Tryz.ntmps21
  go_wp2_with fail
  refine HR.out.mono ?_
  rintro e w3 ⟨rfl, b3⟩
  have HB := Lib.hid b3
  clear b3
  go_wp2_with fail
  go_ret
  exact ⟨rfl, HB.out⟩
set_option maxRecDepth 100000 in
set_option maxHeartbeats 4000000 in
theorem decidedJ_any (o lo : Option Addr) (l : List RulX) (cap lcap : Nat) (L : List Int) (a : Int) (hn : l.length ≤ 1000000) (hk : L.length ≤ 100000) (hfw : FewC l) (w : World) (hA : AtC w o l) (hI : ItsC w l) (hL : ListJ w lo L lcap) :
    Calls Tryz.prog 36 #[.slice lo L.length lcap, .int .i64 a, .slice o l.length cap] w fun e w' => e = .returned (.tuple #[.bool (decideU (l.map plX) L a).1, .int .i64 (decideU (l.map plX) L a).2]) ∧ Below w.heap.size w w' := by
  have HJ := Lib.hid (judgeOf_any o lo l cap L.length lcap hn hfw w hA hI)
  have HP := Lib.hid (fun W => isPlaceJ_any o lo l.length cap lcap L a W)
  have HD := Lib.hid (fun W (hb : Below w.heap.size w W) => decideJ_any o lo l cap lcap L a hn hk hfw W (hA.below hb) (hI.below hb) (hL.below hb))
  unfold decideU
  obtain ⟨d, hd⟩ : ∃ d, firstU L a (l.map plX) 0 = d := ⟨_, rfl⟩
  obtain ⟨b, hb⟩ : ∃ b, rightsU (l.map plX) 32 = b := ⟨_, rfl⟩
  obtain ⟨p, hp⟩ : ∃ p, placeU L a = p := ⟨_, rfl⟩
  obtain ⟨n, hnn⟩ : ∃ n, l.length = n := ⟨_, rfl⟩
  obtain ⟨k, hkk⟩ : ∃ k, L.length = k := ⟨_, rfl⟩
  rw [hd] at HD ⊢
  rw [hb] at HJ ⊢
  rw [hp] at HP ⊢
  rw [hnn] at HJ HP HD ⊢
  rw [hkk] at HJ HP HD ⊢
  clear hd hb hp hnn hkk hA hI hL hn hk hfw
  cases b with
  | false =>
    go_enter Tryz.func36, Tryz.ntmps36
    go_wp2_with fail
    refine HJ.out.mono ?_
    rintro e w3 ⟨rfl, b3⟩
    have b4 : Below w.heap.size w (w3.alloc (jugO none 0 0 none 0 0)) := b3.alloc b3.size _
    have HB := Lib.hid b4
    clear b3 b4
    have hj : jugR false o n cap lo k lcap = .tuple #[jugV none 0 0 none 0 0, partVJ rulesB 90] := rfl
    rw [hj]
    go_wp2_with fail
    exact bodyPost_ret (results_tmp2 (t := 6) (u := 7) rfl _ _ _) rfl ⟨rfl, HB.out⟩
  | true =>
    have hj : jugR true o n cap lo k lcap = .tuple #[jugV o n cap lo k lcap, .nilIface] := rfl
    rw [hj] at HJ
    go_enter Tryz.func36, Tryz.ntmps36
    go_wp2_with fail
    refine HJ.out.mono ?_
    rintro e w3 ⟨rfl, b3⟩
    obtain ⟨w4, hw4⟩ : ∃ w4, w3.alloc (jugO o n cap lo k lcap) = w4 := ⟨_, rfl⟩
    have b4 : Below w3.heap.size w3 w4 := by rw [← hw4]; exact (Below.refl _ _).alloc (Nat.le_refl _) _
    have r4 : w4.heap[w3.heap.size]? = some (jugO o n cap lo k lcap) := by rw [← hw4]; exact heap_alloc_new _ _
    have HB4 := Lib.hid (b3.trans (b4.mono b3.size))
    have HR4 := Lib.hid r4
    have HW4 := Lib.hid hw4
    have HC := Lib.hid (HP.out w4)
    clear b3 b4 r4 hw4
    go_wp2_with fail
    rw [HW4.out]
    refine HC.out.mono ?_
    rintro e w5 ⟨rfl, b5⟩
    obtain ⟨q0, q1, _⟩ := jug_cells (row_below HR4.out b5)
    have HB5 := Lib.hid (HB4.out.trans (b5.mono HB4.out.size))
    clear b5
    cases p with
    | false =>
      go_wp2_with fail
      exact bodyPost_ret (results_tmp2 (t := 6) (u := 7) rfl _ _ _) rfl ⟨rfl, HB5.out⟩
    | true =>
      have HE := Lib.hid (HD.out w5 HB5.out)
      go_wp2_with fail
      refine HE.out.mono ?_
      rintro e w6 ⟨rfl, b6⟩
      have HB6 := Lib.hid (HB5.out.trans (b6.mono HB5.out.size))
      clear b6
      go_wp2_with fail
      exact bodyPost_ret (results_tmp2 (t := 6) (u := 7) rfl _ _ _) rfl ⟨rfl, HB6.out⟩
theorem DecideJ_any (o lo : Option Addr) (l : List RulX) (cap lcap : Nat) (L : List Int) (a : Int) (hn : l.length ≤ 1000000) (hk : L.length ≤ 100000) (hfw : FewC l) (w : World) (hA : AtC w o l) (hI : ItsC w l) (hL : ListJ w lo L lcap) :
    Calls Tryz.prog 16 #[.slice o l.length cap, .slice lo L.length lcap, .int .i64 a] w fun e w' => e = .returned (.tuple #[.bool (decideU (l.map plX) L a).1, .int .i64 (decideU (l.map plX) L a).2]) ∧ Below w.heap.size w w' := by
  have HD := Lib.hid (decidedJ_any o lo l cap lcap L a hn hk hfw w hA hI hL)
  obtain ⟨⟨d1, d2⟩, hd⟩ : ∃ d, decideU (l.map plX) L a = d := ⟨_, rfl⟩
  obtain ⟨n, hnn⟩ : ∃ n, l.length = n := ⟨_, rfl⟩
  obtain ⟨k, hkk⟩ : ∃ k, L.length = k := ⟨_, rfl⟩
  rw [hd] at HD ⊢
  rw [hnn, hkk] at HD ⊢
  clear hd hnn hkk hA hI hL hn hk hfw
  simp only at HD ⊢
  go_enter Tryz.func16, Tryz.ntmps16
  go_wp2_with fail
  refine HD.out.mono ?_
  rintro e w6 ⟨rfl, b6⟩
  have HB6 := Lib.hid b6
  clear b6
  go_wp2_with fail
  exact bodyPost_ret (results_tmp2 (t := 6) (u := 7) rfl _ _ _) rfl ⟨rfl, HB6.out⟩
theorem decide_one (x : RuleP) (L : List Int) (a : Int) : ((decideU [x] L a).2 != -1) = appliesU x L a := by
  unfold decideU appliesU rightsU
  simp only [List.all_cons, List.all_nil, Bool.and_true, List.length_singleton]
  cases rightU 32 x with
  | false => rfl
  | true =>
    cases placeU L a with
    | false => rfl
    | true =>
      simp only [firstU]
      cases sideU L a x with
      | false => rfl
      | true => rfl
set_option maxRecDepth 100000 in
set_option maxHeartbeats 4000000 in
theorem AppliesJ_any (x : RulX) (lo : Option Addr) (lcap : Nat) (L : List Int) (a : Int) (hk : L.length ≤ 100000) (hfw : FewC [x]) (w : World) (hI : ItsC w [x]) (hL : ListJ w lo L lcap) :
    Calls Tryz.prog 18 #[rulV x, .slice lo L.length lcap, .int .i64 a] w fun e w' => e = .returned (.bool (appliesU (plX x) L a)) ∧ Below w.heap.size w w' := by
  rw [← decide_one]
  obtain ⟨w1, hw1⟩ : ∃ w1, w.alloc (rulO x) = w1 := ⟨_, rfl⟩
  have b1 : Below w.heap.size w w1 := by rw [← hw1]; exact (Below.refl _ _).alloc (Nat.le_refl _) _
  have z1 : w1.heap.size = w.heap.size + 1 := by rw [← hw1]; simp
  have r1 : w1.heap[w.heap.size]? = some (rulO x) := by rw [← hw1]; exact heap_alloc_new _ _
  obtain ⟨w2, hw2⟩ : ∃ w2, w1.alloc (rulO x) = w2 := ⟨_, rfl⟩
  have b2 : Below w1.heap.size w1 w2 := by rw [← hw2]; exact (Below.refl _ _).alloc (Nat.le_refl _) _
  have r2 : w2.heap[w.heap.size + 1]? = some (rulO x) := by rw [← hw2, ← z1]; exact heap_alloc_new _ _
  have B2 := b1.trans (b2.mono b1.size)
  have A2 : AtC w2 (some ⟨w.heap.size + 1, 0, none⟩) [x] := fun _ => ⟨_, 0, rfl, fun j y hy => by
    have hj : j = 0 := by have := (List.getElem?_eq_some_iff.1 hy).1; simp at this; exact this
    subst hj
    obtain rfl : x = y := by simpa using hy
    exact rul_cells r2⟩
  have HD := Lib.hid (decidedJ_any (some ⟨w.heap.size + 1, 0, none⟩) lo [x] 1 lcap L a (by simp) hk hfw w2 A2 (hI.below B2) (hL.below B2))
  rw [show [x].map plX = [plX x] from rfl, show [x].length = 1 from rfl] at HD
  obtain ⟨⟨d1, d2⟩, hd⟩ : ∃ d, decideU [plX x] L a = d := ⟨_, rfl⟩
  obtain ⟨k, hkk⟩ : ∃ k, L.length = k := ⟨_, rfl⟩
  rw [hd] at HD ⊢
  rw [hkk] at HD ⊢
  simp only at HD ⊢
  obtain ⟨c0, c1, c2, c3, c4⟩ := rul_cells r1
  obtain ⟨⟨s1, p1, xs1, q1⟩, ⟨s2, p2, xs2, q2⟩, br⟩ := x
  simp only at c0 c1 c2 c3 c4
  have HW1 := Lib.hid hw1
  have HW2 := Lib.hid hw2
  have HB := Lib.hid B2
  clear hw1 hw2 b1 b2 r1 r2 B2 z1 A2 hd hkk hI hL hk hfw
  go_enter Tryz.func18, Tryz.ntmps18
  go_wp2_with fail
  rw [HW1.out]
  try rw [HW2.out]
  refine HD.out.mono ?_
  rintro e w6 ⟨rfl, b6⟩
  have HB6 := Lib.hid (HB.out.trans (b6.mono HB.out.size))
  clear b6
  go_wp2_with fail
  go_ret
  exact ⟨rfl, HB6.out⟩
end Go.Proofs.YtnmhdcbpbaanoaaGreatDoor

namespace Go.Proofs.YtnmhdcbpbaanoaaGreatDoor
open Go.RowKit Go.Shelf Go.Maps
attribute [local go_sem] Oper.semAt_some
attribute [local go_sem ↓] app_hide

abbrev bldO (p v : Value) : Obj := .cells #[p, v] 102 (0, 0)
abbrev selfV (b : Nat) : Value := .pointer (some ⟨b, 0, none⟩)
theorem text_atJ {W : World} {base k : Nat} {v : Value} {xs : List Value} (s : ByteArray) (ho : W.ownsRow base 5 1 v k xs) (hk : k + s.size ≤ 1000000000) (hbase : base ≤ W.heap.size) :
    ∃ o cap w6, (appSem #[100, 9] 100 #[v, .string s]).run Tryz.prog W = .ok (.slice o (k + s.size) cap) w6 ∧
      w6.ownsRow base 5 1 (.slice o (k + s.size) cap) (k + s.size) (xs ++ byteCells s.data.toList) ∧ W.grownBy w6 v.ownBlock ∧ (∀ g, (Value.slice o (k + s.size) cap).ownBlock = some g → v.ownBlock = some g ∨ W.heap.size ≤ g) := by
  obtain ⟨i0, hi, hz0, hz1, hz2⟩ := info_parts infoByte
  obtain ⟨v', w6, hr, h2, h3, h4⟩ := Lib.run_append_own_string (P := Tryz.prog) W base 100 9 100 5 i0 Tryz.underlying100 Tryz.underlying9 hi hz0 hz1 hz2 v k xs ho s (by unfold maxLen; omega) (by omega) hbase
  obtain ⟨o, cap, rfl⟩ := own_form h2
  refine ⟨o, cap, w6, hr, h2, h3, fun g hg => ?_⟩
  rcases ho.2 with ⟨rfl, rfl⟩ | ⟨g0, cap0, cur, rfl, hbg, hgr, hnc, hcm, hcs, htake⟩
  · by_cases hm : s.size = 0
    · have := h4.2 ⟨rfl, hm⟩
      rw [this] at hg
      cases hg
    · have hr2 := run_append_nil_string (P := Tryz.prog) W 100 9 100 5 i0 (.int .u8 0) Tryz.underlying100 Tryz.underlying9 hi hz0 s (by omega) (by omega) (by rw [hz2]; omega)
      rw [hr] at hr2
      injection hr2 with e1 e2
      rw [e1] at hg
      right
      have : g = W.heap.size := by simpa [Value.ownBlock] using hg.symm
      omega
  · by_cases hroom : k + s.size ≤ cap0
    · have hcs' : cur.size = cap0 := by simpa using hcs
      have hr2 := Lib.run_append_room_string (P := Tryz.prog) W 100 9 100 5 i0 Tryz.underlying100 Tryz.underlying9 hi hz1 g0 k cap0 cur hgr s hroom (by omega)
      rw [hr] at hr2
      injection hr2 with e1 e2
      rw [e1] at hg
      exact .inl hg
    · have holds : ∀ j u, xs[j]? = some u → W.cell? ((⟨g0, 0, none⟩ : Addr).add j) = some u := ho.cells (g := g0) rfl
      have hxl : xs.length = k := by simpa using ho.1
      have hr2 := Lib.run_append_grow_string (P := Tryz.prog) W 100 9 100 5 i0 (.int .u8 0) Tryz.underlying100 Tryz.underlying9 hi hz0 ⟨g0, 0, none⟩ k cap0 xs (by rw [hz1]; simpa using hxl) holds s (by omega) (by omega) (by rw [hz2]; exact growslice_fits (by omega) (by omega))
      rw [hr] at hr2
      injection hr2 with e1 e2
      rw [e1] at hg
      right
      have : g = W.heap.size := by simpa [Value.ownBlock] using hg.symm
      omega
theorem byteCells_app (a b : List UInt8) : byteCells (a ++ b) = byteCells a ++ byteCells b := by unfold byteCells; rw [List.map_append]
set_option maxHeartbeats 2000000 in
theorem copyJ_any (b : Nat) (p v : Value) (hp : p = .pointer none ∨ p = selfV b) (w : World) (h : w.heap[b]? = some (bldO p v)) :
    Calls Tryz.prog 94 #[selfV b] w fun e w' => e = .returned (.tuple #[]) ∧ w'.heap[b]? = some (bldO (selfV b) v) ∧ Moves (fun k => k = b) w w' := by
  have hi : (Tryz.prog.info? 102).map (·.size) = some 2 := by kernel_rfl
  obtain ⟨j, hj, hjs⟩ := Option.map_eq_some_iff.1 hi
  have c0 : w.cell? ⟨b, 0, none⟩ = some p := by rw [cell_of_row _ _ 0 _ _ _ h]; rfl
  rcases hp with rfl | rfl
  · have hsh : w.shape? b = some (102, 2) := by simp [World.shape?, h]
    have f0 : w.frozen? ⟨b, 0, none⟩ = false := frozen_of_row _ _ _ _ _ h
    have e1 := Lib.run_to_unsafe (P := Tryz.prog) w ⟨b, 0, none⟩ Tryz.underlying99 Tryz.underlying140 hj (by rw [hjs]; decide) hsh (Nat.zero_lt_succ 1)
    have e2 := Lib.run_from_unsafe (P := Tryz.prog) w ⟨b, 0, none⟩ Tryz.underlying140 Tryz.underlying99 hj hsh (by kernel_rfl)
    have e3 := @run_callFunc_extern Tryz.prog 122 _ Extern.AbiNoEscape.same Tryz.func122 (by kernel_rfl) (by kernel_rfl) (by kernel_rfl) (by kernel_rfl)
    have e4 := Lib.run_noEscape (P := Tryz.prog) (w := w) (selfV b)
    have R : (w.setCell ⟨b, 0, none⟩ (selfV b)).heap[b]? = some (bldO (selfV b) v) := by rw [heap_setCell_same _ _ _ _ _ _ h]; rfl
    have HR := Lib.hid R
    have HM : Hid (Moves (fun k => k = b) w (w.setCell ⟨b, 0, none⟩ (selfV b))) := Lib.hid (Moves.setCell rfl)
    clear R h hj hjs hi hsh
    go_enter Tryz.func94, Tryz.ntmps94
    go_wp2
    first | go_end0 | skip
    exact ⟨rfl, HR.out, HM.out⟩
  · have e1 := Lib.run_neq_ptr_same (P := Tryz.prog) w ⟨b, 0, none⟩ Tryz.underlying99 hj
    have HR := Lib.hid h
    clear h hj hjs hi
    go_enter Tryz.func94, Tryz.ntmps94
    go_wp2
    first | go_end0 | skip
    exact ⟨rfl, HR.out, Moves.refl _ _⟩
theorem byteCells_len (l : List UInt8) : (byteCells l).length = l.length := by unfold byteCells; rw [List.length_map]
set_option maxHeartbeats 2000000 in
/-- WriteString: what the builder holds behind it, and where. -/
theorem writeJ_any (b base k : Nat) (p v : Value) (hp : p = .pointer none ∨ p = selfV b) (bs : List UInt8) (s : ByteArray) (w : World) (h : w.heap[b]? = some (bldO p v)) (ho : w.ownsRow base 5 1 v k (byteCells bs)) (hne : v.ownBlock ≠ some b) (hk : k + s.size ≤ 1000000000) (hbase : base ≤ w.heap.size) :
    Calls Tryz.prog 66 #[selfV b, .string s] w fun e w' => ∃ v', e = .returned (.tuple #[.int .i64 (s.size : Nat), .nilIface]) ∧ w'.heap[b]? = some (bldO (selfV b) v') ∧ w'.ownsRow base 5 1 v' (k + s.size) (byteCells (bs ++ s.data.toList)) ∧ (∀ g, v'.ownBlock = some g → v.ownBlock = some g ∨ w.heap.size ≤ g) ∧ Moves (fun g => g = b ∨ v.ownBlock = some g) w w' := by
  have hlt : b < w.heap.size := (Array.getElem?_eq_some_iff.1 h).1
  have HC := Lib.hid (copyJ_any b p v hp w h)
  have ST : Hid (∀ w1, w1.heap[b]? = some (bldO (selfV b) v) → Moves (fun k => k = b) w w1 → ∃ o cap w6, (appSem #[100, 9] 100 #[v, .string s]).run Tryz.prog w1 = .ok (.slice o (k + s.size) cap) w6 ∧ w6.heap[b]? = some (bldO (selfV b) v) ∧
      (Hid ((w6.setCell ⟨b, 1, none⟩ (.slice o (k + s.size) cap)).heap[b]? = some (bldO (selfV b) (.slice o (k + s.size) cap)) ∧ (w6.setCell ⟨b, 1, none⟩ (.slice o (k + s.size) cap)).ownsRow base 5 1 (.slice o (k + s.size) cap) (k + s.size) (byteCells (bs ++ s.data.toList)) ∧ (∀ g, (Value.slice o (k + s.size) cap).ownBlock = some g → v.ownBlock = some g ∨ w.heap.size ≤ g) ∧ Moves (fun g => g = b ∨ v.ownBlock = some g) w (w6.setCell ⟨b, 1, none⟩ (.slice o (k + s.size) cap))))) := Lib.hid fun w1 h1 m1 => by
    have ho1 : w1.ownsRow base 5 1 v k (byteCells bs) := by
      refine ⟨ho.1, ?_⟩
      rcases ho.2 with hn | ⟨g, cap, cur, rfl, hg, hh, rest⟩
      · exact .inl hn
      · exact .inr ⟨g, cap, cur, rfl, hg, row_keep hh m1 (fun e => hne (by rw [e]; rfl)), rest⟩
    have hz := m1.size
    obtain ⟨o, cap, w6, hr, h2, h3, h4⟩ := text_atJ s ho1 hk (by omega)
    have hb6 : w6.heap[b]? = some (bldO (selfV b) v) := by
      rw [h3.block b (by omega) (fun e => hne e.symm)]
      exact h1
    have hne' : (Value.slice o (k + s.size) cap).ownBlock ≠ some b := fun e => by
      rcases h4 b e with h | h
      · exact hne h
      · omega
    have ms : Moves (fun g => g = b) w6 (w6.setCell ⟨b, 1, none⟩ (.slice o (k + s.size) cap)) := Moves.setCell rfl
    refine ⟨o, cap, w6, hr, hb6, Lib.hid ⟨by rw [heap_setCell_same _ _ _ _ _ _ hb6]; rfl, ?_, fun g hg => ?_, ?_⟩⟩
    · rw [byteCells_app]
      refine ⟨h2.1, ?_⟩
      rcases h2.2 with hn | ⟨g, cap', cur, hv, hg, hh, rest⟩
      · exact .inl hn
      · exact .inr ⟨g, cap', cur, hv, hg, row_keep hh ms (fun e => hne' (by rw [hv, e]; rfl)), rest⟩
    · rcases h4 g hg with h | h
      · exact .inl h
      · exact .inr (by omega)
    · refine (m1.mono fun g e => .inl e).trans (Moves.trans ⟨h3.os, h3.tape, h3.output, h3.size, fun j hj hn => h3.block j hj fun e => hn (.inr e.symm)⟩ (ms.mono fun g e => .inl e))
  clear h ho hne hk hbase
  go_enter Tryz.func66, Tryz.ntmps66
  go_wp2_with fail
  refine HC.out.mono ?_
  rintro e w1 ⟨rfl, h1, m1⟩
  obtain ⟨o, cap, w6, hr, hb6, HF⟩ := ST.out w1 h1 m1
  obtain ⟨c0, c1⟩ := row_cells h1
  obtain ⟨d0, d1⟩ := row_cells hb6
  have f1 := frozen_of_row w6 b 1 _ _ hb6
  have lb6 : b < w6.heap.size := (Array.getElem?_eq_some_iff.1 hb6).1
  clear h1 m1 hb6
  go_wp2
  go_ret2
  exact ⟨_, rfl, HF.out.1, HF.out.2.1, HF.out.2.2.1, HF.out.2.2.2⟩
end Go.Proofs.YtnmhdcbpbaanoaaGreatDoor

namespace Go.Proofs.YtnmhdcbpbaanoaaGreatDoor

/-- The parts so far, where the next one begins, how far one has come, within brackets or not. -/
def CutAt (s : List UInt8) (acc : List (List UInt8)) (f p : Nat) (inn : Bool) : Prop := f ≤ p ∧ p ≤ s.length ∧ partsL false [] s = acc ++ partsL inn ((s.drop f).take (p - f)) (s.drop p)
theorem CutAt.start (s : List UInt8) : CutAt s [] 0 0 false := ⟨Nat.le_refl _, Nat.zero_le _, by simp⟩
theorem drop_getQ {s : List UInt8} {p : Nat} {b : UInt8} (h : s[p]? = some b) : s.drop p = b :: s.drop (p + 1) := by
  obtain ⟨hlt, rfl⟩ := List.getElem?_eq_some_iff.1 h
  exact List.drop_eq_getElem_cons hlt
theorem seg_moreQ {s : List UInt8} {f p : Nat} {b : UInt8} (hf : f ≤ p) (h : s[p]? = some b) : (s.drop f).take (p + 1 - f) = (s.drop f).take (p - f) ++ [b] := by
  rw [show p + 1 - f = (p - f) + 1 from by omega, List.take_add_one, List.getElem?_drop, show f + (p - f) = p from by omega, h]
  rfl
theorem CutAt.cut {s : List UInt8} {acc : List (List UInt8)} {f p : Nat} (h : CutAt s acc f p false) (hb : s[p]? = some 32) : CutAt s (acc ++ [(s.drop f).take (p - f)]) (p + 1) (p + 1) false := by
  obtain ⟨h1, h2, h3⟩ := h
  have hlt := (List.getElem?_eq_some_iff.1 hb).1
  refine ⟨Nat.le_refl _, by omega, ?_⟩
  rw [h3, drop_getQ hb, partsL, if_pos ⟨rfl, rfl⟩, Nat.sub_self, List.take_zero, List.append_assoc]
  rfl
theorem CutAt.skip {s : List UInt8} {acc : List (List UInt8)} {f p : Nat} {inn : Bool} {b : UInt8} (h : CutAt s acc f p inn) (hb : s[p]? = some b) (hn : ¬ (b = 32 ∧ inn = false)) : CutAt s acc f (p + 1) (b == 91 || (inn && b != 93)) := by
  obtain ⟨h1, h2, h3⟩ := h
  have hlt := (List.getElem?_eq_some_iff.1 hb).1
  refine ⟨by omega, by omega, ?_⟩
  rw [h3, drop_getQ hb, partsL, if_neg hn, seg_moreQ h1 hb]
theorem scanB_high {inn : Bool} : ∀ t : List UInt8, (∀ b ∈ t, 128 ≤ b.toNat) → scanB inn t = some inn
  | [], _ => rfl
  | b :: t, h => by
    have hb := h b (by simp)
    have n1 : b ≠ 32 := by rintro rfl; revert hb; decide
    have n2 : b ≠ 91 := by rintro rfl; revert hb; decide
    have n3 : b ≠ 93 := by rintro rfl; revert hb; decide
    rw [scanB, if_neg (fun e => n1 e.1), show (b == 91 || (inn && b != 93)) = inn from by cases inn <;> simp [n2, n3]]
    exact scanB_high t fun c hc => h c (List.mem_cons_of_mem _ hc)
theorem CutAt.high {s : List UInt8} {acc : List (List UInt8)} {f p w : Nat} {inn : Bool} (h : CutAt s acc f p inn) (hw : p + w ≤ s.length) (hb : ∀ i b, p ≤ i → i < p + w → s[i]? = some b → 128 ≤ b.toNat) : CutAt s acc f (p + w) inn := by
  obtain ⟨h1, h2, h3⟩ := h
  refine ⟨by omega, hw, ?_⟩
  have e : s.drop p = (s.drop p).take w ++ s.drop (p + w) := by rw [← List.drop_drop, List.take_append_drop]
  rw [h3, e, parts_scan _ _ _ inn inn (scanB_high _ ?_)]
  · congr 2
    rw [show p + w - f = (p - f) + w from by omega, List.take_add, List.drop_drop, show f + (p - f) = p from by omega]
  · intro b hm
    obtain ⟨i, hi⟩ := List.getElem?_of_mem hm
    have hlt := (List.getElem?_eq_some_iff.1 hi).1
    rw [List.length_take] at hlt
    rw [List.getElem?_take_of_lt (by omega), List.getElem?_drop] at hi
    exact hb (p + i) b (by omega) (by omega) hi
theorem CutAt.done {s : List UInt8} {acc : List (List UInt8)} {f : Nat} {inn : Bool} (h : CutAt s acc f s.length inn) : partsL false [] s = acc ++ [s.drop f] := by
  obtain ⟨h1, h2, h3⟩ := h
  rw [h3, List.drop_length, List.take_of_length_le (by rw [List.length_drop]; exact Nat.le_refl _)]
  rfl
theorem partsL_pos : ∀ (inn : Bool) (cur t : List UInt8), 1 ≤ (partsL inn cur t).length
  | _, _, [] => Nat.le_refl _
  | inn, cur, b :: t => by
    rw [partsL]
    split
    · simp
    · exact partsL_pos _ _ t
theorem partsL_len : ∀ (inn : Bool) (cur t : List UInt8), (partsL inn cur t).length ≤ t.length + 1
  | _, _, [] => by simp [partsL]
  | inn, cur, b :: t => by
    rw [partsL]
    split
    · have := partsL_len false [] t
      simp; omega
    · have := partsL_len (b == 91 || (inn && b != 93)) (cur ++ [b]) t
      simp; omega
theorem CutAt.more {s : List UInt8} {acc : List (List UInt8)} {f p : Nat} {inn : Bool} (h : CutAt s acc f p inn) : acc.length + 1 ≤ (partsL false [] s).length := by
  rw [h.2.2, List.length_append]
  have := partsL_pos inn ((s.drop f).take (p - f)) (s.drop p)
  omega
theorem partsL_size : ∀ (t : List UInt8) (inn : Bool) (cur : List UInt8), ∀ x ∈ partsL inn cur t, x.length ≤ cur.length + t.length
  | [], inn, cur, x, h => by
    have : x = cur := by simpa [partsL] using h
    rw [this]; simp
  | b :: t, inn, cur, x, h => by
    rw [partsL] at h
    split at h
    · rcases List.mem_cons.1 h with rfl | h
      · simp
      · have := partsL_size t false [] x h
        simp at this ⊢
        omega
    · have := partsL_size t _ _ x h
      simp at this ⊢
      omega
theorem partsS_size {s x : List UInt8} (h : x ∈ partsS s) : x.length ≤ s.length := by
  unfold partsS at h
  split at h
  · cases h
  · have := partsL_size s false [] x h
    simpa using this
theorem partsS_ne {s : List UInt8} (h : s ≠ []) : partsS s = partsL false [] s := by unfold partsS; rw [if_neg h]
/-- Too many parts are no pattern. -/
theorem fromParts_many {ns : List ByteArray} {l : List (List UInt8)} (h : 12 ≤ l.length) : fromParts ns l = none := by
  unfold fromParts
  split
  · rw [if_neg (by rw [List.length_tail]; omega)]
  · rw [if_neg (by omega)]
/-- The bytes of a rune that is not one byte's. -/
theorem high_bytes (s : ByteArray) (p : Nat) (h : p < s.size) (ha : 128 ≤ (s[p]'h).toNat) : 1 ≤ (Utf8.decode s p).2 ∧ p + (Utf8.decode s p).2 ≤ s.size ∧ ∀ i b, p ≤ i → i < p + (Utf8.decode s p).2 → s.data.toList[i]? = some b → 128 ≤ b.toNat := by
  have hg : ∀ i, i < s.size → ∀ b, s.data.toList[i]? = some b → (s.get! i) = b := by
    intro i hi b hb
    rw [Array.getElem?_toList] at hb
    show s.data[i]! = b
    rw [getElem!_def, hb]
  have h0 : 128 ≤ (s.get! p).toNat := by
    rw [hg p h (s[p]'h) (by rw [Array.getElem?_toList]; exact Array.getElem?_eq_getElem h)]
    exact ha
  have key : 1 ≤ (Utf8.decode s p).2 ∧ p + (Utf8.decode s p).2 ≤ s.size ∧ (1 < (Utf8.decode s p).2 → 128 ≤ (s.get! (p + 1)).toNat) ∧ (2 < (Utf8.decode s p).2 → 128 ≤ (s.get! (p + 2)).toNat) ∧ (3 < (Utf8.decode s p).2 → 128 ≤ (s.get! (p + 3)).toNat) ∧ (Utf8.decode s p).2 ≤ 4 := by
    rw [Lib.decode_at]
    generalize (s.get! p).toNat = b0 at h0
    generalize (s.get! (p + 1)).toNat = b1
    generalize (s.get! (p + 2)).toNat = b2
    generalize (s.get! (p + 3)).toNat = b3
    unfold Lib.decodeN
    repeat' split
    all_goals (simp only; omega)
  obtain ⟨k1, k2, k3, k4, k5, k6⟩ := key
  refine ⟨k1, k2, fun i b h1 h2 hb => ?_⟩
  have hi : i < s.size := by omega
  rw [← hg i hi b hb]
  rcases (by omega : i = p ∨ i = p + 1 ∨ i = p + 2 ∨ i = p + 3) with rfl | rfl | rfl | rfl
  · exact h0
  · exact k3 (by omega)
  · exact k4 (by omega)
  · exact k5 (by omega)

theorem dropWhile_le (q : UInt8 → Bool) : ∀ r : List UInt8, (r.dropWhile q).length ≤ r.length
  | [] => Nat.le_refl _
  | b :: r => by
    rw [List.dropWhile_cons]
    split
    · have := dropWhile_le q r
      rw [List.length_cons]; omega
    · exact Nat.le_refl _
/-- A text, and the stars behind it. -/
theorem bareB_form : ∀ s : List UInt8, s = bareB s ++ List.replicate (s.length - (bareB s).length) 42 ∧ (bareB s).getLast? ≠ some 42 := by
  have key : ∀ r : List UInt8, r = List.replicate (r.length - (r.dropWhile (· == 42)).length) 42 ++ r.dropWhile (· == 42) ∧ (r.dropWhile (· == 42)).head? ≠ some 42 := by
    intro r
    induction r with
    | nil => exact ⟨rfl, by simp⟩
    | cons b r ih =>
      by_cases hb : b = 42
      · subst hb
        rw [List.dropWhile_cons_of_pos (by decide)]
        refine ⟨?_, ih.2⟩
        have hl : (r.dropWhile (· == 42)).length ≤ r.length := dropWhile_le _ _
        rw [List.length_cons, show r.length + 1 - (r.dropWhile (· == 42)).length = (r.length - (r.dropWhile (· == 42)).length) + 1 from by omega, List.replicate_succ, List.cons_append, ← ih.1]
      · rw [List.dropWhile_cons_of_neg (by simpa using hb)]
        refine ⟨by simp, by simpa using hb⟩
  intro s
  obtain ⟨h1, h2⟩ := key s.reverse
  unfold bareB
  rw [List.length_reverse] at h1
  rw [List.length_reverse]
  constructor
  · have := congrArg List.reverse h1
    rw [List.reverse_reverse, List.reverse_append, List.reverse_replicate] at this
    exact this
  · rw [List.getLast?_reverse]; exact h2
theorem bareB_length (s : List UInt8) : (bareB s).length ≤ s.length := by
  unfold bareB
  rw [List.length_reverse]
  have := dropWhile_le (· == 42) s.reverse
  rwa [List.length_reverse] at this
/-- What ends with a star is no set's text. -/
theorem read_star {ns : List ByteArray} (hn : namesL ns) {t : List UInt8} (h : t.getLast? = some 42) : readL ns t = none := by
  unfold readL
  rw [if_neg (by rintro rfl; revert h; decide), if_neg (fun e => by rw [h] at e; revert e; simp), if_neg (fun e => by rw [h] at e; revert e; simp)]
  cases hv : valueL ns ⟨t.toArray⟩ with
  | none => rfl
  | some v =>
    have hm := hn.1 _ (List.mem_of_getElem? (valueL_some hv))
    have := hm.1 42 (by show 42 ∈ t; exact List.mem_of_getLast? h)
    exact absurd this (by decide)
/-- An item, its stars taken off one by one, two at most. -/
def itemL (ns : List ByteArray) (s : List UInt8) (how : Nat) : Option (Nat × Nat) := (readL ns s).map fun x => (x, how)
theorem item_two {ns : List ByteArray} (hn : namesL ns) (s : List UInt8) {k : Nat} (hk : k ≤ 2) {t : List UInt8} (e : s = t ++ List.replicate k 42) (h : k = 2 ∨ t.getLast? ≠ some 42) : itemR ns s = itemL ns t k := by
  obtain ⟨h1, h2⟩ := bareB_form s
  obtain ⟨m, hm⟩ : ∃ m, s.length - (bareB s).length = m := ⟨_, rfl⟩
  rw [hm] at h1
  unfold itemR itemL
  rw [hm]
  rcases Nat.lt_or_ge m k with hlt | hge
  · -- fewer stars than were taken off
    exfalso
    have : bareB s = t ++ List.replicate (k - m) 42 := by
      have h3 : t ++ List.replicate (k - m) 42 ++ List.replicate m 42 = bareB s ++ List.replicate m 42 := by
        rw [List.append_assoc, List.replicate_append_replicate, show k - m + m = k from by omega, ← e, ← h1]
      exact (List.append_cancel_right h3).symm
    apply h2
    rw [this, show k - m = (k - m - 1) + 1 from by omega, List.replicate_succ', ← List.append_assoc]
    exact List.getLast?_concat
  · have ht : t = bareB s ++ List.replicate (m - k) 42 := by
      have h3 : t ++ List.replicate k 42 = bareB s ++ List.replicate (m - k) 42 ++ List.replicate k 42 := by
        rw [List.append_assoc, List.replicate_append_replicate, show m - k + k = m from by omega, ← e, ← h1]
      exact List.append_cancel_right h3
    rcases Nat.eq_or_lt_of_le hge with rfl | hgt
    · rw [Nat.sub_self, List.replicate_zero, List.append_nil] at ht
      rw [if_pos hk, ht]
    · have hl : t.getLast? = some 42 := by
        rw [ht, show m - k = (m - k - 1) + 1 from by omega, List.replicate_succ', ← List.append_assoc]
        exact List.getLast?_concat
      rcases h with rfl | h
      · rw [if_neg (by omega), read_star hn hl]; rfl
      · exact absurd hl h
end Go.Proofs.YtnmhdcbpbaanoaaGreatDoor
