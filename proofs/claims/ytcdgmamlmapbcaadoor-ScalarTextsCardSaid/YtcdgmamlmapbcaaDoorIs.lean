/- errors.Is at the two sentinels, at nil; number. -/
import Derived.Test.YtcdgmamlmapbcaaDoorChecked
import Derived.WalkKit
import Derived.LaidEql
import Derived.Stop.Asserts
import Derived.RowKitTokens
namespace Go.Proofs.YtcdgmamlmapbcaaDoor
open Go.RowKit Go.Extern.Stop Go.Stop Go.Extern

theorem isTypeOf (v : Value) (w : World) : (callFunc 58 #[.iface 125 v]).run Tryd.prog w = .ok (.value (.iface 110 (.agg #[.pointer (some ⟨3, 125, none⟩)]))) w := by kernel_rfl
theorem isComparable (w : World) : (callFunc 98 #[.agg #[.pointer (some ⟨3, 125, none⟩)]]).run Tryd.prog w = .ok (.value (.bool true)) w := by kernel_rfl
theorem isMethodComparable (v : Value) (w : World) : (Go.method 261 110 v "Comparable").run Tryd.prog w = .ok (98, v) w := by kernel_rfl
theorem isComp : (Tryd.prog.info? 125).map (·.comparable) = some true := by kernel_rfl
theorem isSize : (Tryd.prog.info? 149).map (·.size) = some 1 := by kernel_rfl
theorem noIsE (v : Value) (xT : TypeId) (w : World) : (Instr.typeAssert (.iface 125 v) xT 112 true).run Tryd.prog w = .ok (.tuple #[.nilIface, .bool false]) w := run_typeAssert_lacksB Tryd.underlying112 (by kernel_rfl) (by kernel_rfl) v xT w
theorem noUnwrapE (v : Value) (xT : TypeId) (w : World) : (Instr.typeAssert (.iface 125 v) xT 115 true).run Tryd.prog w = .ok (.tuple #[.nilIface, .bool false]) w := run_typeAssert_lacksB Tryd.underlying115 (by kernel_rfl) (by kernel_rfl) v xT w
theorem noUnwrapsE (v : Value) (xT : TypeId) (w : World) : (Instr.typeAssert (.iface 125 v) xT 117 true).run Tryd.prog w = .ok (.tuple #[.nilIface, .bool false]) w := run_typeAssert_lacksB Tryd.underlying117 (by kernel_rfl) (by kernel_rfl) v xT w

abbrev errV (a : Addr) : Value := .iface 125 (.pointer (some a))

theorem is_same (a : Addr) (w : World) :
    Calls Tryd.prog 39 #[errV a, errV a] w fun e w' => e = .returned (.bool true) ∧ w = w' := by
  obtain ⟨i, hi, hcmp⟩ := Option.map_eq_some_iff.1 isComp
  obtain ⟨j, hj, hjs⟩ := Option.map_eq_some_iff.1 isSize
  have tT := isTypeOf
  have cT := isComparable
  have mR := isMethodComparable
  have heq := run_eql_iface_ptr_same (P := Tryd.prog) w a Tryd.underlying46 Tryd.underlying125 hi hcmp hj
  go_enter Tryd.func39, Tryd.ntmps39
  go_wp2
  refine wp_loop_rounds 1 ?_
  rw [rounds_succ]
  go_wp2
  go_ret
  exact ⟨rfl, rfl⟩

theorem is_nil (b : Addr) (w : World) :
    Calls Tryd.prog 39 #[.nilIface, errV b] w fun e w' => e = .returned (.bool false) ∧ w = w' := by
  have hn := run_eql_iface_nil_left (P := Tryd.prog) w 125 (.pointer (some b)) Tryd.underlying46
  go_enter Tryd.func39, Tryd.ntmps39
  go_wp2
  go_ret
  exact ⟨rfl, rfl⟩

theorem is_other (a b : Addr) (ca cb : Array Value) (ta tb : TypeId) (w : World) (hne : a ≠ b) (ha : w.heap[a.block]? = some (.cells ca ta (0, 0))) (hb : w.heap[b.block]? = some (.cells cb tb (0, 0))) :
    Calls Tryd.prog 39 #[errV a, errV b] w fun e w' => e = .returned (.bool false) ∧ w = w' := by
  obtain ⟨i, hi, hcmp⟩ := Option.map_eq_some_iff.1 isComp
  obtain ⟨j, hj, hjs⟩ := Option.map_eq_some_iff.1 isSize
  have tT := isTypeOf
  have cT := isComparable
  have mR := isMethodComparable
  have nE := noIsE
  have uE := noUnwrapE
  have vE := noUnwrapsE
  have heq := run_eql_iface_ptr_other (P := Tryd.prog) w Tryd.underlying46 Tryd.underlying125 hi hcmp hj (by rw [hjs]; decide) hne ha hb
  go_enter Tryd.func39, Tryd.ntmps39
  go_wp2
  refine wp_loop_rounds 1 ?_
  rw [rounds_succ]
  go_wp2
  go_ret
  exact ⟨rfl, rfl⟩

/-- The two sentinels, aS they lie from start-up on: their variables, and what these point to. -/
structure Glob (w : World) (aU aS : Addr) : Prop where
  utf : w.cell? ⟨0, 0, none⟩ = some (errV aU)
  sca : w.cell? ⟨1, 0, none⟩ = some (errV aS)
  ne : aU ≠ aS
  rowU : ∃ c t, w.heap[aU.block]? = some (.cells c t (0, 0))
  rowS : ∃ c t, w.heap[aS.block]? = some (.cells c t (0, 0))
  ltU : 0 < w.heap.size
  ltS : 1 < w.heap.size

theorem Glob.lt_aU {w : World} {aU aS : Addr} (h : Glob w aU aS) : aU.block < w.heap.size := by
  obtain ⟨c, t, hc⟩ := h.rowU
  exact (Array.getElem?_eq_some_iff.1 hc).1
theorem Glob.lt_aS {w : World} {aU aS : Addr} (h : Glob w aU aS) : aS.block < w.heap.size := by
  obtain ⟨c, t, hc⟩ := h.rowS
  exact (Array.getElem?_eq_some_iff.1 hc).1
/-- They lie so in every world that is the same below where w ends. -/
theorem Glob.keep {w w' : World} {aU aS : Addr} (h : Glob w aU aS) (hs : w.heap.size ≤ w'.heap.size) (hb : ∀ k, k < w.heap.size → w'.heap[k]? = w.heap[k]?) : Glob w' aU aS where
  utf := (World.cell?_of_block (w := w) (hb _ h.ltU)).trans h.utf
  sca := (World.cell?_of_block (w := w) (hb _ h.ltS)).trans h.sca
  ne := h.ne
  rowU := by obtain ⟨c, t, hc⟩ := h.rowU; exact ⟨c, t, (hb _ h.lt_aU).trans hc⟩
  rowS := by obtain ⟨c, t, hc⟩ := h.rowS; exact ⟨c, t, (hb _ h.lt_aS).trans hc⟩
  ltU := Nat.lt_of_lt_of_le h.ltU hs
  ltS := Nat.lt_of_lt_of_le h.ltS hs
theorem Glob.below {w w' : World} {aU aS : Addr} (h : Glob w aU aS) (hb : Below w.heap.size w w') : Glob w' aU aS := h.keep hb.size hb.block
theorem Glob.drew {w : World} {aU aS : Addr} (h : Glob w aU aS) : Glob w.drew aU aS := h.keep (Nat.le_refl _) fun _ _ => rfl

theorem is_us {w : World} {aU aS : Addr} (h : Glob w aU aS) : Calls Tryd.prog 39 #[errV aU, errV aS] w fun e w' => e = .returned (.bool false) ∧ w = w' := by
  obtain ⟨c, t, hc⟩ := h.rowU
  obtain ⟨d, u, hd⟩ := h.rowS
  exact is_other aU aS c d t u w h.ne hc hd

theorem number_nil {w : World} {aU aS : Addr} (h : Glob w aU aS) : Calls Tryd.prog 40 #[.nilIface] w fun e w' => e = .returned (.int .i64 0) ∧ w = w' := by
  have hu := h.utf
  have hs := h.sca
  go_enter Tryd.func40, Tryd.ntmps40
  go_wp2_with fail
  refine (is_nil aS _).mono ?_
  rintro e w' ⟨rfl, rfl⟩
  go_wp2_with fail
  refine (is_nil aU _).mono ?_
  rintro e w' ⟨rfl, rfl⟩
  go_wp2
  go_ret
  exact ⟨rfl, rfl⟩
theorem number_sca {w : World} {aU aS : Addr} (h : Glob w aU aS) : Calls Tryd.prog 40 #[errV aS] w fun e w' => e = .returned (.int .i64 10) ∧ w = w' := by
  have hu := h.utf
  have hs := h.sca
  go_enter Tryd.func40, Tryd.ntmps40
  go_wp2_with fail
  refine (is_same aS _).mono ?_
  rintro e w' ⟨rfl, rfl⟩
  go_wp2
  go_ret
  exact ⟨rfl, rfl⟩
theorem number_utf {w : World} {aU aS : Addr} (h : Glob w aU aS) : Calls Tryd.prog 40 #[errV aU] w fun e w' => e = .returned (.int .i64 11) ∧ w = w' := by
  have hu := h.utf
  have hs := h.sca
  go_enter Tryd.func40, Tryd.ntmps40
  go_wp2_with fail
  refine (is_us h).mono ?_
  rintro e w' ⟨rfl, rfl⟩
  go_wp2_with fail
  refine (is_same aU _).mono ?_
  rintro e w' ⟨rfl, rfl⟩
  go_wp2
  go_ret
  exact ⟨rfl, rfl⟩
end Go.Proofs.YtcdgmamlmapbcaaDoor
