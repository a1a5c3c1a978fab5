/- Names; readerOf, named, says, records. The document's own Value and letter. -/
import Derived.Test.YtfgnpdfdncnbfaaGreatDoorBunP5
namespace Go.Proofs.YtfgnpdfdncnbfaaGreatDoor
open Go.RowKit Go.Shelf Go.Maps
attribute [local go_sem] Oper.semAt_some

set_option maxHeartbeats 1000000 in
theorem Names_any (o : Option Addr) (ns : List ByteArray) (cap : Nat) (hn : ns.length ≤ 1000) (hz : ∀ s ∈ ns, s.size ≤ 1000000) (w : World) (hA : TxtAt w o ns) :
    Calls Tryz.prog 20 #[.slice o ns.length cap] w fun e w' => e = .returned (.bool (decide (namesL ns))) ∧ Below w.heap.size w w' := by
  have h1 := Lib.hid (namesOf_any o ns cap hn hz w hA)
  have h2 := Lib.hid (fun (w1 : World) (b1 : Below w.heap.size w w1) (hV : ValsOf w1 (w.heap.size + 1) ns) => rightN_any o ns cap (w.heap.size + 1) hn hz w1 (hA.below b1) hV)
  obtain ⟨D, hD⟩ : ∃ D, decide (namesL ns) = D := ⟨_, rfl⟩
  rw [hD] at h2 ⊢
  obtain ⟨n, hnn⟩ : ∃ n, ns.length = n := ⟨_, rfl⟩
  rw [hnn] at h1 h2 ⊢
  clear hD hnn hA
  go_enter Tryz.func20, Tryz.ntmps20
  go_wp2_with fail
  refine h1.out.mono ?_
  rintro e w1 ⟨rfl, hV, b1⟩
  have B1 := Lib.hid b1
  have C2 := Lib.hid (h2.out w1 b1 hV)
  clear b1 hV h2
  go_wp2_with fail
  refine C2.out.mono ?_
  rintro e w2 ⟨rfl, b2⟩
  have B2 := Lib.hid (B1.out.trans (b2.mono B1.out.size))
  clear b2
  go_wp2
  go_ret
  exact ⟨rfl, B2.out⟩
abbrev readerC (o : Option Addr) (n cap b : Nat) (k : Int) (loose : Bool) : Array Value := #[.slice o n cap, .map (some b), .int .i64 k, .bool loose]
abbrev readerV (o : Option Addr) (n cap b : Nat) (k : Int) (loose : Bool) : Value := .agg (readerC o n cap b k loose)
abbrev readerO (o : Option Addr) (n cap b : Nat) (k : Int) (loose : Bool) : Obj := .cells (readerC o n cap b k loose) 79 (0, 0)
theorem row4_set {w : World} {g : Nat} {t : TypeId} {a b c d : Value} (x y z u : Value) (h : w.heap[g]? = some (.cells #[a, b, c, d] t (0, 0))) :
    ((((w.setCell ⟨g, 0, none⟩ x).setCell ⟨g, 1, none⟩ y).setCell ⟨g, 2, none⟩ z).setCell ⟨g, 3, none⟩ u).heap[g]? = some (.cells #[x, y, z, u] t (0, 0)) ∧
    Moves (fun k => k = g) w ((((w.setCell ⟨g, 0, none⟩ x).setCell ⟨g, 1, none⟩ y).setCell ⟨g, 2, none⟩ z).setCell ⟨g, 3, none⟩ u) := by
  constructor
  · have h1 := heap_setCell_same w _ 0 _ _ x h
    have h2 := heap_setCell_same _ _ 1 _ _ y h1
    have h3 := heap_setCell_same _ _ 2 _ _ z h2
    exact heap_setCell_same _ _ 3 _ _ u h3
  · exact (((Moves.setCell (S := fun k => k = g) (a := ⟨g, 0, none⟩) rfl).trans (Moves.setCell (S := fun k => k = g) (a := ⟨g, 1, none⟩) rfl)).trans (Moves.setCell (S := fun k => k = g) (a := ⟨g, 2, none⟩) rfl)).trans (Moves.setCell (S := fun k => k = g) (a := ⟨g, 3, none⟩) rfl)
/-- What readerOf answers. -/
def ReaderP (o : Option Addr) (ns : List ByteArray) (cap : Nat) (k : Int) (loose : Bool) (w : World) (e : Ending) (w' : World) : Prop :=
  Below w.heap.size w w' ∧ ((¬ (namesL ns ∧ 0 ≤ k ∧ k < 20) ∧ e = .returned (.tuple #[.agg #[.slice none 0 0, .map none, .int .i64 0, .bool false], pfaultV 0 2])) ∨
    ((namesL ns ∧ 0 ≤ k ∧ k < 20) ∧ ∃ b, e = .returned (.tuple #[readerV o ns.length cap b k loose, .nilIface]) ∧ ValsOf w' b ns))
set_option maxRecDepth 100000 in
set_option maxHeartbeats 2000000 in
theorem readerOf_any (o : Option Addr) (ns : List ByteArray) (cap : Nat) (k : Int) (loose : Bool) (hn : ns.length ≤ 1000) (hz : ∀ s ∈ ns, s.size ≤ 1000000) (w : World) (hA : TxtAt w o ns) :
    Calls Tryz.prog 50 #[.int .i64 k, .bool loose, .slice o ns.length cap] w (ReaderP o ns cap k loose w) := by
  obtain ⟨wr0, hwr0⟩ : ∃ x, w.alloc (.cells #[.slice none 0 0, .map none, .int .i64 0, .bool false] 79) = x := ⟨_, rfl⟩
  have A0 : Below w.heap.size w wr0 := by rw [← hwr0]; exact (Below.refl _ _).alloc (Nat.le_refl _) _
  have h1 := Lib.hid (namesOf_any o ns cap hn hz wr0 (hA.below A0))
  have h2 := Lib.hid (fun (b : Nat) (W : World) (bb : Below w.heap.size w W) (hV : ValsOf W b ns) => rightN_any o ns cap b hn hz W (hA.below bb) hV)
  have R0 : wr0.heap[w.heap.size]? = some (.cells #[.slice none 0 0, .map none, .int .i64 0, .bool false] 79 (0, 0)) := by rw [← hwr0]; exact heap_alloc_new _ _
  obtain ⟨P, hP⟩ : ∃ P, ReaderP o ns cap k loose w = P := ⟨_, rfl⟩
  have HP := Lib.hid hP
  rw [hP]
  obtain ⟨n, hnn⟩ : ∃ n, ns.length = n := ⟨_, rfl⟩
  have HN := Lib.hid hnn
  rw [hnn] at h1 h2 ⊢
  have HW0 := Lib.hid hwr0
  have HA0 := Lib.hid A0
  have HR0 := Lib.hid R0
  clear hwr0 hP hnn A0 R0 hA hn
  go_enter Tryz.func50, Tryz.ntmps50
  go_wp2_with fail
  rw [HW0.out]
  refine h1.out.mono ?_
  rintro e w1 ⟨rfl, hV, b1⟩
  obtain ⟨b, hb⟩ : ∃ b, wr0.heap.size + 1 = b := ⟨_, rfl⟩
  have HBN : Hid (b ≠ w.heap.size) := Lib.hid (by have := HA0.out.size; omega)
  rw [hb] at hV ⊢
  obtain ⟨w1', hw1'⟩ : ∃ x, w1.alloc (namesO o n cap b) = x := ⟨_, rfl⟩
  have b1' : Below w1.heap.size w1 w1' := by rw [← hw1']; exact (Below.refl _ _).alloc (Nat.le_refl _) _
  have B1 := Lib.hid (HA0.out.trans (b1.mono HA0.out.size))
  have B1' := Lib.hid (B1.out.trans (b1'.mono B1.out.size))
  have HV' := Lib.hid (hV.below b1')
  have RN : w1'.heap[w1.heap.size]? = some (namesO o n cap b) := by rw [← hw1']; exact heap_alloc_new _ _
  have HRN := Lib.hid RN
  have HR1 : Hid (w1'.heap[w.heap.size]? = some (.cells #[.slice none 0 0, .map none, .int .i64 0, .bool false] 79 (0, 0))) := Lib.hid (row_below (row_below HR0.out b1) b1')
  have C2 := Lib.hid (h2.out b w1' B1'.out HV'.out)
  have HW1 := Lib.hid hw1'
  clear hV b1 b1' hw1' RN hb h1 h2
  go_wp2_with fail
  rw [HW1.out]
  refine C2.out.mono ?_
  rintro e w2 ⟨rfl, b2⟩
  have B2 := Lib.hid (B1'.out.trans (b2.mono B1'.out.size))
  have HV2 := Lib.hid (HV'.out.below b2)
  have RN2 := row_below HRN.out b2
  have R2 := row_below HR1.out b2
  have n0 : w2.cell? ⟨w1.heap.size, 0, none⟩ = some (.slice o n cap) := cell_of_row w2 _ 0 _ _ _ RN2
  have n1 : w2.cell? ⟨w1.heap.size, 1, none⟩ = some (.map (some b)) := cell_of_row w2 _ 1 _ _ _ RN2
  have d0 : w2.cell? ⟨w.heap.size, 0, none⟩ = some (.slice none 0 0) := cell_of_row w2 _ 0 _ _ _ R2
  have d1 : w2.cell? ⟨w.heap.size, 1, none⟩ = some (.map none) := cell_of_row w2 _ 1 _ _ _ R2
  have d2 : w2.cell? ⟨w.heap.size, 2, none⟩ = some (.int .i64 0) := cell_of_row w2 _ 2 _ _ _ R2
  have d3 : w2.cell? ⟨w.heap.size, 3, none⟩ = some (.bool false) := cell_of_row w2 _ 3 _ _ _ R2
  have fz : ∀ i, w2.frozen? ⟨w.heap.size, i, none⟩ = false := fun i => frozen_of_row _ _ i _ _ R2
  have BAD : Hid (¬ (namesL ns ∧ 0 ≤ k ∧ k < 20) → P (.returned (.tuple #[.agg #[.slice none 0 0, .map none, .int .i64 0, .bool false], pfaultV 0 2])) ((((w2.setCell ⟨w.heap.size, 0, none⟩ (.slice none 0 0)).setCell ⟨w.heap.size, 1, none⟩ (.map none)).setCell ⟨w.heap.size, 2, none⟩ (.int .i64 0)).setCell ⟨w.heap.size, 3, none⟩ (.bool false))) := Lib.hid fun h => by
    rw [← HP.out]
    exact ⟨Moves.below (S := fun k => k = w.heap.size) B2.out B2.out.size (row4_set _ _ _ _ R2).2 (fun k h => by omega), .inl ⟨h, rfl⟩⟩
  have GOOD : Hid ((namesL ns ∧ 0 ≤ k ∧ k < 20) → P (.returned (.tuple #[readerV o n cap b k loose, .nilIface])) ((((w2.setCell ⟨w.heap.size, 0, none⟩ (.slice o n cap)).setCell ⟨w.heap.size, 1, none⟩ (.map (some b))).setCell ⟨w.heap.size, 2, none⟩ (.int .i64 k)).setCell ⟨w.heap.size, 3, none⟩ (.bool loose))) := Lib.hid fun h => by
    rw [← HP.out]
    refine ⟨Moves.below (S := fun k => k = w.heap.size) B2.out B2.out.size (row4_set _ _ _ _ R2).2 (fun k h => by omega), .inr ⟨h, b, by rw [HN.out], HV2.out.row ?_⟩⟩
    exact (row4_set _ _ _ _ R2).2.block b HV2.out.lt HBN.out
  have Z1 := Lib.hid (row4_set (.slice none 0 0) (.map none) (.int .i64 0) (.bool false) R2).1
  have Z2 := Lib.hid (row4_set (.slice o n cap) (.map (some b)) (.int .i64 k) (.bool loose) R2).1
  clear b2 RN2 R2 C2
  by_cases g1 : namesL ns
  · rw [decide_eq_true g1]
    by_cases g2 : 0 ≤ k
    · by_cases g3 : k < 20
      · have HQ := Lib.hid (GOOD.out ⟨g1, g2, g3⟩)
        clear GOOD BAD g1
        go_wp2_with fail
        refine bodyPost_ret (v := .tuple #[readerV o n cap b k loose, .nilIface]) ?_ rfl HQ.out
        exact results_cell_tmp rfl _ _ w.heap.size 79 (readerC o n cap b k loose) (0, 0) _ _ rfl rfl Z2.out Tryz.underlying79 rfl (by kernel_rfl)
      · have HQ := Lib.hid (BAD.out fun h => g3 h.2.2)
        clear GOOD BAD g1
        go_wp2_with fail
        refine bodyPost_ret (v := .tuple #[.agg #[.slice none 0 0, .map none, .int .i64 0, .bool false], pfaultV 0 2]) ?_ rfl HQ.out
        exact results_cell_tmp rfl _ _ w.heap.size 79 #[.slice none 0 0, .map none, .int .i64 0, .bool false] (0, 0) _ _ rfl rfl Z1.out Tryz.underlying79 rfl (by kernel_rfl)
    · have HQ := Lib.hid (BAD.out fun h => g2 h.2.1)
      clear GOOD BAD g1
      go_wp2_with fail
      refine bodyPost_ret (v := .tuple #[.agg #[.slice none 0 0, .map none, .int .i64 0, .bool false], pfaultV 0 2]) ?_ rfl HQ.out
      exact results_cell_tmp rfl _ _ w.heap.size 79 #[.slice none 0 0, .map none, .int .i64 0, .bool false] (0, 0) _ _ rfl rfl Z1.out Tryz.underlying79 rfl (by kernel_rfl)
  · rw [decide_eq_false g1]
    have HQ := Lib.hid (BAD.out fun h => g1 h.1)
    clear GOOD BAD g1
    go_wp2_with fail
    refine bodyPost_ret (v := .tuple #[.agg #[.slice none 0 0, .map none, .int .i64 0, .bool false], pfaultV 0 2]) ?_ rfl HQ.out
    exact results_cell_tmp rfl _ _ w.heap.size 79 #[.slice none 0 0, .map none, .int .i64 0, .bool false] (0, 0) _ _ rfl rfl Z1.out Tryz.underlying79 rfl (by kernel_rfl)
/-- The value of the name in a record's field. -/
def fieldV (ns : List ByteArray) (k : Nat) (F : List ByteArray) : Option Nat := (F[k]?).bind fun f => valueL ns f
def namedV (l : Int) (v : Option Nat) : Value := match v with
  | some v => .tuple #[.int .i64 (v : Nat), .nilIface]
  | none => .tuple #[.int .i64 0, pfaultV l 40]
abbrev recW (l a b : Int) (fo : Option Addr) (fl fc : Nat) : Value := .agg #[.int .i64 l, .int .i64 a, .int .i64 b, .slice fo fl fc]
set_option maxRecDepth 100000 in
set_option maxHeartbeats 4000000 in
theorem named_any (o : Option Addr) (ns : List ByteArray) (n cap b k : Nat) (loose : Bool) (l x y : Int) (fo : Option Addr) (F : List ByteArray) (fc : Nat) (hk : k < 20) (hF : F.length ≤ 1000) (hz : ∀ s ∈ F, s.size ≤ 1000000) (w : World) (hV : ValsOf w b ns) (hA : TxtAt w fo F) :
    Calls Tryz.prog 92 #[readerV o n cap b (k : Nat) loose, recW l x y fo F.length fc] w fun e w' => e = .returned (namedV l (fieldV ns k F)) ∧ Below w.heap.size w w' := by
  obtain ⟨P, hP⟩ : ∃ P, (fun (e : Ending) w' => e = .returned (namedV l (fieldV ns k F)) ∧ Below w.heap.size w w') = P := ⟨_, rfl⟩
  have HP := Lib.hid hP
  rw [hP]
  obtain ⟨m, hm⟩ : ∃ m, F.length = m := ⟨_, rfl⟩
  have HM := Lib.hid hm
  rw [hm] at hF ⊢
  obtain ⟨w1, hw1⟩ : ∃ W, (w.alloc (readerO o n cap b (k : Nat) loose)).alloc (.cells #[.int .i64 l, .int .i64 x, .int .i64 y, .slice fo m fc] 47) = W := ⟨_, rfl⟩
  have A1 : Below w.heap.size w w1 := by rw [← hw1]; exact ((Below.refl _ _).alloc (Nat.le_refl _) _).alloc (by simp) _
  have RR : w1.heap[w.heap.size]? = some (readerO o n cap b (k : Nat) loose) := by rw [← hw1, Below.heap_alloc _ _ _ (by simp)]; exact heap_alloc_new _ _
  have RC : w1.heap[w.heap.size + 1]? = some (.cells #[.int .i64 l, .int .i64 x, .int .i64 y, .slice fo m fc] 47 (0, 0)) := by
    rw [← hw1]
    have := heap_alloc_new (w.alloc (readerO o n cap b (k : Nat) loose)) (.cells #[.int .i64 l, .int .i64 x, .int .i64 y, .slice fo m fc] 47)
    rwa [World.size_alloc] at this
  have r0 : w1.cell? ⟨w.heap.size, 0, none⟩ = some (.slice o n cap) := cell_of_row w1 _ 0 _ _ _ RR
  have r1 : w1.cell? ⟨w.heap.size, 1, none⟩ = some (.map (some b)) := cell_of_row w1 _ 1 _ _ _ RR
  have r2 : w1.cell? ⟨w.heap.size, 2, none⟩ = some (.int .i64 (k : Nat)) := cell_of_row w1 _ 2 _ _ _ RR
  have c0 : w1.cell? ⟨w.heap.size + 1, 0, none⟩ = some (.int .i64 l) := cell_of_row w1 _ 0 _ _ _ RC
  have c3 : w1.cell? ⟨w.heap.size + 1, 3, none⟩ = some (.slice fo m fc) := cell_of_row w1 _ 3 _ _ _ RC
  have hk2 : k < 1000000 := by omega
  have HV := Lib.hid (hV.below A1)
  have HA := Lib.hid (hA.below A1)
  have HA1 := Lib.hid A1
  have HRC := Lib.hid RC
  have HZ := Lib.hid hz
  have HW1 := Lib.hid hw1
  have FAIL : fieldV ns k F = none → ∀ W, Below w.heap.size w W → Hid (P (.returned (.tuple #[.int .i64 0, pfaultV l 40])) W) := fun h W hb => by
    rw [← HP.out]
    exact Lib.hid ⟨by rw [h]; rfl, hb⟩
  have GOOD : ∀ v, fieldV ns k F = some v → ∀ W, Below w.heap.size w W → Hid (P (.returned (.tuple #[.int .i64 (v : Nat), .nilIface])) W) := fun v h W hb => by
    rw [← HP.out]
    exact Lib.hid ⟨by rw [h]; rfl, hb⟩
  clear hP hm hw1 A1 RR RC hV hA hz
  go_enter Tryz.func92, Tryz.ntmps92
  by_cases hlt : k < m
  · obtain ⟨f, hf⟩ : ∃ f, F[k]? = some f := ⟨_, List.getElem?_eq_getElem (by rw [HM.out]; exact hlt)⟩
    have hfv : fieldV ns k F = valueL ns f := by unfold fieldV; rw [hf]; rfl
    rw [hfv] at FAIL GOOD
    obtain ⟨g, off, rfl, hc⟩ := HA.out (by rw [HM.out]; omega)
    have k0 := hc k f hf
    have hg := World.block_lt_of_cell? w1 _ k0
    have V1 := Lib.hid (fun W (bb : Below w1.heap.size w1 W) => value_any o n cap b ns f (HZ.out f (List.mem_of_getElem? hf)) W (HV.out.below bb))
    have hkc : ((k : Nat) : Int) < ((m : Nat) : Int) := by omega
    have VC := Lib.hid (V1.out w1.drew ((Below.refl _ _).drew))
    clear hc hf hfv V1
    cases hv : valueL ns f with
    | some v =>
      have GD := Lib.hid (GOOD v hv)
      rw [hv] at VC
      unfold ansV at VC
      simp only at VC
      clear GOOD FAIL hv
      go_wp2_with fail
      rw [HW1.out]
      go_wp2_with fail
      go_region_with (go_at_call 36; refine VC.out.mono ?_; rintro e w2 ⟨rfl, b2⟩)
      all_goals
        go_simp
        have HQ := GD.out w2 (HA1.out.trans (((show Below w1.heap.size w1 w1.drew from (Below.refl _ _).drew).trans b2).mono HA1.out.size))
        clear b2
        go_wp2
        exact HQ.out
    | none =>
      have FL := Lib.hid (FAIL hv)
      rw [hv] at VC
      unfold ansV at VC
      simp only at VC
      clear GOOD FAIL hv
      go_wp2_with fail
      rw [HW1.out]
      go_wp2_with fail
      go_region_with (go_at_call 36; refine VC.out.mono ?_; rintro e w2 ⟨rfl, b2⟩)
      all_goals
        go_simp
        have B2 := (show Below w1.heap.size w1 w1.drew from (Below.refl _ _).drew).trans b2
        have RC2 := row_below HRC.out B2
        have e0 : w2.cell? ⟨w.heap.size + 1, 0, none⟩ = some (.int .i64 l) := cell_of_row w2 _ 0 _ _ _ RC2
        have HB2 := Lib.hid (HA1.out.trans (B2.mono HA1.out.size))
        clear b2 B2 RC2 c0
        go_wp2_with fail
        go_quiet (fail)
        go_wp2
        exact (FL.out _ (HB2.out.trans ((below_drewN w2 nq).mono HB2.out.size))).out
  · have hkc : ¬ ((k : Nat) : Int) < ((m : Nat) : Int) := by omega
    have hnone : fieldV ns k F = none := by
      unfold fieldV
      rw [List.getElem?_eq_none (by rw [HM.out]; omega)]
      rfl
    have FL := Lib.hid (FAIL hnone)
    clear GOOD FAIL hnone
    go_wp2_with fail
    rw [HW1.out]
    go_wp2_with fail
    go_quiet (fail)
    go_wp2
    exact (FL.out _ (HA1.out.trans ((below_drewN w1 nq).mono HA1.out.size))).out
end Go.Proofs.YtfgnpdfdncnbfaaGreatDoor

namespace Go.Proofs.YtfgnpdfdncnbfaaGreatDoor
open Go.RowKit Go.Shelf Go.Maps
attribute [local go_sem] Oper.semAt_some

theorem toList_sameP {x y : ByteArray} (h : x ≠ y) : (x.toList == y.toList) = false := by
  rw [beq_eq_false_iff_ne, Lib.toList_data, Lib.toList_data]
  exact fun e => h (bytes_ext e)
theorem valueL_pre {ns : List ByteArray} {j : Nat} {x s : ByteArray} (hx : ns[j]? = some x) (hn : valueL (ns.take j) s = none) (he : x = s) : valueL ns s = some j := by
  have h1 := valueL_append (ns.take (j + 1)) (ns.drop (j + 1)) s
  rw [List.take_append_drop, valueL_snoc hx, hn, if_pos he] at h1
  rw [h1]
  rfl
theorem refValue_any (o : Option Addr) (ns : List ByteArray) (cap : Nat) (s : ByteArray) (hn : ns.length ≤ 1000) (w : World) (hA : TxtAt w o ns) :
    Calls Tryz.prog 18 #[.slice o ns.length cap, .string s] w fun e w' => e = .returned (ansV (valueL ns s)) ∧ Below w.heap.size w w' := by
  obtain ⟨P, hP⟩ : ∃ P, (fun (e : Ending) w' => e = .returned (ansV (valueL ns s)) ∧ Below w.heap.size w w') = P := ⟨_, rfl⟩
  have HP := Lib.hid hP
  rw [hP]
  obtain ⟨n, hnn⟩ : ∃ n, ns.length = n := ⟨_, rfl⟩
  have HN := Lib.hid hnn
  rw [hnn] at hn ⊢
  have HA := Lib.hid hA
  have HB0 := Lib.hid (Below.refl w.heap.size w)
  clear hP hnn hA
  go_enter Tryz.func18, Tryz.ntmps18
  go_wp2_with fail
  go_loopg [6] n (fun k v wr => ∃ (j : Nat), v = .int .i64 (j : Nat) ∧ j ≤ n ∧ k = n - j ∧ Hid (valueL (ns.take j) s = none) ∧ Hid (Below w.heap.size w wr))
  case atStart => exact ⟨0, rfl, Nat.zero_le _, rfl, Lib.hid rfl, HB0⟩
  case round =>
    obtain ⟨j, rfl, hj, rfl, HI, HB⟩ := hrel
    rcases Nat.lt_or_ge j n with hlt | hge
    · have hj1 : j < 1000000 := by omega
      obtain ⟨x, hx⟩ : ∃ x, ns[j]? = some x := ⟨_, List.getElem?_eq_getElem (by rw [HN.out]; exact hlt)⟩
      obtain ⟨g, off, rfl, hc⟩ := (HA.out.below HB.out) (by rw [HN.out]; omega)
      have k0 := hc j x hx
      have hg := World.block_lt_of_cell? wr _ k0
      by_cases he : x = s
      · have HQ : Hid (P (.returned (.tuple #[.int .i64 (j : Nat), .bool true])) wr) := by
          rw [← HP.out]
          exact Lib.hid ⟨by rw [valueL_pre hx HI.out he]; rfl, HB.out⟩
        have hd : (x.toList == s.toList) = true := by rw [he]; simp
        clear hc hx he
        go_wp2
        exact HQ.out
      · have HI2 : Hid (valueL (ns.take (j + 1)) s = none) := Lib.hid (by rw [valueL_snoc hx, HI.out, if_neg he]; rfl)
        have hd : (x.toList == s.toList) = false := toList_sameP he
        clear hc hx he
        go_wp2
        go_roundg (n - (j + 1))
        case measure => omega
        case rel => exact ⟨j + 1, by simp, by omega, rfl, HI2, HB⟩
    · obtain rfl : j = n := by omega
      have hI := HI.out
      rw [List.take_of_length_le (by rw [HN.out]; exact Nat.le_refl _)] at hI
      have HQ : Hid (P (.returned (.tuple #[.int .i64 0, .bool false])) wr) := by
        rw [← HP.out]
        exact Lib.hid ⟨by rw [hI]; rfl, HB.out⟩
      clear hI HI
      go_wp2
      exact HQ.out
set_option maxHeartbeats 1000000 in
theorem letter_c (r : Int) (w : World) : Calls Tryz.prog 38 #[.int .u8 r] w fun e w' => e = .returned (.bool (runeB r)) ∧ w = w' := by
  have HD : Hid (∀ b, runeB r = b → runeB r = b) := Lib.hid fun _ h => h
  have yes : (97 ≤ r ∧ r ≤ 122) ∨ (65 ≤ r ∧ r ≤ 90) ∨ (48 ≤ r ∧ r ≤ 57) ∨ r = 95 → runeB r = true := fun h => by unfold runeB; simp; omega
  have no : ¬ ((97 ≤ r ∧ r ≤ 122) ∨ (65 ≤ r ∧ r ≤ 90) ∨ (48 ≤ r ∧ r ≤ 57) ∨ r = 95) → runeB r = false := fun h => by unfold runeB; simp; omega
  have YES := Lib.hid yes
  have NO := Lib.hid no
  clear yes no HD
  go_enter Tryz.func38, Tryz.ntmps38
  by_cases a1 : 97 ≤ r
  · by_cases a2 : r ≤ 122
    · rw [YES.out (by omega)]
      go_wp2
      go_ret
      exact ⟨rfl, rfl⟩
    · rw [NO.out (by omega)]
      have b1 : 65 ≤ r := by omega
      have b2 : ¬ r ≤ 90 := by omega
      have b3 : 48 ≤ r := by omega
      have b4 : ¬ r ≤ 57 := by omega
      have b5 : (r == 95) = false := by simp; omega
      go_wp2
      go_ret
      exact ⟨rfl, rfl⟩
  · by_cases a3 : 65 ≤ r
    · by_cases a4 : r ≤ 90
      · rw [YES.out (by omega)]
        go_wp2
        go_ret
        exact ⟨rfl, rfl⟩
      · have b3 : 48 ≤ r := by omega
        have b4 : ¬ r ≤ 57 := by omega
        by_cases a5 : r = 95
        · rw [YES.out (by omega)]
          go_wp2
          go_ret
          exact ⟨rfl, rfl⟩
        · rw [NO.out (by omega)]
          have b5 : (r == 95) = false := by simpa using a5
          go_wp2
          go_ret
          exact ⟨rfl, rfl⟩
    · have b5 : (r == 95) = false := by simp; omega
      by_cases a6 : 48 ≤ r
      · by_cases a7 : r ≤ 57
        · rw [YES.out (by omega)]
          go_wp2
          go_ret
          exact ⟨rfl, rfl⟩
        · rw [NO.out (by omega)]
          go_wp2
          go_ret
          exact ⟨rfl, rfl⟩
      · rw [NO.out (by omega)]
        go_wp2
        go_ret
        exact ⟨rfl, rfl⟩
theorem letter_any (b : UInt8) (w : World) : Calls Tryz.prog 38 #[.int .u8 (b.toNat : Nat)] w fun e w' => e = .returned (.bool (letB b)) ∧ w = w' := by
  have h := letter_c ((b.toNat : Nat) : Int) w
  rwa [runeB_byte] at h
end Go.Proofs.YtfgnpdfdncnbfaaGreatDoor
