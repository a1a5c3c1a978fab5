/- find, Next, Back. Next, Back. Unit; shown, cut of the laws of mend. -/
import Derived.Test.YthnfekilmiodpaaDoorBunUMap
import Derived.Test.YthnfekilmiodpaaDoorBunUSure
import Derived.Test.YthnfekilmiodpaaDoorBunPlain
import Derived.Test.YthnfekilmiodpaaDoorBunUUpToB
import Derived.Test.YthnfekilmiodpaaDoorBunUUpToE
import Derived.Test.YthnfekilmiodpaaDoorBunURepair
import Derived.Test.YthnfekilmiodpaaDoorBunUUnits
import Derived.Test.YthnfekilmiodpaaDoorBunShown
namespace Go.Proofs.YthnfekilmiodpaaDoor
open Go.RowKit

/-- What find answers. -/
def foundV (aP : Addr) (o : Option (Nat × Nat × Bool)) : Value := match o with | some x => .tuple #[unitV x.1 x.2.1 x.2.2, .nilIface] | none => .tuple #[.agg zeroU, errV aP]
theorem saysBegin (xs : List (Nat × Nat × Bool)) (p : Nat) : saysV keyBegin xs (p : Nat) = match xs.find? (fun x => x.1 == p) with | some x => unitV x.1 x.2.1 x.2.2 | none => .agg zeroU := by
  unfold saysV keyBegin
  have : (fun x : Nat × Nat × Bool => ((x.1 : Nat) : Int) == ((p : Nat) : Int)) = fun x => x.1 == p := by
    funext x
    rw [Bool.eq_iff_iff]
    simp
    omega
  rw [this]
  rfl
theorem saysEnd (xs : List (Nat × Nat × Bool)) (p : Nat) : saysV keyEnd xs (p : Nat) = match xs.find? (fun x => x.1 + x.2.1 == p) with | some x => unitV x.1 x.2.1 x.2.2 | none => .agg zeroU := by
  unfold saysV keyEnd
  have : (fun x : Nat × Nat × Bool => ((x.1 : Nat) : Int) + ((x.2.1 : Nat) : Int) == ((p : Nat) : Int)) = fun x => x.1 + x.2.1 == p := by
    funext x
    rw [Bool.eq_iff_iff]
    simp
    omega
  rw [this]
  rfl
theorem nextL_size {l : List UInt8} {p : Nat} {x : Nat × Nat × Bool} (h : nextL l p = some x) : x ∈ uevs 0 l ∧ x.1 = p := by
  refine ⟨List.mem_of_find?_eq_some h, ?_⟩
  have := List.find?_some h
  simpa using this
theorem backL_size {l : List UInt8} {p : Nat} {x : Nat × Nat × Bool} (h : backL l p = some x) : x ∈ uevs 0 l ∧ x.1 + x.2.1 = p := by
  refine ⟨List.mem_of_find?_eq_some h, ?_⟩
  have := List.find?_some h
  simpa using this

section
variable {P : Program}
theorem results_cell_tmp {fn : Func} {p q : Tmp} {ty : TypeId} (h : fn.results = #[.cell p ty, .tmp q]) (tmps : Array Value) (w : World) (g : Nat) (t : TypeId) (cs : Array Value) (fr : Nat × Nat) (d : TypeDesc) (v : Value)
    (hp : tmps.getD p undef = .pointer (some ⟨g, 0, none⟩)) (hq : tmps.getD q undef = v) (hg : w.heap[g]? = some (.cells cs t fr))
    (hu : P.underlying ty = some d) (hd : (match d with | .struct _ | .array _ _ => true | _ => false) = true) (hi : (P.info? ty).map (·.size) = some cs.size) :
    (results fn tmps).run P w = .ok (.tuple #[.agg cs, v]) w := by
  have hp' : tmps[p]?.getD undef = .pointer (some ⟨g, 0, none⟩) := by simpa using hp
  have hq' : tmps[q]?.getD undef = v := by simpa using hq
  simp [results, h, hp', hq', asAddr, run_loadVar_row w g t ty cs fr d hg hu hd hi]
end
/-- There is no byte at that place. -/
theorem find_out (s : ByteArray) (at_ place : Int) (kf : Value) (h : ¬ (0 ≤ at_ ∧ at_ < (s.size : Nat))) (w : World) (aP : Addr) (hP : Place w aP) :
    Calls Tryd.prog 23 #[.string s, .int .i64 at_, .int .i64 place, kf] w fun e w' => e = .returned (.tuple #[.agg zeroU, errV aP]) ∧ Below w.heap.size w w' := by
  have hd := decide_eq_false h
  have HD := Lib.hid hd
  have hp := hP.cell
  have hpl : 0 < w.heap.size := World.block_lt_of_cell? w _ hp
  have hp0 : 0 < w.heap.size := by omega
  clear h hd
  go_enter Tryd.func23, Tryd.ntmps23
  go_wp2_with fail
  refine wp_scope_forth 0 (by simp [findLabel]; rfl) ?_
  go_wp2_with (go_at_call 30; refine (thas_any s at_ _).mono ?_; rintro e w1 ⟨rfl, rfl⟩; rw [HD.out])
  refine wp_goto ?_
  simp only [Exit.then]
  show Exit.jump _ _ _ _ _ _
  simp only [Exit.jump, true_and]
  go_wp2
  go_region
  all_goals
    go_wp2
    rw [Exit.noGoto_ret]
    refine bodyPost_ret (v := .tuple #[.agg zeroU, errV aP]) ?_ rfl ⟨rfl, ?_⟩
    · exact results_cell_tmp rfl _ _ w.heap.size 36 zeroU (0, 0) _ _ rfl rfl ((Below.heap_alloc _ _ _ (by simp; omega)).trans ((Below.heap_alloc _ _ _ (by simp; omega)).trans ((Below.heap_alloc _ _ _ (by simp)).trans (heap_alloc_new _ _)))) Tryd.underlying36 rfl (by kernel_rfl)
    · exact ((((Below.refl _ _).alloc (Nat.le_refl _) _).alloc (by simp) _).alloc (by simp; omega) _).alloc (by simp; omega) _ |>.drew

theorem store_mender {ops : Array Oper} {rest : List Oper} {o : Oper} {a : Act} {w : World} {Q : Exit → Act → World → Prop} (hgd : o.guard = none) (x y : Operand) (ho : o.op = .store 54 x y)
    (g : Nat) (s : ByteArray) (r : Nat) (hx : a.eval x = .pointer (some ⟨g, 0, none⟩)) (hy : a.eval y = .agg (menderC s r)) (u v : Value) (hg : w.heap[g]? = some (.cells #[u, v] 54 (0, 0))) {w' : World} (hw : w.setRow g (menderC s r) = w')
    (h : wpList Tryd.prog ops Q rest (a.put o.dst undef) w') : wpList Tryd.prog ops Q (o :: rest) a w := by
  subst hw
  exact wpList_store_row hgd _ x y ho g (menderC s r) hx hy _ _ hg (by kernel_rfl) rfl (by simp [Value.oneCell']) h
theorem store_cells {ops : Array Oper} {rest : List Oper} {o : Oper} {a : Act} {w : World} {Q : Exit → Act → World → Prop} (hgd : o.guard = none) (x y : Operand) (ho : o.op = .store 36 x y)
    (g : Nat) (c d : Value) (hx : a.eval x = .pointer (some ⟨g, 0, none⟩)) (hy : a.eval y = .agg #[c, d]) (h1 : (#[c, d] : Array Value).all (·.oneCell') = true) (u v : Value) (hg : w.heap[g]? = some (.cells #[u, v] 36 (0, 0))) {w' : World} (hw : w.setRow g #[c, d] = w')
    (h : wpList Tryd.prog ops Q rest (a.put o.dst undef) w') : wpList Tryd.prog ops Q (o :: rest) a w := by
  subst hw
  exact wpList_store_row hgd _ x y ho g #[c, d] hx hy _ _ hg (by kernel_rfl) rfl h1 h

set_option maxRecDepth 100000 in
set_option maxHeartbeats 2000000 in
theorem find_yes (key : Nat × Nat × Bool → Int) (kf : Value) (s : ByteArray) (hs : s.size ≤ 50000) (p : Nat) (hp : p < s.size) (place : Int) (q n : Nat) (ok : Bool)
    (hsay : ∀ r, SureAt s.data.toList p r → saysV key (visit p (uevs r (s.data.toList.drop r))) place = unitV q n ok) (h1 : 1 ≤ n) (h4 : n ≤ 4) (w : World) (aU aS : Addr) (hG : Glob w aU aS)
    (hUp : ∀ r W, r ≤ 50000 → Glob W aU aS → Calls Tryd.prog 35 #[.agg (menderC s r), .int .i64 (p : Nat), kf] W (UpPost key (visit p (uevs r (s.data.toList.drop r))) W)) :
    Calls Tryd.prog 23 #[.string s, .int .i64 (p : Nat), .int .i64 place, kf] w fun e w' => e = .returned (.tuple #[unitV q n ok, .nilIface]) ∧ Below w.heap.size w w' := by
  have hd : decide (0 ≤ ((p : Nat) : Int) ∧ ((p : Nat) : Int) < (s.size : Nat)) = true := by simp; omega
  have HD := Lib.hid hd
  have heq := eq_some q n ok h1 h4
  have HSAY := Lib.hid hsay
  have HUP := Lib.hid hUp
  have hll : p < s.data.toList.length := by simpa using hp
  have HLL := Lib.hid hll
  have HRS : Hid (∀ r, SureAt s.data.toList p r → r ≤ 50000) := Lib.hid fun r h => by have := (sure_sync hll h).1; omega
  have a0 : Below w.heap.size w ((((w.alloc (.cells zeroU 36)).alloc (.cells #[.string ⟨#[]⟩, .int .i64 0] 54)).alloc (.cells zeroU 36)).alloc (.cells #[.string s] 38)) := ((((Below.refl _ _).alloc (Nat.le_refl _) _).alloc (by simp) _).alloc (by simp; omega) _).alloc (by simp; omega) _
  have r0 : ((((w.alloc (.cells zeroU 36)).alloc (.cells #[.string ⟨#[]⟩, .int .i64 0] 54)).alloc (.cells zeroU 36)).alloc (.cells #[.string s] 38)).heap[w.heap.size]? = some (.cells zeroU 36 (0, 0)) := (Below.heap_alloc _ _ _ (by simp; omega)).trans ((Below.heap_alloc _ _ _ (by simp; omega)).trans ((Below.heap_alloc _ _ _ (by simp)).trans (heap_alloc_new _ _)))
  have r1 : ((((w.alloc (.cells zeroU 36)).alloc (.cells #[.string ⟨#[]⟩, .int .i64 0] 54)).alloc (.cells zeroU 36)).alloc (.cells #[.string s] 38)).heap[w.heap.size + 1]? = some (.cells #[.string ⟨#[]⟩, .int .i64 0] 54 (0, 0)) := (Below.heap_alloc _ _ _ (by simp)).trans ((Below.heap_alloc _ _ _ (by simp)).trans (by have := heap_alloc_new (w.alloc (.cells zeroU 36)) (.cells #[.string ⟨#[]⟩, .int .i64 0] 54); rwa [World.size_alloc] at this))
  have r2 : ((((w.alloc (.cells zeroU 36)).alloc (.cells #[.string ⟨#[]⟩, .int .i64 0] 54)).alloc (.cells zeroU 36)).alloc (.cells #[.string s] 38)).heap[w.heap.size + 1 + 1]? = some (.cells zeroU 36 (0, 0)) := (Below.heap_alloc _ _ _ (by simp)).trans (by have := heap_alloc_new ((w.alloc (.cells zeroU 36)).alloc (.cells #[.string ⟨#[]⟩, .int .i64 0] 54)) (.cells zeroU 36); simpa only [World.size_alloc] using this)
  have A0 := Lib.hid a0
  have R0 := Lib.hid r0
  have R1 := Lib.hid r1
  have R2 := Lib.hid r2
  clear hd hsay hUp hll a0 r0 r1 r2
  go_enter Tryd.func23, Tryd.ntmps23
  go_wp2_with fail
  refine wp_scope_forth 0 (by simp [findLabel]; rfl) ?_
  go_wp2_with (go_at_call 30; refine (thas_any s _ _).mono ?_; rintro e w1 ⟨rfl, rfl⟩; rw [HD.out])
  refine (near_any s p hp hs _).mono ?_
  rintro e w2 ⟨⟨r, rfl, hr⟩, b2⟩
  have q0 := row_below R0.out b2
  have q1 := row_below R1.out b2
  have q2 := row_below R2.out b2
  have B2 := A0.out.trans (b2.mono A0.out.size)
  obtain ⟨w3, hw3⟩ : ∃ w3, w2.setRow (w.heap.size + 1) (menderC s r) = w3 := ⟨_, rfl⟩
  have p1 : w3.heap[w.heap.size + 1]? = some (.cells (menderC s r) 54 (0, 0)) := by rw [← hw3]; exact setRow_heap _ _ _ _ _ _ q1
  have p0 : w3.heap[w.heap.size]? = some (.cells zeroU 36 (0, 0)) := by rw [← hw3]; exact (setRow_other _ _ _ _ (by omega)).trans q0
  have p2 : w3.heap[w.heap.size + 1 + 1]? = some (.cells zeroU 36 (0, 0)) := by rw [← hw3]; exact (setRow_other _ _ _ _ (by omega)).trans q2
  have B3 : Below w.heap.size w w3 := by rw [← hw3]; exact below_setRow B2 (by omega) _
  obtain ⟨m0, m1⟩ := row_cells p1
  have HW3 := Lib.hid hw3
  have Q1 := Lib.hid q1
  have P0 := Lib.hid p0
  have P2 := Lib.hid p2
  clear hw3 q0 q1 q2 p0 p1 p2
  go_wp2_with (refine store_mender rfl (.tmp 10) _ rfl (w.heap.size + 1) s r rfl rfl _ _ Q1.out HW3.out ?_)
  refine (HUP.out r w3 (HRS.out r hr) (hG.below B3)).mono ?_
  rintro e w4 ⟨m, es, c, rfl, hh, hM, b4⟩
  have hlk := run_says w4 m es c hh key _ hM place
  rw [HSAY.out r hr] at hlk
  have o0 := row_below P0.out b4
  have o2 := row_below P2.out b4
  have B4 := B3.trans (b4.mono B3.size)
  obtain ⟨w5, hw5⟩ : ∃ w5, w4.setRow (w.heap.size + 1 + 1) (unitC q n ok) = w5 := ⟨_, rfl⟩
  have n2 : w5.heap[w.heap.size + 1 + 1]? = some (.cells (unitC q n ok) 36 (0, 0)) := by rw [← hw5]; exact setRow_heap _ _ _ _ _ _ o2
  have n0 : w5.heap[w.heap.size]? = some (.cells zeroU 36 (0, 0)) := by rw [← hw5]; exact (setRow_other _ _ _ _ (by omega)).trans o0
  have B5 : Below w.heap.size w w5 := by rw [← hw5]; exact below_setRow B4 (by omega) _
  obtain ⟨e0, e1⟩ := row_cells n2
  obtain ⟨w6, hw6⟩ : ∃ w6, w5.setRow w.heap.size (unitC q n ok) = w6 := ⟨_, rfl⟩
  have s0 : w6.heap[w.heap.size]? = some (.cells (unitC q n ok) 36 (0, 0)) := by rw [← hw6]; exact setRow_heap _ _ _ _ _ _ n0
  have B6 : Below w.heap.size w w6 := by rw [← hw6]; exact below_setRow B5 (Nat.le_refl _) _
  have HW5 := Lib.hid hw5
  have HW6 := Lib.hid hw6
  have O2 := Lib.hid o2
  have N0 := Lib.hid n0
  have S0 := Lib.hid s0
  clear hw5 hw6 o0 o2 n0 n2 s0 hh hM m0 m1
  go_wp2_with (first | (refine store_cells rfl (.tmp 11) _ rfl (w.heap.size + 1 + 1) _ _ rfl rfl (by simp [Value.oneCell']) _ _ O2.out HW5.out ?_) | (refine store_cells rfl (.tmp 8) _ rfl w.heap.size _ _ rfl rfl (by simp [Value.oneCell']) _ _ N0.out HW6.out ?_))
  show Exit.jump _ _ _ _ _ _
  simp only [Exit.jump]
  refine bodyPost_ret (v := .tuple #[unitV q n ok, .nilIface]) ?_ rfl ⟨rfl, B6⟩
  exact results_cell_tmp rfl _ _ w.heap.size 36 (unitC q n ok) (0, 0) _ _ rfl rfl S0.out Tryd.underlying36 rfl (by kernel_rfl)
set_option maxRecDepth 100000 in
set_option maxHeartbeats 2000000 in
theorem find_no (key : Nat × Nat × Bool → Int) (kf : Value) (s : ByteArray) (hs : s.size ≤ 50000) (p : Nat) (hp : p < s.size) (place : Int)
    (hsay : ∀ r, SureAt s.data.toList p r → saysV key (visit p (uevs r (s.data.toList.drop r))) place = .agg zeroU) (w : World) (aU aS : Addr) (hG : Glob w aU aS) (aP : Addr) (hP : Place w aP)
    (hUp : ∀ r W, r ≤ 50000 → Glob W aU aS → Calls Tryd.prog 35 #[.agg (menderC s r), .int .i64 (p : Nat), kf] W (UpPost key (visit p (uevs r (s.data.toList.drop r))) W)) :
    Calls Tryd.prog 23 #[.string s, .int .i64 (p : Nat), .int .i64 place, kf] w fun e w' => e = .returned (.tuple #[.agg zeroU, errV aP]) ∧ Below w.heap.size w w' := by
  have hd : decide (0 ≤ ((p : Nat) : Int) ∧ ((p : Nat) : Int) < (s.size : Nat)) = true := by simp; omega
  have HD := Lib.hid hd
  have heq := eq_none
  have HSAY := Lib.hid hsay
  have HUP := Lib.hid hUp
  have hll : p < s.data.toList.length := by simpa using hp
  have HLL := Lib.hid hll
  have HRS : Hid (∀ r, SureAt s.data.toList p r → r ≤ 50000) := Lib.hid fun r h => by have := (sure_sync hll h).1; omega
  have a0 : Below w.heap.size w ((((w.alloc (.cells zeroU 36)).alloc (.cells #[.string ⟨#[]⟩, .int .i64 0] 54)).alloc (.cells zeroU 36)).alloc (.cells #[.string s] 38)) := ((((Below.refl _ _).alloc (Nat.le_refl _) _).alloc (by simp) _).alloc (by simp; omega) _).alloc (by simp; omega) _
  have r0 : ((((w.alloc (.cells zeroU 36)).alloc (.cells #[.string ⟨#[]⟩, .int .i64 0] 54)).alloc (.cells zeroU 36)).alloc (.cells #[.string s] 38)).heap[w.heap.size]? = some (.cells zeroU 36 (0, 0)) := (Below.heap_alloc _ _ _ (by simp; omega)).trans ((Below.heap_alloc _ _ _ (by simp; omega)).trans ((Below.heap_alloc _ _ _ (by simp)).trans (heap_alloc_new _ _)))
  have r1 : ((((w.alloc (.cells zeroU 36)).alloc (.cells #[.string ⟨#[]⟩, .int .i64 0] 54)).alloc (.cells zeroU 36)).alloc (.cells #[.string s] 38)).heap[w.heap.size + 1]? = some (.cells #[.string ⟨#[]⟩, .int .i64 0] 54 (0, 0)) := (Below.heap_alloc _ _ _ (by simp)).trans ((Below.heap_alloc _ _ _ (by simp)).trans (by have := heap_alloc_new (w.alloc (.cells zeroU 36)) (.cells #[.string ⟨#[]⟩, .int .i64 0] 54); rwa [World.size_alloc] at this))
  have r2 : ((((w.alloc (.cells zeroU 36)).alloc (.cells #[.string ⟨#[]⟩, .int .i64 0] 54)).alloc (.cells zeroU 36)).alloc (.cells #[.string s] 38)).heap[w.heap.size + 1 + 1]? = some (.cells zeroU 36 (0, 0)) := (Below.heap_alloc _ _ _ (by simp)).trans (by have := heap_alloc_new ((w.alloc (.cells zeroU 36)).alloc (.cells #[.string ⟨#[]⟩, .int .i64 0] 54)) (.cells zeroU 36); simpa only [World.size_alloc] using this)
  have A0 := Lib.hid a0
  have R0 := Lib.hid r0
  have R1 := Lib.hid r1
  have R2 := Lib.hid r2
  clear hd hsay hUp hll a0 r0 r1 r2
  go_enter Tryd.func23, Tryd.ntmps23
  go_wp2_with fail
  refine wp_scope_forth 0 (by simp [findLabel]; rfl) ?_
  go_wp2_with (go_at_call 30; refine (thas_any s _ _).mono ?_; rintro e w1 ⟨rfl, rfl⟩; rw [HD.out])
  refine (near_any s p hp hs _).mono ?_
  rintro e w2 ⟨⟨r, rfl, hr⟩, b2⟩
  have q0 := row_below R0.out b2
  have q1 := row_below R1.out b2
  have q2 := row_below R2.out b2
  have B2 := A0.out.trans (b2.mono A0.out.size)
  obtain ⟨w3, hw3⟩ : ∃ w3, w2.setRow (w.heap.size + 1) (menderC s r) = w3 := ⟨_, rfl⟩
  have p1 : w3.heap[w.heap.size + 1]? = some (.cells (menderC s r) 54 (0, 0)) := by rw [← hw3]; exact setRow_heap _ _ _ _ _ _ q1
  have p0 : w3.heap[w.heap.size]? = some (.cells zeroU 36 (0, 0)) := by rw [← hw3]; exact (setRow_other _ _ _ _ (by omega)).trans q0
  have p2 : w3.heap[w.heap.size + 1 + 1]? = some (.cells zeroU 36 (0, 0)) := by rw [← hw3]; exact (setRow_other _ _ _ _ (by omega)).trans q2
  have B3 : Below w.heap.size w w3 := by rw [← hw3]; exact below_setRow B2 (by omega) _
  obtain ⟨m0, m1⟩ := row_cells p1
  have HW3 := Lib.hid hw3
  have Q1 := Lib.hid q1
  have P0 := Lib.hid p0
  have P2 := Lib.hid p2
  clear hw3 q0 q1 q2 p0 p1 p2
  go_wp2_with (refine store_mender rfl (.tmp 10) _ rfl (w.heap.size + 1) s r rfl rfl _ _ Q1.out HW3.out ?_)
  refine (HUP.out r w3 (HRS.out r hr) (hG.below B3)).mono ?_
  rintro e w4 ⟨m, es, c, rfl, hh, hM, b4⟩
  have hlk := run_says w4 m es c hh key _ hM place
  rw [HSAY.out r hr] at hlk
  have o0 := row_below P0.out b4
  have o2 := row_below P2.out b4
  have B4 := B3.trans (b4.mono B3.size)
  obtain ⟨w5, hw5⟩ : ∃ w5, w4.setRow (w.heap.size + 1 + 1) zeroU = w5 := ⟨_, rfl⟩
  have n2 : w5.heap[w.heap.size + 1 + 1]? = some (.cells zeroU 36 (0, 0)) := by rw [← hw5]; exact setRow_heap _ _ _ _ _ _ o2
  have n0 : w5.heap[w.heap.size]? = some (.cells zeroU 36 (0, 0)) := by rw [← hw5]; exact (setRow_other _ _ _ _ (by omega)).trans o0
  have B5 : Below w.heap.size w w5 := by rw [← hw5]; exact below_setRow B4 (by omega) _
  obtain ⟨e0, e1⟩ := row_cells n2
  obtain ⟨f0, f1⟩ := row_cells n0
  have g0 := frozen_of_row w5 w.heap.size 0 _ _ n0
  have g1 := frozen_of_row w5 w.heap.size 1 _ _ n0
  have hp5 := (hP.below B5).cell
  have hpl : 0 < w5.heap.size := World.block_lt_of_cell? w5 _ hp5
  have hpw : 0 < w.heap.size := World.block_lt_of_cell? w _ hP.cell
  have hne1 : ¬ w.heap.size = 0 := by omega
  have hne2 : ¬ 0 = w.heap.size := by omega
  have HW5 := Lib.hid hw5
  have O2 := Lib.hid o2
  have N0 := Lib.hid n0
  clear hw5 o0 o2 n0 n2 hh hM m0 m1
  go_wp2_with (refine store_cells rfl (.tmp 11) _ rfl (w.heap.size + 1 + 1) _ _ rfl rfl (by simp [Value.oneCell']) _ _ O2.out HW5.out ?_)
  refine wp_goto ?_
  simp only [Exit.then]
  show Exit.jump _ _ _ _ _ _
  simp only [Exit.jump, true_and]
  go_wp2
  go_region
  all_goals
    go_wp2
    rw [Exit.noGoto_ret]
    have h1 := heap_setCell_same w5 w.heap.size 0 _ _ (.complex .f64 0 0) N0.out
    have h2 := heap_setCell_same _ w.heap.size 1 _ _ (.bool false) h1
    refine bodyPost_ret (v := .tuple #[.agg zeroU, errV aP]) ?_ rfl ⟨rfl, ((B5.setCell (p := ⟨w.heap.size, 0, none⟩) (Nat.le_refl _) _).setCell (p := ⟨w.heap.size, 1, none⟩) (Nat.le_refl _) _).drew⟩
    exact results_cell_tmp rfl _ _ w.heap.size 36 zeroU (0, 0) _ _ rfl rfl h2 Tryd.underlying36 rfl (by kernel_rfl)
end Go.Proofs.YthnfekilmiodpaaDoor

namespace Go.Proofs.YthnfekilmiodpaaDoor
open Go.RowKit

theorem nextL_out {l : List UInt8} {p : Nat} (h : l.length ≤ p) : nextL l p = none := by
  unfold nextL
  exact find_none_of fun x hx => by have := uevs_mem 0 l x hx; simp only [beq_eq_false_iff_ne]; omega
theorem backL_out {l : List UInt8} {p : Nat} (h : p = 0 ∨ l.length < p) : backL l p = none := by
  unfold backL
  exact find_none_of fun x hx => by have := uevs_mem 0 l x hx; simp only [beq_eq_false_iff_ne]; omega
/-- The unit that begins at a place, or ends there, whatever number it is. -/
def nextO (l : List UInt8) (at_ : Int) : Option (Nat × Nat × Bool) := if 0 ≤ at_ then nextL l at_.toNat else none
def backO (l : List UInt8) (at_ : Int) : Option (Nat × Nat × Bool) := if 0 ≤ at_ then backL l at_.toNat else none
def nextAns (o : Option (Nat × Nat × Bool)) : Value := match o with | some x => .tuple #[.int .i64 ((x.1 : Nat) + (x.2.1 : Nat)), .int .i64 0] | none => .tuple #[.int .i64 0, .int .i64 12]
def backAns (o : Option (Nat × Nat × Bool)) : Value := match o with | some x => .tuple #[.int .i64 (x.1 : Nat), .int .i64 0] | none => .tuple #[.int .i64 0, .int .i64 12]

theorem find_begin (s : ByteArray) (hs : s.size ≤ 50000) (at_ : Int) (w : World) (aU aS aP : Addr) (hG : Glob w aU aS) (hP : Place w aP) :
    Calls Tryd.prog 23 #[.string s, .int .i64 at_, .int .i64 at_, .func (.func 24) #[] #[]] w fun e w' => e = .returned (foundV aP (nextO s.data.toList at_)) ∧ Below w.heap.size w w' := by
  have hll : s.data.toList.length = s.size := by simp
  by_cases h : 0 ≤ at_ ∧ at_ < (s.size : Nat)
  · obtain ⟨p, rfl⟩ := Int.eq_ofNat_of_zero_le h.1
    have hp : p < s.size := by omega
    have ho : nextO s.data.toList (p : Nat) = nextL s.data.toList p := by unfold nextO; rw [if_pos (by omega)]; rfl
    have hUp := fun (r : Nat) (W : World) (hr : r ≤ 50000) (hW : Glob W aU aS) => upTo_begin s hs r p hr W aU aS hW
    rw [ho]
    cases hn : nextL s.data.toList p with
    | some x =>
      obtain ⟨q, n, ok⟩ := x
      have hm := uevs_mem 0 s.data.toList _ (nextL_size hn).1
      exact find_yes keyBegin _ s hs p hp _ q n ok (fun r hr => by rw [saysBegin, next_visit (by omega) hr, hn]) hm.2.2.1 hm.2.2.2 w aU aS hG hUp
    | none => exact find_no keyBegin _ s hs p hp _ (fun r hr => by rw [saysBegin, next_visit (by omega) hr, hn]) w aU aS hG aP hP hUp
  · have ho : nextO s.data.toList at_ = none := by
      unfold nextO
      split
      · exact nextL_out (by omega)
      · rfl
    rw [ho]
    exact find_out s at_ at_ _ h w aP hP
theorem find_end (s : ByteArray) (hs : s.size ≤ 50000) (at_ : Int) (hat : In64 at_) (w : World) (aU aS aP : Addr) (hG : Glob w aU aS) (hP : Place w aP) :
    Calls Tryd.prog 23 #[.string s, .int .i64 (IntKind.i64.wrap (at_ - 1)), .int .i64 at_, .func (.func 25) #[] #[]] w fun e w' => e = .returned (foundV aP (backO s.data.toList at_)) ∧ Below w.heap.size w w' := by
  have hll : s.data.toList.length = s.size := by simp
  have hw : IntKind.i64.wrap (at_ - 1) = at_ - 1 ∨ (IntKind.i64.wrap (at_ - 1) = 2 ^ 63 - 1 ∧ at_ < 0) := by
    rw [IntKind.wrap_i64]
    have h1 := hat.1
    have h2 := hat.2
    omega
  by_cases h : 0 ≤ IntKind.i64.wrap (at_ - 1) ∧ IntKind.i64.wrap (at_ - 1) < (s.size : Nat)
  · have hw1 : IntKind.i64.wrap (at_ - 1) = at_ - 1 := by
      rcases hw with hw | ⟨hw, _⟩
      · exact hw
      · rw [hw] at h; omega
    rw [hw1] at h ⊢
    obtain ⟨p, hp0⟩ := Int.eq_ofNat_of_zero_le h.1
    obtain rfl : at_ = ((p + 1 : Nat) : Int) := by omega
    have hp : p < s.size := by omega
    have hpp : (((p + 1 : Nat) : Int) - 1) = (p : Nat) := by omega
    rw [hpp]
    have ho : backO s.data.toList ((p + 1 : Nat) : Int) = backL s.data.toList (p + 1) := by unfold backO; rw [if_pos (by omega)]; rfl
    have hUp := fun (r : Nat) (W : World) (hr : r ≤ 50000) (hW : Glob W aU aS) => upTo_end s hs r p hr W aU aS hW
    rw [ho]
    cases hn : backL s.data.toList (p + 1) with
    | some x =>
      obtain ⟨q, n, ok⟩ := x
      have hm := uevs_mem 0 s.data.toList _ (backL_size hn).1
      exact find_yes keyEnd _ s hs p hp _ q n ok (fun r hr => by rw [saysEnd, back_visit (by omega) hr, hn]) hm.2.2.1 hm.2.2.2 w aU aS hG hUp
    | none => exact find_no keyEnd _ s hs p hp _ (fun r hr => by rw [saysEnd, back_visit (by omega) hr, hn]) w aU aS hG aP hP hUp
  · have ho : backO s.data.toList at_ = none := by
      unfold backO
      split
      · rename_i h0
        refine backL_out ?_
        rcases hw with hw | ⟨_, hw⟩
        · rw [hw] at h; omega
        · omega
      · rfl
    rw [ho]
    exact find_out s _ at_ _ h w aP hP

theorem zero_v : unitV 0 0 false = .agg zeroU := by
  show Value.agg #[.complex .f64 (flN 0) (flN 0), .bool false] = _
  rw [zero_unit]
theorem end_zero (w : World) : Calls Tryd.prog 25 #[.agg #[.complex .f64 0 0, .bool false]] w fun e w' => e = .returned (.int .i64 0) ∧ Below w.heap.size w w' := by
  have h := end_any 0 0 false (by omega) (by omega) w
  rw [zero_v] at h
  exact h
theorem begin_zero (w : World) : Calls Tryd.prog 24 #[.agg #[.complex .f64 0 0, .bool false]] w fun e w' => e = .returned (.int .i64 0) ∧ Below w.heap.size w w' := by
  have h := begin_any 0 0 false (by omega) w
  rw [zero_v] at h
  exact h.mono fun e w' ⟨h1, h2⟩ => ⟨h1, by rw [← h2]; exact (Below.refl _ _).alloc (Nat.le_refl _) _⟩
theorem begin_below (p n : Nat) (ok : Bool) (hp : p < 2 ^ 53) (w : World) : Calls Tryd.prog 24 #[unitV p n ok] w fun e w' => e = .returned (.int .i64 (p : Nat)) ∧ Below w.heap.size w w' :=
  (begin_any p n ok hp w).mono fun e w' ⟨h1, h2⟩ => ⟨h1, by rw [← h2]; exact (Below.refl _ _).alloc (Nat.le_refl _) _⟩

set_option maxHeartbeats 400000 in
theorem next_f_any (s : ByteArray) (hs : s.size ≤ 50000) (at_ : Int) (w : World) (aU aS aP : Addr) (hG : Glob w aU aS) (hP : Place w aP) :
    Calls Tryd.prog 8 #[.string s, .int .i64 at_] w fun e w' => e = .returned (nextAns (nextO s.data.toList at_)) ∧ Below w.heap.size w w' := by
  have hll : s.data.toList.length = s.size := by simp
  cases hn : nextO s.data.toList at_ with
  | none =>
    have HN := Lib.hid hn
    clear hn hll
    go_enter Tryd.func8, Tryd.ntmps8
    go_wp2_with fail
    refine (find_begin s hs at_ w aU aS aP hG hP).mono ?_
    rintro e w1 ⟨rfl, b1⟩
    rw [HN.out, show foundV aP none = .tuple #[.agg zeroU, errV aP] from rfl]
    have a1 : Below w1.heap.size w1 (w1.alloc (.cells zeroU 36)) := (Below.refl _ _).alloc (Nat.le_refl _) _
    have p1 := (hP.below b1).below a1
    go_wp2_with fail
    refine (end_zero _).mono ?_
    rintro e w2 ⟨rfl, b2⟩
    go_wp2_with fail
    refine (mnumber_place (p1.below b2)).mono ?_
    rintro e w3 ⟨rfl, rfl⟩
    go_wp2
    go_ret2
    exact ⟨rfl, b1.trans ((a1.trans (b2.mono a1.size)).mono b1.size)⟩
  | some x =>
    obtain ⟨q, n, ok⟩ := x
    have hm : q < 2 ^ 52 ∧ n < 2 ^ 52 := by
      unfold nextO at hn
      split at hn
      · have := uevs_mem 0 s.data.toList _ (nextL_size hn).1
        simp only at this
        omega
      · cases hn
    have HN := Lib.hid hn
    obtain ⟨hq, hn4⟩ := hm
    clear hn hll
    go_enter Tryd.func8, Tryd.ntmps8
    go_wp2_with fail
    refine (find_begin s hs at_ w aU aS aP hG hP).mono ?_
    rintro e w1 ⟨rfl, b1⟩
    rw [HN.out, show foundV aP (some (q, n, ok)) = .tuple #[unitV q n ok, .nilIface] from rfl]
    have a1 : Below w1.heap.size w1 (w1.alloc (.cells (unitC q n ok) 36)) := (Below.refl _ _).alloc (Nat.le_refl _) _
    have p1 := (hP.below b1).below a1
    go_wp2_with fail
    refine (end_any q n ok hq hn4 _).mono ?_
    rintro e w2 ⟨rfl, b2⟩
    go_wp2_with fail
    refine (mnumber_nil (p1.below b2)).mono ?_
    rintro e w3 ⟨rfl, rfl⟩
    go_wp2
    go_ret2
    exact ⟨rfl, b1.trans ((a1.trans (b2.mono a1.size)).mono b1.size)⟩
set_option maxHeartbeats 400000 in
theorem back_f_any (s : ByteArray) (hs : s.size ≤ 50000) (at_ : Int) (hat : In64 at_) (w : World) (aU aS aP : Addr) (hG : Glob w aU aS) (hP : Place w aP) :
    Calls Tryd.prog 10 #[.string s, .int .i64 at_] w fun e w' => e = .returned (backAns (backO s.data.toList at_)) ∧ Below w.heap.size w w' := by
  have hll : s.data.toList.length = s.size := by simp
  have HAT := Lib.hid hat
  obtain ⟨aw, haw⟩ : ∃ aw, IntKind.i64.wrap (at_ - 1) = aw := ⟨_, rfl⟩
  have HF := Lib.hid (fun W (h1 : Glob W aU aS) (h2 : Place W aP) => find_end s hs at_ hat W aU aS aP h1 h2)
  rw [haw] at HF
  cases hn : backO s.data.toList at_ with
  | none =>
    have HN := Lib.hid hn
    clear hn hll hat
    go_enter Tryd.func10, Tryd.ntmps10
    go_wp2_with fail
    refine (HF.out w hG hP).mono ?_
    rintro e w1 ⟨rfl, b1⟩
    rw [HN.out, show foundV aP none = .tuple #[.agg zeroU, errV aP] from rfl]
    have a1 : Below w1.heap.size w1 (w1.alloc (.cells zeroU 36)) := (Below.refl _ _).alloc (Nat.le_refl _) _
    have p1 := (hP.below b1).below a1
    go_wp2_with fail
    refine (begin_zero _).mono ?_
    rintro e w2 ⟨rfl, b2⟩
    go_wp2_with fail
    refine (mnumber_place (p1.below b2)).mono ?_
    rintro e w3 ⟨rfl, rfl⟩
    go_wp2
    go_ret2
    exact ⟨rfl, b1.trans ((a1.trans (b2.mono a1.size)).mono b1.size)⟩
  | some x =>
    obtain ⟨q, n, ok⟩ := x
    have hm : q < 2 ^ 53 := by
      unfold backO at hn
      split at hn
      · have := uevs_mem 0 s.data.toList _ (backL_size hn).1
        simp only at this
        omega
      · cases hn
    have HN := Lib.hid hn
    clear hn hll hat
    go_enter Tryd.func10, Tryd.ntmps10
    go_wp2_with fail
    refine (HF.out w hG hP).mono ?_
    rintro e w1 ⟨rfl, b1⟩
    rw [HN.out, show foundV aP (some (q, n, ok)) = .tuple #[unitV q n ok, .nilIface] from rfl]
    have a1 : Below w1.heap.size w1 (w1.alloc (.cells (unitC q n ok) 36)) := (Below.refl _ _).alloc (Nat.le_refl _) _
    have p1 := (hP.below b1).below a1
    go_wp2_with fail
    refine (begin_below q n ok hm _).mono ?_
    rintro e w2 ⟨rfl, b2⟩
    go_wp2_with fail
    refine (mnumber_nil (p1.below b2)).mono ?_
    rintro e w3 ⟨rfl, rfl⟩
    go_wp2
    go_ret2
    exact ⟨rfl, b1.trans ((a1.trans (b2.mono a1.size)).mono b1.size)⟩
end Go.Proofs.YthnfekilmiodpaaDoor

namespace Go.Proofs.YthnfekilmiodpaaDoor
open Go.RowKit

def unitAns (l : List UInt8) : Value := if l = [] then .tuple #[.int .i64 0, .bool false] else .tuple #[.int .i64 ((unitL l).1 : Nat), .bool (unitL l).2]
set_option maxHeartbeats 400000 in
theorem unit_f_any (s : ByteArray) (hs : s.size ≤ 80000) (w : World) (aU aS : Addr) (hG : Glob w aU aS) :
    Calls Tryd.prog 6 #[.string s] w fun e w' => e = .returned (unitAns s.data.toList) ∧ Below w.heap.size w w' := by
  by_cases h0 : s.data.toList = []
  · have hz : s.size = 0 := by have : s.data.toList.length = s.size := Array.length_toList; rw [h0] at this; simpa using this.symm
    have HA : Hid (unitAns s.data.toList = .tuple #[.int .i64 0, .bool false]) := Lib.hid (by unfold unitAns; rw [if_pos h0])
    have HU := Lib.hid (fun W => unit_none s 0 (by rw [hz]; omega) W)
    have hcv : ∀ W : World, (convert 61 3 (.float .f64 0)).run Tryd.prog W = .ok (.int .i64 0) W := by
      intro W
      have := conv_back (n := 0) (by omega) W
      rw [zero_unit] at this
      exact this
    have hz0 : ∀ W, Calls Tryd.prog 20 #[.agg #[.complex .f64 0 0, .bool false]] W fun e w' => e = .returned (.int .i64 0) ∧ W.alloc (.cells zeroU 36) = w' := by
      intro W
      have := size_any 0 0 false (by omega) W
      rw [zero_v] at this
      rw [show unitC 0 0 false = zeroU from by show #[Value.complex .f64 (flN 0) (flN 0), .bool false] = _; rw [zero_unit]] at this
      exact this
    have HZ := Lib.hid hz0
    clear h0 hz hz0
    rw [HA.out]
    go_enter Tryd.func6, Tryd.ntmps6
    go_wp2_with fail
    refine (HU.out w).mono ?_
    rintro e w1 ⟨rfl, b1⟩
    have z1 := b1.size
    go_wp2_with fail
    go_region_with (go_at_call 20; refine Calls.mono (HZ.out _) ?_; rintro e w2 ⟨rfl, rfl⟩)
    all_goals
      go_wp2
      go_ret2
      exact ⟨rfl, ((b1.alloc z1 _).alloc (by simp; omega) _).drew⟩
  · obtain ⟨n, ok, hu⟩ : ∃ n ok, unitL s.data.toList = (n, ok) := ⟨_, _, rfl⟩
    have hle := unitL_le _ h0
    rw [hu] at hle
    have hn : n < 2 ^ 53 := by have := hle.2.1; simp only at this; omega
    have hp : 0 < s.size := by
      have h1 : s.data.toList.length = s.size := Array.length_toList
      have := List.length_pos_iff.2 h0
      omega
    have HA : Hid (unitAns s.data.toList = .tuple #[.int .i64 (n : Nat), .bool ok]) := Lib.hid (by unfold unitAns; rw [if_neg h0, hu])
    have HU := Lib.hid (fun W (hW : Glob W aU aS) => unit_some s hs 0 hp (n := n) (ok := ok) (by simpa using hu) W aU aS hW)
    clear h0 hu hle
    rw [HA.out]
    go_enter Tryd.func6, Tryd.ntmps6
    go_wp2_with fail
    refine (HU.out w hG).mono ?_
    rintro e w1 ⟨rfl, b1⟩
    have z1 := b1.size
    go_wp2_with fail
    go_region_with (go_at_call 20; refine Calls.mono (size_any _ n ok hn _) ?_; rintro e w2 ⟨rfl, rfl⟩)
    all_goals
      go_wp2
      go_ret2
      exact ⟨rfl, ((b1.alloc z1 _).alloc (by simp; omega) _).drew⟩

theorem u0 : unitL [0xe2, 0x82, 0x61] = (2, false) := by kernel_rfl
theorem u1 : unitL [0x61, 0xe2, 0x82, 0x61] = (1, true) := by kernel_rfl
theorem u2 : unitL [0x61] = (1, true) := by kernel_rfl
theorem u3 : unitL [0xed, 0xa0, 0x80] = (1, false) := by kernel_rfl
theorem u4 : unitL [0xa0, 0x80] = (1, false) := by kernel_rfl
theorem u5 : unitL [0x80] = (1, false) := by kernel_rfl
theorem uevs_a : uevs 0 [0x61, 0xe2, 0x82, 0x61] = [(0, 1, true), (1, 2, false), (3, 1, true)] := by
  rw [uevs_cons 0 (by simp), u1]
  show (0, 1, true) :: uevs 1 [0xe2, 0x82, 0x61] = _
  rw [uevs_cons 1 (by simp), u0]
  show (0, 1, true) :: (1, 2, false) :: uevs 3 [0x61] = _
  rw [uevs_cons 3 (by simp), u2]
  show (0, 1, true) :: (1, 2, false) :: (3, 1, true) :: uevs 4 [] = _
  rw [uevs_nil]
theorem uevs_e : uevs 0 [0xed, 0xa0, 0x80] = [(0, 1, false), (1, 1, false), (2, 1, false)] := by
  rw [uevs_cons 0 (by simp), u3]
  show (0, 1, false) :: uevs 1 [0xa0, 0x80] = _
  rw [uevs_cons 1 (by simp), u4]
  show (0, 1, false) :: (1, 1, false) :: uevs 2 [0x80] = _
  rw [uevs_cons 2 (by simp), u5]
  show (0, 1, false) :: (1, 1, false) :: (2, 1, false) :: uevs 3 [] = _
  rw [uevs_nil]
theorem s_unit : unitAns [0xe2, 0x82, 0x61] = .tuple #[.int .i64 2, .bool false] := by unfold unitAns; rw [if_neg (by simp), u0]; rfl
theorem s_next1 : nextAns (nextO [0x61, 0xe2, 0x82, 0x61] 1) = .tuple #[.int .i64 3, .int .i64 0] := by
  unfold nextO nextL
  rw [uevs_a]
  rfl
theorem s_next2 : nextAns (nextO [0x61, 0xe2, 0x82, 0x61] 2) = .tuple #[.int .i64 0, .int .i64 12] := by
  unfold nextO nextL
  rw [uevs_a]
  rfl
theorem s_back : backAns (backO [0x61, 0xe2, 0x82, 0x61] 3) = .tuple #[.int .i64 1, .int .i64 0] := by
  unfold backO backL
  rw [uevs_a]
  rfl
theorem s_rep : repL [0x61, 0xe2, 0x82, 0x61] = [0x61, 0xef, 0xbf, 0xbd, 0x61] := by
  unfold repL
  rw [uevs_a]
  rfl
theorem s_bad : badsL [0xed, 0xa0, 0x80] = 3 := by
  unfold badsL
  rw [uevs_e]
  rfl

set_option maxRecDepth 100000 in
set_option maxHeartbeats 1000000 in
theorem shown2_any (w : World) (aU aS aP : Addr) (hG : Glob w aU aS) (hP : Place w aP) :
    Calls Tryd.prog 4 #[] w fun e w' => e = .returned (.bool true) ∧ Below w.heap.size w w' := by
  go_enter Tryd.func4, Tryd.ntmps4
  go_wp2_with fail
  refine (unit_f_any _ (by decide) w aU aS hG).mono ?_
  rintro e w1 ⟨rfl, b1⟩
  have g1 := hG.below b1
  have p1 := hP.below b1
  rw [show unitAns _ = _ from s_unit]
  go_wp2_with fail
  refine (next_f_any _ (by decide) 1 w1 aU aS aP g1 p1).mono ?_
  rintro e w2 ⟨rfl, c2⟩
  have b2 := b1.trans (c2.mono b1.size)
  have g2 := hG.below b2
  have p2 := hP.below b2
  rw [show nextAns _ = _ from s_next1]
  go_wp2_with fail
  refine (back_f_any _ (by decide) 3 (in64_of (by decide)) w2 aU aS aP g2 p2).mono ?_
  rintro e w3 ⟨rfl, c3⟩
  have b3 := b2.trans (c3.mono b2.size)
  have g3 := hG.below b3
  have p3 := hP.below b3
  rw [show backAns _ = _ from s_back]
  go_wp2_with fail
  refine (next_f_any _ (by decide) 2 w3 aU aS aP g3 p3).mono ?_
  rintro e w4 ⟨rfl, c4⟩
  have b4 := b3.trans (c4.mono b3.size)
  have g4 := hG.below b4
  rw [show nextAns _ = _ from s_next2]
  go_wp2_with fail
  refine (repair_any _ (by decide) w4 aU aS g4).mono ?_
  rintro e w5 ⟨rfl, c5⟩
  have b5 := b4.trans (c5.mono b4.size)
  have g5 := hG.below b5
  rw [show repL _ = _ from s_rep]
  go_wp2_with fail
  refine (bad_any _ (by decide) w5 aU aS g5).mono ?_
  rintro e w6 ⟨rfl, c6⟩
  have b6 := b5.trans (c6.mono b5.size)
  rw [show badsL _ = _ from s_bad]
  go_wp2
  go_ret
  exact ⟨rfl, b6⟩

set_option maxHeartbeats 400000 in
theorem cut2_any (s : ByteArray) (w : World) :
    Calls Tryd.prog 5 #[.string s] w fun e w' => e = .returned (.string (cutS s)) ∧ w = w' := by
  unfold cutS
  by_cases h : 300 < s.size
  · rw [if_pos h]
    go_enter Tryd.func5, Tryd.ntmps5
    go_wp2
    go_ret
    exact ⟨rfl, rfl⟩
  · rw [if_neg h]
    have h2 : s.extract 0 s.size = s := by simp
    go_enter Tryd.func5, Tryd.ntmps5
    go_wp2
    go_ret
    exact ⟨rfl, rfl⟩
end Go.Proofs.YthnfekilmiodpaaDoor

