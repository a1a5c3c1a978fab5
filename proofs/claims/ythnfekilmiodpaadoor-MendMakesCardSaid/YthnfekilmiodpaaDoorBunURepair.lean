/- mended; Repair. -/
import Derived.Test.YthnfekilmiodpaaDoorBunUSeq
import Derived.Test.YthnfekilmiodpaaDoorBunShown
import Derived.Test.YthnfekilmiodpaaDoorBunScalars
import Derived.Lib.BufStepsIn
import Derived.Lib.AppendStr
namespace Go.Proofs.YthnfekilmiodpaaDoor
open Go.RowKit Go.Shelf
attribute [local go_sem] Oper.semAt_some

theorem mended_v : encV 65533 = .tuple #[.string ⟨#[239, 191, 189]⟩, .int .i64 0] := by kernel_rfl
theorem mended_any (w : World) (aU aS : Addr) (hG : Glob w aU aS) :
    Calls Tryd.prog 29 #[] w fun e w' => e = .returned (.string ⟨#[239, 191, 189]⟩) ∧ Below w.heap.size w w' := by
  go_enter Tryd.func29, Tryd.ntmps29
  go_wp2_with fail
  refine (encode_any 65533 (in64_of (by decide)) w aU aS hG).mono ?_
  rintro e w1 ⟨rfl, b1⟩
  rw [mended_v]
  go_wp2
  go_ret
  exact ⟨rfl, b1⟩

def repOf (L : List UInt8) (pre : List (Nat × Nat × Bool)) : List UInt8 := pre.flatMap (pieceL L)
def byteCells (l : List UInt8) : List Value := l.map fun b => .int .u8 (b.toNat : Nat)

theorem repOf_snoc (L : List UInt8) (pre : List (Nat × Nat × Bool)) (x : Nat × Nat × Bool) : repOf L (pre ++ [x]) = repOf L pre ++ pieceL L x := by
  simp [repOf]
theorem pieceL_le (L : List UInt8) (x : Nat × Nat × Bool) (h : x.2.1 ≤ 4) : (pieceL L x).length ≤ 4 := by
  unfold pieceL
  split
  · rw [List.length_take]; omega
  · exact (by decide : bad3.length ≤ 4)
theorem repOf_le (L : List UInt8) : ∀ (pre : List (Nat × Nat × Bool)), (∀ x ∈ pre, x.2.1 ≤ 4) → (repOf L pre).length ≤ 4 * pre.length
  | [], _ => by simp [repOf]
  | x :: pre, h => by
    have h1 := repOf_le L pre fun y hy => h y (List.mem_cons_of_mem _ hy)
    have h2 := pieceL_le L x (h x List.mem_cons_self)
    unfold repOf at *
    rw [List.flatMap_cons, List.length_append, List.length_cons]
    omega
theorem boxed_unique {W : World} {B : Nat} {t u : TypeId} {v v' : Value} (h : Boxed W B t v) (h' : Boxed W B u v') : v = v' := by
  have e := h.symm.trans h'
  cases e
  rfl
theorem own_form {w : World} {base : Nat} {e : TypeId} {size : Nat} {v : Value} {n : Nat} {xs : List Value} (h : w.ownsRow base e size v n xs) : ∃ o cap, v = .slice o n cap := by
  rcases h.2 with ⟨rfl, hn⟩ | ⟨g, cap, cur, rfl, _⟩
  · exact ⟨none, 0, by rw [hn]⟩
  · exact ⟨_, _, rfl⟩
theorem appended_plain {W w1 : World} {n0 B : Nat} {t e : TypeId} {size : Nat} {v v' : Value} {k m : Nat} {xs ys : List Value} (hl : Boxed W B t v) (hte : t ≠ e) (ho : W.ownsRow n0 e size v k xs) (hown' : w1.ownsRow n0 e size v' m ys)
    (hgrow : W.grownBy w1 v.ownBlock) : Boxed w1 B t v ∧ Boxed (w1.setCell ⟨B, 0, none⟩ v') B t v' ∧ (w1.setCell ⟨B, 0, none⟩ v').ownsRow n0 e size v' m ys ∧ Moves (fun k => k = B ∨ ∃ u, Boxed W B t u ∧ u.ownBlock = some k) W (w1.setCell ⟨B, 0, none⟩ v') := by
  have hv1 : Boxed w1 B t v := hl.kept hgrow (hl.not_row hte ho)
  refine ⟨hv1, hv1.set v', hown'.kept (grownBy_setCell' w1 B v') (.inr (hv1.not_row hte hown').symm), ?_⟩
  have h1 : Moves (fun k => k = B ∨ ∃ u, Boxed W B t u ∧ u.ownBlock = some k) W w1 := by
    refine ⟨hgrow.os, hgrow.tape, hgrow.output, hgrow.size, fun j hj hn => ?_⟩
    refine hgrow.block j hj ?_
    intro ej
    exact hn (.inr ⟨v, hl, ej.symm⟩)
  exact h1.trans (Moves.setCell (.inl rfl))
theorem own_far {W : World} {n0 B k j : Nat} {t e : TypeId} {size : Nat} {v : Value} {xs : List Value} (hl : Boxed W B t v) (ho : W.ownsRow n0 e size v k xs) (h : ∃ u, Boxed W B t u ∧ u.ownBlock = some j) : n0 ≤ j ∧ j < W.heap.size := by
  obtain ⟨u, hu, hj⟩ := h
  obtain rfl := boxed_unique hl hu
  rcases ho.2 with ⟨rfl, _⟩ | ⟨g, cap, cur, rfl, hg, hh, _⟩
  · simp [Value.ownBlock] at hj
  · obtain rfl : g = j := by simpa [Value.ownBlock] using hj
    exact ⟨hg, (Array.getElem?_eq_some_iff.1 hh).1⟩
theorem extract_piece (s : ByteArray) (q n : Nat) : (s.extract q (q + n)).data.toList = (s.data.toList.drop q).take n := by
  rw [Lib.extract_data]
  apply List.ext_getElem?
  intro i
  simp [List.getElem?_take, List.getElem?_drop]

theorem wpListIn_append_own_string {P : Program} {F : Fence} {n' : Nat} {ops : Array Oper} {rest : List Oper} {o : Oper} {a : Act} {Q : Exit → Act → World → Prop} (w : World) (hgd : o.guard = none) (sl x : Operand) (t u : TypeId)
    (ho : o.op = .call { callee := .builtin .append, args := #[sl, x], argTypes := #[t, u] })
    (base : Nat) (e : TypeId) (i : TypeInfo) (ht : P.underlying t = some (.slice e)) (hu : P.underlying u = some .string) (hi : P.info? e = some i) (hz : i.zero = some (.int .u8 0))
    (hsize : i.size = 1) (hby : i.bytes = 1)
    (v : Value) (n : Nat) (xs : List Value) (hs : a.eval sl = v) (hown : w.ownsRow base e 1 v n xs) (s : ByteArray) (hx : a.eval x = .string s)
    (h63 : n + s.size ≤ maxLen) (hbytes : n + s.size ≤ 140737488355328) (hbase : base ≤ w.heap.size)
    (h : ∀ v' w', w'.ownsRow base e 1 v' (n + s.size) (xs ++ Lib.strCells s) → w.grownBy w' v.ownBlock → wpListIn F n' P ops Q rest (a.put o.dst v') w') : wpListIn F n' P ops Q (o :: rest) a w := by
  refine wpListIn_plain hgd fun K hK => ?_
  obtain ⟨v', w', hr, h2, h3, h4⟩ := Lib.run_append_own_string (P := P) w base t u o.type e i ht hu hi hz hsize hby v n xs hown s h63 hbytes hbase
  unfold Oper.wpIn
  refine ⟨?_, ?_⟩
  · simp [Oper.about, ho, resolve, Target.leads, Sem.run_pure]
  · rw [Oper.semAt_plain F _ _ (by rw [ho]; intro c hc'; cases hc')]
    unfold execOp
    simp only [ho, resolve, invoke, builtin, Sem.run_bind, Sem.run_pure, Result.andThen_ok, List.map_toArray, List.map_cons, List.map_nil, hs, hx, hr]
    exact hK _ _ (h v' w' h2 h3)

/-- append behind a name that the walk does not open: so an equation of its run among the hypotheses is met. -/
def appSem (ats : Array TypeId) (ty : TypeId) (args : Array Value) : Sem Value := Builtin.append_ ats ty args
theorem app_hide (ats : Array TypeId) (ty : TypeId) (args : Array Value) : Builtin.append_ ats ty args = appSem ats ty args := rfl
attribute [local go_sem ↓] app_hide
/-- end, and what is appended then. -/
theorem end_app (p n : Nat) (ok : Bool) (hp : p < 2 ^ 52) (hn : n < 2 ^ 52) (w : World) {base : Nat} {v : Value} {k : Nat} {xs : List Value} (ho : w.ownsRow base 5 1 v k xs) (hk : k ≤ 1000000) (hbase : base ≤ w.heap.size) (s : ByteArray) (hs : s.size ≤ 1000000) {m : Nat} (hm : s.size = m) :
    Calls Tryd.prog 25 #[unitV p n ok] w fun e w' => e = .returned (.int .i64 ((p : Nat) + (n : Nat))) ∧ Below w.heap.size w w' ∧ ∃ o cap w'', (appSem #[57, 9] 57 #[v, .string s]).run Tryd.prog w' = .ok (.slice o (k + m) cap) w'' ∧
      w''.ownsRow base 5 1 (.slice o (k + m) cap) (k + m) (xs ++ Lib.strCells s) ∧ w'.grownBy w'' v.ownBlock := by
  subst hm
  obtain ⟨i0, hi, hz0, hz1, hz2⟩ := info_parts infoByte
  refine (end_any p n ok hp hn w).mono fun e w' ⟨h1, hb⟩ => ⟨h1, hb, ?_⟩
  obtain ⟨v', w'', hr, h2, h3, h4⟩ := Lib.run_append_own_string (P := Tryd.prog) w' base 57 9 57 5 i0 Tryd.underlying57 Tryd.underlying9 hi hz0 hz1 hz2 v k xs (own_below ho hb) s (by unfold maxLen; omega) (by omega) (by have := hb.size; omega)
  obtain ⟨o, cap, rfl⟩ := own_form h2
  exact ⟨o, cap, w'', hr, h2, h3⟩

/-- A round's end: the list longer, all else as it was. -/
theorem rep_close {N M base : Nat} {W WA w5 wf : World} {t t1 : TypeId} {v v' s b : Value} {k m : Nat} {xs ys : List Value} {L : List UInt8} (hNM : N + 1 < M) (hMb : M < base) (hWA : Below W.heap.size W WA) (hb5 : Below WA.heap.size WA w5) (hBX : Boxed W (N + 1) t v)
    (gS5 : Boxed w5 N t1 s) (gI5 : Boxed w5 M t1 b) (gX5 : Boxed w5 (N + 1) t v) (ho5 : w5.ownsRow base 5 1 v k xs) (hm2 : Moves (fun j => j = N + 1 ∨ ∃ u, Boxed w5 (N + 1) t u ∧ u.ownBlock = some j) w5 wf)
    (hv2 : Boxed wf (N + 1) t v') (hr2 : wf.ownsRow base 5 1 v' m ys) (hL : L.length = m) (hC : byteCells L = ys) :
    Moves (fun j => j = N + 1 ∨ ∃ u, Boxed W (N + 1) t u ∧ u.ownBlock = some j) W wf ∧ Boxed wf N t1 s ∧ Boxed wf M t1 b ∧ ∃ v, Boxed wf (N + 1) t v ∧ wf.ownsRow base 5 1 v L.length (byteCells L) := by
  subst hL hC
  refine ⟨((Moves.of_below hWA).trans (Moves.of_below hb5)).trans (hm2.mono fun k h => h.imp id fun ⟨u, hu, hk⟩ => ⟨_, hBX, by rw [boxed_unique gX5 hu]; exact hk⟩), row_keep gS5 hm2 ?_, row_keep gI5 hm2 ?_, _, hv2, hr2⟩
  · rintro (h | h)
    · omega
    · have := own_far gX5 ho5 h; omega
  · rintro (h | h)
    · omega
    · have := own_far gX5 ho5 h; omega

set_option maxRecDepth 100000 in
set_option maxHeartbeats 4000000 in
theorem repair_any (s : ByteArray) (hs : s.size ≤ 50000) (w : World) (aU aS : Addr) (hG : Glob w aU aS) :
    Calls Tryd.prog 15 #[.string s] w fun e w' => e = .returned (.string ⟨(repL s.data.toList).toArray⟩) ∧ Below w.heap.size w w' := by
  refine (callsIn_wide (n := 5)).1 ?_
  have h1 : 1 ≤ 5 := by omega
  refine callsIn_of_wp_marks Tryd.func15 rfl trivial ?_ rfl
  simp only [Tryd.ntmps15, List.size_toArray, List.length_cons, List.length_nil, Nat.reduceAdd, Nat.reduceSub, Array.replicate_succ, Array.replicate_zero, List.push_toArray, List.append_toArray, List.nil_append, List.cons_append]
  have ltU := hG.ltU
  have ltS := hG.ltS
  have lU := hG.lt_aU
  have lS := hG.lt_aS
  have A0 : Below w.heap.size w ((w.alloc (.cells #[.string s] 9)).alloc (.cells #[.slice none 0 0] 57)) := ((Below.refl _ _).alloc (Nat.le_refl _) _).alloc (by simp) _
  have XS : Boxed ((w.alloc (.cells #[.string s] 9)).alloc (.cells #[.slice none 0 0] 57)) w.heap.size 9 (.string s) := (Boxed.new _ _ _).alloc _
  have XB : Boxed ((w.alloc (.cells #[.string s] 9)).alloc (.cells #[.slice none 0 0] 57)) (w.heap.size + 1) 57 (.slice none 0 0) := by
    have := Boxed.new (w.alloc (.cells #[.string s] 9)) 57 (.slice none 0 0)
    rwa [World.size_alloc] at this
  gi_wp2_with fail
  refine ⟨trivial, (callsIn_wide.2 (mended_any _ aU aS (hG.below A0))).mono ?_⟩
  rintro e w1 ⟨rfl, B1⟩
  have XS1 : Boxed w1 w.heap.size 9 (.string s) := XS.kept (grown_of_below B1 none) (by simp)
  have XB1 : Boxed w1 (w.heap.size + 1) 57 (.slice none 0 0) := XB.kept (grown_of_below B1 none) (by simp)
  have z1 := B1.size
  simp only [World.size_alloc] at z1
  have A1 : Below w.heap.size w w1 := A0.trans (B1.mono (by simp; omega))
  have cs1 := XS1.cell
  have ls1 := XS1.lt
  gi_wp2_with fail
  refine ⟨trivial, (callsIn_wide.2 (whole_any s _)).mono ?_⟩
  rintro e w2 ⟨rfl, rfl⟩
  gi_wp2_with fail
  refine ⟨trivial, (callsIn_wide.2 (units_any s 0 _)).mono ?_⟩
  rintro e w2 ⟨rfl, hw2⟩
  simp only [World.size_alloc] at hw2 ⊢
  have B2 : Below w1.heap.size w1 w2 := by rw [← hw2]; exact (((Below.refl _ _).alloc (Nat.le_refl _) _).alloc (by simp) _).alloc (by simp; omega) _
  have hb : w2.heap[w1.heap.size + 1 + 1]? = some (.cells (menderC s 0) 54 (0, 0)) := by
    rw [← hw2]
    have := heap_alloc_new ((w1.alloc (.cells #[.string ⟨#[239, 191, 189]⟩] 9)).alloc (.cells (menderC s 0) 54)) (.cells (menderC s 0) 54)
    simpa using this
  have XI2 : Boxed w2 w1.heap.size 9 (.string ⟨#[239, 191, 189]⟩) := by
    rw [← hw2]
    exact ((Boxed.new w1 9 _).alloc _).alloc _
  have z2 : w2.heap.size ≤ w1.heap.size + 3 ∧ w1.heap.size + 3 ≤ w2.heap.size := by rw [← hw2]; simp
  clear hw2
  have XS2 : Boxed w2 w.heap.size 9 (.string s) := XS1.kept (grown_of_below B2 none) (by simp)
  have XB2 : Boxed w2 (w.heap.size + 1) 57 (.slice none 0 0) := XB1.kept (grown_of_below B2 none) (by simp)
  have A2 : Below w.heap.size w w2 := A1.trans (B2.mono (by omega))
  have hlen0 : s.data.toList.length = s.size := by simp
  have hmem : ∀ pre x, pre ++ [x] <+: uevs 0 (s.data.toList.drop 0) → (repOf s.data.toList pre).length ≤ 200000 ∧ x.1 + x.2.1 ≤ s.size ∧ x.2.1 ≤ 4 := by
    intro pre x hpx
    have hm := uevs_mem 0 (s.data.toList.drop 0)
    have h1 := hpx.length_le
    have h2 := uevs_length 0 (s.data.toList.drop 0)
    have h3 := repOf_le s.data.toList pre fun y hy => (hm y (hpx.subset (List.mem_append_left _ hy))).2.2.2
    have h4 := hm x (hpx.subset (List.mem_append_right _ (List.mem_singleton.2 rfl)))
    rw [List.length_append, List.length_singleton] at h1
    rw [List.length_drop] at h2 h4
    omega
  have HM := Lib.hid hmem
  clear hmem hlen0
  gi_wp2_with fail
  refine wpIn_units (w0 := w) (b := w1.heap.size + 1 + 1) (p := 0) (s := s) (aU := aU) (aS := aS) rfl rfl hs (by omega) hb hG A2
    (fun pre W => Boxed W w.heap.size 9 (.string s) ∧ Boxed W w1.heap.size 9 (.string ⟨#[239, 191, 189]⟩) ∧ ∃ v, Boxed W (w.heap.size + 1) 57 v ∧ W.ownsRow (w2.heap.size + 2) 5 1 v (repOf s.data.toList pre).length (byteCells (repOf s.data.toList pre)))
    (fun _ _ _ => False) (fun A k => k = w.heap.size + 1 ∨ ∃ v, Boxed A (w.heap.size + 1) 57 v ∧ v.ownBlock = some k) ?S1 ?S2 ?hI ?hIx ⟨XS2, XI2, _, XB2, World.ownsRow_nil _ _ _ _⟩
    (fun u x => { tmps := #[.string s, .pointer (some ⟨w.heap.size, 0, none⟩), .string ⟨#[]⟩, .pointer (some ⟨w.heap.size + 1, 0, none⟩), .pointer (some ⟨w1.heap.size, 0, none⟩), .pointer (some ⟨u, 0, none⟩), .string ⟨#[239, 191, 189]⟩, .string s, .agg (menderC s 0), .func (.func 37) #[] #[.pointer (some ⟨w1.heap.size + 1 + 1, 0, none⟩)], unitV x.1 x.2.1 x.2.2, undef, undef, undef, undef, undef, undef, undef, undef, undef, undef, undef, undef, undef, undef, undef], defers := [] }) ?assign ?body ?done ?stop
  case S1 =>
    rintro xs A k hA ⟨h1, h2, v, hX, ho⟩ (rfl | ⟨v', hX', hv'⟩)
    · have := hX.lt
      omega
    · have := own_far hX ho ⟨v', hX', hv'⟩
      omega
  case S2 =>
    rintro xs A B k ⟨h1, h2, v, hX, ho⟩ hm (rfl | ⟨v', hX', hv'⟩)
    · exact .inl rfl
    · have hXB : Boxed B (w.heap.size + 1) 57 v := row_keep hX hm (by omega)
      obtain rfl := boxed_unique hXB hX'
      exact .inr ⟨_, hX, hv'⟩
  case hI =>
    rintro xs A B ⟨h1, h2, v, hX, ho⟩ hm
    exact ⟨row_keep h1 hm (by omega), row_keep h2 hm (by omega), v, row_keep hX hm (by omega), own_moves ho hm (by omega)⟩
  case hIx => rintro c xs A B h; exact h.elim
  case assign =>
    rintro l ⟨p, n, ok⟩ A K hK
    gi_wp2
    exact hK
  case body =>
    obtain ⟨i0, hi, hz0, hz1, hz2⟩ := info_parts infoByte
    rintro l pre ⟨q, n, ok⟩ u W hu hpx hrow hg hB ⟨hS, hI, v, hX, ho⟩
    obtain ⟨c0, c1⟩ := row_cells hrow
    obtain ⟨m1, m2, m3⟩ := HM.out _ _ hpx
    have HP := Lib.hid (repOf_snoc s.data.toList pre (q, n, ok))
    have hcS := hS.cell
    have hcI := hI.cell
    have hcX := hX.cell
    have hfX := hX.frozen
    have hlS := hS.lt
    have hlI := hI.lt
    have hlX := hX.lt
    have hlu := (Array.getElem?_eq_some_iff.1 hrow).1
    have hWz := hB.size
    simp only at m2 m3
    cases ok with
    | false =>
      have hcut : pieceL s.data.toList (q, n, false) = bad3 := rfl
      have h63 : (repOf s.data.toList pre).length + (⟨#[239, 191, 189]⟩ : ByteArray).size ≤ 200003 := by show _ + 3 ≤ _; omega
      gi_wp2_with (gi_at_builtin; refine wpListIn_append_own_string _ rfl _ _ _ _ rfl (w2.heap.size + 2) 5 i0 Tryd.underlying57 Tryd.underlying9 hi hz0 hz1 hz2 v _ _ rfl ho ⟨#[239, 191, 189]⟩ rfl (by unfold maxLen; omega) (by omega) (by omega) ?_; intro v' w1' hown' hgrow; obtain ⟨o', cap', rfl⟩ := own_form hown'; obtain ⟨hv1, hv2, hr2, hm2⟩ := appended_plain hX (by decide) ho hown' hgrow; have hc1 := hv1.cell; have hf1 := hv1.frozen)
      refine ⟨hm2, row_keep hS hm2 ?_, row_keep hI hm2 ?_, _, hv2, ?_⟩
      · rintro (h | h)
        · omega
        · have := own_far hX ho h; omega
      · rintro (h | h)
        · omega
        · have := own_far hX ho h; omega
      · rw [HP.out, hcut, List.length_append]
        unfold byteCells at *
        rw [List.map_append]
        exact hr2
    | true =>
      have hqn : ((q : Nat) : Int) + (n : Nat) ≤ (s.size : Nat) := by omega
      have hq0 : ((q : Nat) : Int) ≤ ((q : Nat) : Int) + (n : Nat) := by omega
      have hq1 : q < 2 ^ 52 := by omega
      have htn : (((q : Nat) : Int) + ((n : Nat) : Int)).toNat = q + n := by omega
      have hn1 : n < 2 ^ 52 := by omega
      have hcut : pieceL s.data.toList (q, n, true) = (s.extract q (q + n)).data.toList := (extract_piece s q n).symm
      obtain ⟨o, cap, rfl⟩ := own_form ho
      have hfol : Tryd.prog.follows .mixedOrders = true := by kernel_rfl
      have hex : (s.extract q (q + n)).size ≤ 1000000 := by rw [ByteArray.size_extract]; omega
      have hexz : (s.extract q (q + n)).size = n := by rw [ByteArray.size_extract]; omega
      have NM : w.heap.size + 1 < w1.heap.size := by omega
      have MB : w1.heap.size < w2.heap.size + 2 := by omega
      have hpl : (repOf s.data.toList (pre ++ [(q, n, true)])).length = (repOf s.data.toList pre).length + n := by
        rw [HP.out, List.length_append, hcut]
        have e1 : (s.extract q (q + n)).data.toList.length = (s.extract q (q + n)).size := Array.length_toList
        omega
      have hpc : byteCells (repOf s.data.toList (pre ++ [(q, n, true)])) = byteCells (repOf s.data.toList pre) ++ Lib.strCells (s.extract q (q + n)) := by
        rw [HP.out, hcut]; unfold byteCells; rw [List.map_append]; rfl
      have HPL := Lib.hid hpl
      have HPC := Lib.hid hpc
      clear hpl hpc hcut
      have HEX := Lib.hid hex
      have HXZ := Lib.hid hexz
      have HOWN : Hid (((W.alloc (.cells (unitC q n true) 36)).drew).ownsRow (w2.heap.size + 2) 5 1 (.slice o (repOf s.data.toList pre).length cap) (repOf s.data.toList pre).length (byteCells (repOf s.data.toList pre))) := Lib.hid (own_below ho ((Below.refl _ _).alloc (Nat.le_refl _) _).drew)
      have HL : Hid ((repOf s.data.toList pre).length ≤ 1000000 ∧ w2.heap.size + 2 ≤ (W.alloc (.cells (unitC q n true) 36)).drew.heap.size) := Lib.hid ⟨by omega, by simp; omega⟩
      have HROW := Lib.hid hrow
      have HWA : Hid (Below W.heap.size W (W.alloc (.cells (unitC q n true) 36)).drew) := Lib.hid ((Below.refl _ _).alloc (Nat.le_refl _) _).drew
      have HSA : Hid (Boxed (W.alloc (.cells (unitC q n true) 36)).drew w.heap.size 9 (.string s)) := Lib.hid (hS.alloc _)
      have HIA : Hid (Boxed (W.alloc (.cells (unitC q n true) 36)).drew w1.heap.size 9 (.string ⟨#[239, 191, 189]⟩)) := Lib.hid (hI.alloc _)
      have HXA : Hid (Boxed (W.alloc (.cells (unitC q n true) 36)).drew (w.heap.size + 1) 57 (.slice o (repOf s.data.toList pre).length cap)) := Lib.hid (hX.alloc _)
      have HBX : Hid (Boxed W (w.heap.size + 1) 57 (.slice o (repOf s.data.toList pre).length cap)) := Lib.hid hX
      have HO := Lib.hid ho
      clear hex hexz ho hrow hS hI hX
      gi_wp2_with fail
      gi_region_with_o (first | (refine ⟨trivial, ?_⟩; gi_at_call 24; refine CallsIn.inRound l ((callsIn_wide.2 (begin_any q n true (by omega) _)).mono ?_); rintro e w' ⟨rfl, rfl⟩) | (refine ⟨trivial, ?_⟩; gi_at_call 25; refine CallsIn.inRound l ((callsIn_wide.2 (end_app q n true hq1 hn1 _ HOWN.out HL.out.1 HL.out.2 (s.extract q (q + n)) HEX.out HXZ.out)).mono ?_); rintro e w5 ⟨rfl, hb5, o', cap', w6, hrun, hown', hgrow⟩; have gS5 : Boxed w5 _ _ _ := Boxed.kept HSA.out (grown_of_below hb5 none) (by simp); have gI5 : Boxed w5 _ _ _ := Boxed.kept HIA.out (grown_of_below hb5 none) (by simp); have gX5 : Boxed w5 _ _ _ := Boxed.kept HXA.out (grown_of_below hb5 none) (by simp); have hS5 := Boxed.cell gS5; have hX5 := Boxed.cell gX5; obtain ⟨hv1, hv2, hr2, hm2⟩ := appended_plain gX5 (by decide) (own_below HOWN.out hb5) hown' hgrow; have hc1 := hv1.cell; have hf1 := hv1.frozen))
      all_goals exact rep_close NM MB HWA.out hb5 HBX.out gS5 gI5 gX5 (own_below HOWN.out hb5) hm2 hv2 hr2 HPL.out HPC.out
  case done =>
    rintro D W hD ⟨hS, hI, v, hX, ho⟩ hg hB hK
    have hcX := hX.cell
    obtain ⟨o, cap, rfl⟩ := own_form ho
    have hcv : (convert 57 9 (.slice o (repOf s.data.toList (uevs 0 (s.data.toList.drop 0))).length cap)).run Tryd.prog W = .ok (.string ⟨(repOf s.data.toList (uevs 0 (s.data.toList.drop 0))).toArray⟩) W := run_string_own (w := W) ho
    obtain ⟨L, hL⟩ : ∃ L, repOf s.data.toList (uevs 0 (s.data.toList.drop 0)) = L := ⟨_, rfl⟩
    rw [hL] at hcv hcX
    have hR : repL s.data.toList = L := hL
    have HR := Lib.hid hR
    clear hL hR hX ho hS hI
    gi_wp2
    refine ⟨by simp, .inl ⟨_, _, rfl, run_takeDeferred hK, ?_⟩⟩
    refine ⟨.string ⟨L.toArray⟩, ?_, by rw [HR.out], Moves.below hB hB.size (Moves.putObj (S := fun k => k = D) rfl) (fun k e => by have := hB.size; omega)⟩
    simp [results, Tryd.f15, go_sem]
  case stop =>
    rintro D c pre W hD hpre h
    exact h.elim
end Go.Proofs.YthnfekilmiodpaaDoor

