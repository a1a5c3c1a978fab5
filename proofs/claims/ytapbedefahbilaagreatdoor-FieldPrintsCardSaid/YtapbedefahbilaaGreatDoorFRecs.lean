/- records: the records of a file, or what is wrong with it. -/
import Derived.Test.YtapbedefahbilaaGreatDoorFRecs0
import Derived.Maps.AppendAt
namespace Go.Proofs.YtapbedefahbilaaGreatDoor
open Go.RowKit Go.Shelf Go.Maps
attribute [local go_sem] Oper.semAt_some
attribute [local go_sem ↓] app_hide

theorem wpListIn_store_row {P : Program} {F : Fence} {n' : Nat} {ops : Array Oper} {rest : List Oper} {o : Oper} {a : Act} {w : World} {Q : Exit → Act → World → Prop} (hgd : o.guard = none) (ty : TypeId) (x y : Operand) (ho : o.op = .store ty x y)
    (g : Nat) (cells : Array Value) (hx : a.eval x = .pointer (some ⟨g, 0, none⟩)) (hy : a.eval y = .agg cells)
    (t : TypeId) (old : Array Value) (hg : w.heap[g]? = some (.cells old t (0, 0))) (hi : (P.info? ty).map (·.size) = some cells.size)
    (hold : old.size = cells.size) (h1 : cells.all (·.oneCell') = true) {w3 : World} (hw : w.setRow g cells = w3)
    (h : wpListIn F n' P ops Q rest (a.put o.dst undef) w3) : wpListIn F n' P ops Q (o :: rest) a w := by
  subst hw
  refine wpListIn_plain hgd fun K hK => ?_
  unfold Oper.wpIn
  refine ⟨?_, ?_⟩
  · simp [Oper.about, ho]
  · rw [Oper.semAt_plain F _ _ (by rw [ho]; intro c hc'; cases hc')]
    unfold execOp
    simp only [ho, hx, hy, Instr.storeAt, Instr.sureAddr, Sem.run_bind, Sem.run_pure, Result.andThen_ok, run_storeVar_row w g t ty old cells hg hi hold h1]
    exact hK _ _ h
theorem infoRec : (Tryz.prog.info? 31).map (fun i => (i.zero, i.size, i.bytes)) = some (some (recV 0 0 0 (.slice none 0 0)), 4, 48) := by kernel_rfl
theorem rec_own {W : World} {base k : Nat} {v : Value} {xs : List Value} {n a b : Int} {fv : Value} (hf : fv.oneCell' = true) (ho : W.ownsRow base 31 4 v k xs) (hk : k ≤ 1000) (hbase : base ≤ W.heap.size) :
    ∃ g cap w6, (appSem #[35, 35] 35 #[v, .slice (some ⟨W.heap.size, 0, none⟩) 1 1]).run Tryz.prog (W.alloc (recO n a b fv)) = .ok (.slice (some ⟨g, 0, none⟩) (k + 1) cap) w6 ∧
      w6.ownsRow base 31 4 (.slice (some ⟨g, 0, none⟩) (k + 1) cap) (k + 1) (xs ++ [.int .i64 n, .int .i64 a, .int .i64 b, fv]) ∧ (W.alloc (recO n a b fv)).grownBy w6 v.ownBlock ∧ (∀ j, (Value.slice (some ⟨g, 0, none⟩) (k + 1) cap).ownBlock = some j → v.ownBlock = some j ∨ j = W.heap.size + 1) := by
  obtain ⟨i0, hi, hz0, hz1, hz2⟩ := info_parts infoRec
  have hb : Below W.heap.size W (W.alloc (recO n a b fv)) := (Below.refl _ _).alloc (Nat.le_refl _) _
  obtain ⟨c0, c1, c2, c3, _⟩ := rec_cells (heap_alloc_new W (recO n a b fv))
  obtain ⟨v', w6, hr, h2, h3, h4, h5⟩ := run_append_own_at (P := Tryz.prog) _ base 35 35 31 i0 (recV 0 0 0 (.slice none 0 0)) 4 48 Tryz.underlying35 hi hz0 hz1 hz2 rfl (by decide) v k xs (own_below ho hb) ⟨W.heap.size, 0, none⟩ 1 1 [.int .i64 n, .int .i64 a, .int .i64 b, fv] rfl
    (fun j u hj => by
      match j, hj with
      | 0, hj => cases hj; exact c0
      | 1, hj => cases hj; exact c1
      | 2, hj => cases hj; exact c2
      | 3, hj => cases hj; exact c3) (fun u hu => by
      simp only [List.mem_cons, List.not_mem_nil, or_false] at hu
      rcases hu with rfl | rfl | rfl | rfl <;> first | rfl | exact hf) (by unfold maxLen; omega) (by omega) (by simp; omega)
  obtain ⟨g, cap, rfl⟩ := ownsRow_succ h2
  exact ⟨g, cap, w6, hr, h2, h3, fun j hj => h5.imp (fun h => h.symm.trans hj) (fun h => by rw [h] at hj; cases hj; simp)⟩

/-- What holds between two rounds. -/
structure RecsInv (w : World) (s : ByteArray) (b : Nat) (X : Nat → Prop) (pre : List (List UInt8 × Nat)) (W : World) (acc : List RecD) (v : Value) (cs : List Value) : Prop where
  far : ∀ k, X k → w.heap.size + 4 ≤ k
  below : Below w.heap.size w W
  size : w.heap.size + 4 ≤ W.heap.size
  rd : W.heap[w.heap.size]? = some (.cells (readC s b) 62 (0, 0))
  lc : Boxed W (w.heap.size + 1) 35 v
  fc : Boxed W (w.heap.size + 2) 51 .nilIface
  so : recsP pre [] = (acc, .none)
  few : acc.length ≤ 300
  row : W.ownsRow (w.heap.size + 4) 31 4 v acc.length cs
  notX : ∀ k, v.ownBlock = some k → ¬ X k
  own : RecsOwn W (w.heap.size + 4) (fun k => ¬ X k) acc cs
structure RecsOut (w : World) (X : Nat → Prop) (pre : List (List UInt8 × Nat)) (W : World) (n e : Nat) : Prop where
  far : ∀ k, X k → w.heap.size + 4 ≤ k
  below : Below w.heap.size w W
  size : w.heap.size + 4 ≤ W.heap.size
  lc : Boxed W (w.heap.size + 1) 35 (.slice none 0 0)
  fc : Boxed W (w.heap.size + 2) 51 (errRV (.line n e))
  so : recsP pre [] = ([], .line n e)
theorem RecsInv.moves {w : World} {s : ByteArray} {b : Nat} {X X' : Nat → Prop} {pre : List (List UInt8 × Nat)} {A B : World} {acc : List RecD} {v : Value} {cs : List Value} (h : RecsInv w s b X pre A acc v cs) (hm : Moves X A B) (hX : ∀ k, X' k → (X k ∨ A.heap.size ≤ k) ∧ k < B.heap.size) : RecsInv w s b X' pre B acc v cs := by
  have hf := h.far
  have hz := h.size
  have nx : ∀ j, j < w.heap.size + 4 → ¬ X j := fun j hj hx => by have := hf j hx; omega
  refine ⟨?_, Moves.below h.below h.below.size hm (fun k hk => by have := hf k hk; omega), by have := hm.size; omega, row_keep h.rd hm (nx _ (by omega)), row_keep h.lc hm (nx _ (by omega)), row_keep h.fc hm (nx _ (by omega)), h.so, h.few, own_moves1 h.row hm h.notX, ?_, ?_⟩
  · intro k hk
    rcases (hX k hk).1 with h1 | h1
    · exact hf k h1
    · omega
  · intro k hk hx
    rcases (hX k hx).1 with h1 | h1
    · exact h.notX k hk h1
    · have := own_block_lt h.row hk; omega
  · refine RecsOwn.moves hm (Nat.le_refl _) (fun k h1 h2 _ hk => ⟨hk, fun hx => ?_⟩) h.own
    rcases (hX k hx).1 with h3 | h3
    · exact hk h3
    · omega
theorem RecsOut.moves {w : World} {X X' : Nat → Prop} {pre : List (List UInt8 × Nat)} {A B : World} {n e : Nat} (h : RecsOut w X pre A n e) (hm : Moves X A B) (hX : ∀ k, X' k → (X k ∨ A.heap.size ≤ k) ∧ k < B.heap.size) : RecsOut w X' pre B n e := by
  have hf := h.far
  have hz := h.size
  have nx : ∀ j, j < w.heap.size + 4 → ¬ X j := fun j hj hx => by have := hf j hx; omega
  refine ⟨?_, Moves.below h.below h.below.size hm (fun k hk => by have := hf k hk; omega), by have := hm.size; omega, row_keep h.lc hm (nx _ (by omega)), row_keep h.fc hm (nx _ (by omega)), h.so⟩
  intro k hk
  rcases (hX k hk).1 with h1 | h1
  · exact hf k h1
  · omega

set_option maxRecDepth 100000 in
set_option maxHeartbeats 2000000 in
theorem records_many (s : ByteArray) (b : Nat) (w : World) (h2 : 20000 < s.size) (hs : s.size ≤ 1000000) :
    Calls Tryz.prog 36 #[.agg (readC s b)] w (RecsPost ([], .file 20) w) := by
  have hd : decide ((20000 : Int) < ((s.size : Nat) : Int)) = true := decide_eq_true (by omega)
  refine (callsIn_wide (n := 6)).1 ?_
  have h1 : 1 ≤ 6 := by omega
  refine callsIn_of_wp_marks Tryz.func36 rfl trivial ?_ rfl
  simp only [Tryz.ntmps36, List.size_toArray, List.length_cons, List.length_nil, Nat.reduceAdd, Nat.reduceSub, Array.replicate_succ, Array.replicate_zero, List.push_toArray, List.append_toArray, List.nil_append, List.cons_append]
  gi_wp2_with fail
  refine wpIn_wide.2 (wp_scope_straight ((wpIn_wide (n := 6)).1 ?_))
  gi_wp2
  refine ⟨_, results_tmp2 (t := 2) (u := 3) rfl _ _ _, _, _, rfl, World.ownsRow_nil _ _ _ _, rfl, ?_⟩
  exact (((Below.refl _ _).alloc (Nat.le_refl _) _).alloc (by simp) _).alloc (by simp; omega) _
/-- The record laid in its own place. -/
theorem rec_laid {W1 W2 : World} {a b : Int} {fv : Value} (b2 : Below W1.heap.size W1 W2) : ∃ w3, (W2.alloc (recO 0 0 0 (.slice none 0 0))).setRow W2.heap.size (recC 0 a b fv) = w3 ∧ (W2.alloc (recO 0 0 0 (.slice none 0 0))).heap[W2.heap.size]? = some (recO 0 0 0 (.slice none 0 0)) ∧
    Below W1.heap.size W1 w3 ∧ Below W2.heap.size W2 w3 ∧ w3.heap[W2.heap.size]? = some (recO 0 a b fv) := by
  have h : Below W2.heap.size W2 ((W2.alloc (recO 0 0 0 (.slice none 0 0))).setRow W2.heap.size (recC 0 a b fv)) := below_setRow ((Below.refl _ _).alloc (Nat.le_refl _) _) (Nat.le_refl _) _
  exact ⟨_, rfl, heap_alloc_new _ _, b2.trans (h.mono b2.size), h, setRow_heap _ _ _ _ _ _ (heap_alloc_new _ _)⟩
theorem num_mem {l x : List UInt8} {n : Nat} (h : (x, n) ∈ numL l) : x.length ≤ l.length := by
  have h2 : x ∈ (numL l).map Prod.fst := List.mem_map_of_mem (f := Prod.fst) h
  unfold numL at h2
  rw [List.zipIdx_map_fst] at h2
  exact splitL_mem 10 l x h2

set_option maxRecDepth 100000 in
set_option maxHeartbeats 4000000 in
theorem records_go (s : ByteArray) (b : Nat) (w : World) {m : Int} (hG : FGlob w m) (hD : Digits w b) (h2 : s.size ≤ 20000) :
    Calls Tryz.prog 36 #[.agg (readC s b)] w (RecsPost (recsP (numL s.data.toList) []) w) := by
  have hd : decide ((20000 : Int) < ((s.size : Nat) : Int)) = false := decide_eq_false (by omega)
  refine (callsIn_wide (n := 6)).1 ?_
  have h1 : 1 ≤ 6 := by omega
  refine callsIn_of_wp_marks Tryz.func36 rfl trivial ?_ rfl
  simp only [Tryz.ntmps36, List.size_toArray, List.length_cons, List.length_nil, Nat.reduceAdd, Nat.reduceSub, Array.replicate_succ, Array.replicate_zero, List.push_toArray, List.append_toArray, List.nil_append, List.cons_append]
  obtain ⟨P, hP⟩ : ∃ P, RecsPost (recsP (numL s.data.toList) []) w = P := ⟨_, rfl⟩
  have HP := Lib.hid hP
  rw [hP]
  clear hP
  have HG := Lib.hid hG
  have HD := Lib.hid hD
  clear hG hD
  gi_wp2_with fail
  refine wpIn_wide.2 (wp_scope_straight ((wpIn_wide (n := 6)).1 ?_))
  gi_wp2_with fail
  refine wpIn_label ?_
  gi_wp2_with fail
  refine ⟨trivial, (callsIn_wide.2 (lines_any s b _)).mono ?_⟩
  rintro e w2 ⟨rfl, hw2⟩
  simp only [World.size_alloc] at hw2 ⊢
  have BW : Below w.heap.size w w2 := by rw [← hw2]; exact ((((Below.refl _ _).alloc (Nat.le_refl _) _).alloc (by simp) _).alloc (by simp; omega) _).alloc (by simp; omega) _
  have z2 : w2.heap.size = w.heap.size + 4 := by rw [← hw2]; simp
  have L2 : Boxed w2 (w.heap.size + 1) 35 (.slice none 0 0) := by
    rw [← hw2]
    have := Boxed.new (w.alloc (.cells (readC s b) 62)) 35 (.slice none 0 0)
    rw [World.size_alloc] at this
    exact (this.alloc _).alloc _
  have F2 : Boxed w2 (w.heap.size + 2) 51 .nilIface := by
    rw [← hw2]
    have := Boxed.new ((w.alloc (.cells (readC s b) 62)).alloc (.cells #[.slice none 0 0] 35)) 51 .nilIface
    rw [World.size_alloc, World.size_alloc] at this
    exact this.alloc _
  have r2 : w2.heap[w.heap.size]? = some (.cells (readC s b) 62 (0, 0)) := by
    rw [← hw2, Below.heap_alloc _ _ _ (by simp; omega), Below.heap_alloc _ _ _ (by simp; omega), Below.heap_alloc _ _ _ (by simp)]
    exact heap_alloc_new _ _
  have hb : w2.heap[w.heap.size + 1 + 1 + 1]? = some (.cells (readC s b) 62 (0, 0)) := by
    rw [← hw2]
    have := heap_alloc_new (((w.alloc (.cells (readC s b) 62)).alloc (.cells #[.slice none 0 0] 35)).alloc (.cells #[.nilIface] 51)) (.cells (readC s b) 62)
    simpa using this
  clear hw2
  gi_wp2_with fail
  refine wpIn_seqX (n := 6) (Ow := fun _ => False) (Dep := fun k => k = w.heap.size + 1 + 1 + 1) (encs := encN) (all := numL s.data.toList) (by omega) rfl (enters_of Tryz.func66 (by kernel_rfl) rfl) (fun x => rfl) (seqLines (by omega) hb)
    (fun k h => h.elim) (fun k h => by omega)
    (fun X pre W => ∃ acc v cs, RecsInv w s b X pre W acc v cs) (fun c X pre W => c = .exit 0 ∧ ∃ n e, RecsOut w X pre W n e) ?hI ?hIx ?h0
    (fun _ x => { tmps := #[.agg (readC s b), .pointer (some ⟨w.heap.size, 0, none⟩), .slice none 0 0, .nilIface, .pointer (some ⟨w.heap.size + 1, 0, none⟩), .pointer (some ⟨w.heap.size + 1 + 1, 0, none⟩), .int .i64 (x.2 : Nat), strV x.1, undef, undef, undef, .pointer (some ⟨w.heap.size, 0, none⟩), .pointer (some ⟨w.heap.size, 0, none⟩), .string s, .int .i64 (s.size : Nat), .bool false, undef, .agg (readC s b), .func (.func 66) #[] #[.pointer (some ⟨w.heap.size + 1 + 1 + 1, 0, none⟩)], .int .i64 (x.2 : Nat), strV x.1, undef, undef, undef, undef, undef, undef, undef, undef, undef, undef, undef, undef, undef, undef, undef, undef, undef, undef, undef, undef, undef, undef, undef, undef, undef, undef, undef, undef, undef, undef, undef, undef, undef, undef], defers := [] })
    (fun A _ B => A = B) (fun A x B h => by rw [h]; exact Moves.refl _ _) ?assign ?body ?done ?stop
  case hI =>
    rintro X X' xs A B ⟨acc, v, cs, h⟩ hm hX
    exact ⟨acc, v, cs, h.moves hm hX⟩
  case hIx =>
    rintro c X X' xs A B ⟨rfl, n, e, h⟩ hm hX
    exact ⟨rfl, n, e, h.moves hm hX⟩
  case h0 => exact ⟨[], _, [], { far := fun k h => h.elim, below := BW, size := by omega, rd := r2, lc := L2, fc := F2, so := rfl, few := by simp, row := World.ownsRow_nil _ _ _ _, notX := fun k h => by simp [Value.ownBlock] at h, own := rfl }⟩
  case assign =>
    rintro l x A K hK
    gi_wp2
    rfl
  case body =>
    rintro l X pre ⟨x, n⟩ A A' W1 hA hpx hAB hm hXn hXn1 hXlt ⟨acc, v, cs, hI⟩
    obtain ⟨c0, c1⟩ := row_cells hI.rd
    have hz := hI.size
    have hXb : ∀ k, X k → k < W1.heap.size := fun k h => by have h1 := hXlt k h; have h2 := hm.size; rw [← hAB] at h2; omega
    have hxm : (x, n) ∈ numL s.data.toList := hpx.subset (List.mem_append_right _ (List.mem_singleton.2 rfl))
    have hxl := num_mem hxm
    have hsl : s.data.toList.length = s.size := by simp
    obtain ⟨q, hq⟩ : ∃ q : ByteArray, (⟨x.toArray⟩ : ByteArray) = q := ⟨_, rfl⟩
    have hsv : strV x = .string q := by rw [← hq]
    have hqx : q.data.toList = x := by rw [← hq]
    have hqs : q.size ≤ 1000000 := by
      have h5 : q.data.toList.length = q.size := by simp
      rw [hqx] at h5
      omega
    show Code.wpIn _ _ _ _ _ { tmps := _, defers := _ } _
    rw [hsv]
    have hG1 := HG.out.below hI.below
    have hD1 := HD.out.below hI.below
    have nB : ∀ k, k < w.heap.size + 3 → ¬ X k ∧ ¬ k = w.heap.size + 1 + 1 + 1 := fun k hk => ⟨fun h => by have := hI.far k h; omega, by omega⟩
    have keepX : ∀ V : World, Below W1.heap.size W1 V → RecsInv w s b X pre V acc v cs := fun V hb => hI.moves (Moves.of_below hb) (fun k h => ⟨.inl h, by have := hXb k h; have := hb.size; omega⟩)
    have HK := Lib.hid keepX
    have HNB := Lib.hid nB
    have HXB := Lib.hid hXb
    have HREC := Lib.hid (record_any b q W1 hG1 hD1 hqs)
    have HSO := Lib.hid hI.so
    have HQX := Lib.hid hqx
    have HIR := Lib.hid hI
    clear hq hsv hqs hxl hsl hxm hm hpx hXlt keepX nB hXb hG1 hD1 hqx hI
    gi_wp2_with fail
    refine ⟨trivial, CallsIn.inRound l ((callsIn_wide.2 HREC.out).mono ?_)⟩
    rintro e W2 hrec
    rw [HQX.out] at hrec
    cases hl : lineL x with
    | nothing =>
      rw [hl] at hrec
      obtain ⟨rfl, b2⟩ := hrec
      obtain ⟨w3, hw3, hn2, b3, b23, r3⟩ := rec_laid (a := 0) (b := 0) (fv := .slice none 0 0) b2
      have hI3 := HK.out _ b3
      have HR : Hid (seqEndX (fun k => k = w.heap.size + 1 + 1 + 1) X (fun X pre W => ∃ acc v cs, RecsInv w s b X pre W acc v cs) (fun c X pre W => c = .exit 0 ∧ ∃ n e, RecsOut w X pre W n e) (pre ++ [(x, n)]) W1 .normal ({ tmps := #[], defers := [] } : Act) w3) := Lib.hid ⟨Moves.of_below b3, acc, v, cs, { hI3 with so := recsP_skip hI3.so hl }⟩
      have HW3 := Lib.hid hw3
      have HN2 := Lib.hid hn2
      clear hw3 hn2 b3 b23 r3 hI3 b2 hl
      gi_wp2_with (refine wpListIn_store_row rfl 31 (.tmp 8) (.tmp 26) rfl W2.heap.size (recC 0 0 0 (.slice none 0 0)) rfl rfl 31 _ HN2.out (by kernel_rfl) rfl (by simp [Value.oneCell']) HW3.out ?_)
      exact HR.out
    | bad e =>
      rw [hl] at hrec
      obtain ⟨rfl, b2⟩ := hrec
      obtain ⟨w3, hw3, hn2, b3, b23, r3⟩ := rec_laid (a := 0) (b := 0) (fv := .slice none 0 0) b2
      have hI3 := HK.out _ b3
      have fl := hI3.lc.frozen
      have ff : w3.frozen? ⟨w.heap.size + 1 + 1, 0, none⟩ = false := hI3.fc.frozen
      have lt3 := hI3.fc.lt
      have cl := hI3.lc.cell
      have cf : w3.cell? ⟨w.heap.size + 1 + 1, 0, none⟩ = some .nilIface := hI3.fc.cell
      have hm4 : Moves (fun k => k = w.heap.size + 1 ∨ k = w.heap.size + 2) w3 ((w3.setCell ⟨w.heap.size + 1, 0, none⟩ (.slice none 0 0)).setCell ⟨w.heap.size + 1 + 1, 0, none⟩ (errRV (.line n e))) := (Moves.setCell (.inl rfl)).trans (Moves.setCell (.inr rfl))
      have HR : Hid (seqEndX (fun k => k = w.heap.size + 1 + 1 + 1) X (fun X pre W => ∃ acc v cs, RecsInv w s b X pre W acc v cs) (fun c X pre W => c = .exit 0 ∧ ∃ n e, RecsOut w X pre W n e) (pre ++ [(x, n)]) W1 (.exit 0) ({ tmps := #[], defers := [] } : Act) ((w3.setCell ⟨w.heap.size + 1, 0, none⟩ (.slice none 0 0)).setCell ⟨w.heap.size + 1 + 1, 0, none⟩ (errRV (.line n e)))) := by
        refine Lib.hid ⟨(Moves.of_below b3).trans (hm4.mono fun k h => HNB.out k (by omega)), rfl, n, e, { far := hI3.far, below := Moves.below hI3.below hI3.below.size hm4 (fun k h => by omega), size := by have := hm4.size; have := hI3.size; omega, lc := ?_, fc := ?_, so := recsP_bad hI3.so hl }⟩
        · exact row_keep (hI3.lc.set _) (Moves.setCell (S := fun k => k = w.heap.size + 2) rfl) (by omega)
        · exact (show Boxed (w3.setCell ⟨w.heap.size + 1, 0, none⟩ (.slice none 0 0)) (w.heap.size + 2) 51 .nilIface from row_keep hI3.fc (Moves.setCell (S := fun k => k = w.heap.size + 1) (w := w3) (a := ⟨w.heap.size + 1, 0, none⟩) (v := .slice none 0 0) rfl) (by omega)).set _
      have HW3 := Lib.hid hw3
      have HN2 := Lib.hid hn2
      clear hw3 hn2 b3 b23 r3 hI3 b2 hl hm4
      gi_wp2_with (refine wpListIn_store_row rfl 31 (.tmp 8) (.tmp 26) rfl W2.heap.size (recC 0 0 0 (.slice none 0 0)) rfl rfl 31 _ HN2.out (by kernel_rfl) rfl (by simp [Value.oneCell']) HW3.out ?_)
      exact HR.out
    | good a b' fs =>
      rw [hl] at hrec
      obtain ⟨fv, rfl, ho, b2⟩ := hrec
      obtain ⟨o, cap, rfl⟩ := own_form ho
      obtain ⟨w3, hw3, hn2, b3, b23, r3⟩ := rec_laid (a := (a : Nat)) (b := (b' : Nat)) (fv := .slice o fs.length cap) b2
      have hI3 := HK.out _ b3
      have fl := hI3.lc.frozen
      have ff : w3.frozen? ⟨w.heap.size + 1 + 1, 0, none⟩ = false := hI3.fc.frozen
      have lt3 := hI3.fc.lt
      have cl := hI3.lc.cell
      have cf : w3.cell? ⟨w.heap.size + 1 + 1, 0, none⟩ = some .nilIface := hI3.fc.cell
      have ho3 := own_below ho b23
      have HW3 := Lib.hid hw3
      have HN2 := Lib.hid hn2
      obtain ⟨ov, cv, rfl⟩ := own_form HIR.out.row
      rcases Nat.lt_or_ge acc.length 300 with h3 | h3
      · have hlt2 : w.heap.size + 4 ≤ W2.heap.size := by have := b2.size; have := HIR.out.size; omega
        have hz12 := b2.size
        have hm4 : Moves (fun k => k = W2.heap.size) w3 (w3.setCell ⟨W2.heap.size, 0, none⟩ (.int .i64 (n : Nat))) := Moves.setCell rfl
        obtain ⟨w4, hw4⟩ : ∃ w4, w3.setCell ⟨W2.heap.size, 0, none⟩ (.int .i64 (n : Nat)) = w4 := ⟨_, rfl⟩
        have r4 : w4.heap[W2.heap.size]? = some (recO (n : Nat) a b' (.slice o fs.length cap)) := by rw [← hw4]; exact set_heap _ r3
        rw [hw4] at hm4
        have b4 : Below W1.heap.size W1 w4 := Moves.below b3 b3.size hm4 (fun k h => by omega)
        have b24 : Below W2.heap.size W2 w4 := Moves.below b23 b23.size hm4 (fun k h => by omega)
        have hI4 := HK.out _ b4
        obtain ⟨g', cap', w6, hrun, hown', hgrow, hat⟩ := rec_own (n := (n : Nat)) (a := (a : Nat)) (b := (b' : Nat)) (fv := .slice o fs.length cap) rfl hI4.row (by omega) hI4.size
        have b45 : Below w4.heap.size w4 (w4.alloc (recO (n : Nat) a b' (.slice o fs.length cap))) := (Below.refl _ _).alloc (Nat.le_refl _) _
        have b5 := b4.trans (b45.mono b4.size)
        have hI5 := HK.out _ b5
        have gX : Boxed (w4.alloc (recO (n : Nat) a b' (.slice o fs.length cap))) (w.heap.size + 1) 35 (.slice ov acc.length cv) := hI4.lc.alloc _
        obtain ⟨hv1, hv2, hr2, hm2⟩ := appended_plain gX (by decide) hI5.row hown' hgrow
        have hfo := own_below ho (b24.trans (b45.mono b24.size))
        have hS : ∀ k, (k = w.heap.size + 1 ∨ ∃ u, Boxed (w4.alloc (recO (n : Nat) a b' (.slice o fs.length cap))) (w.heap.size + 1) 35 u ∧ u.ownBlock = some k) → k = w.heap.size + 1 ∨ (w.heap.size + 4 ≤ k ∧ k < W1.heap.size ∧ ¬ X k ∧ ∃ c fr, (w4.alloc (recO (n : Nat) a b' (.slice o fs.length cap))).heap[k]? = some (.cells c 31 fr)) := by
          rintro k (h | ⟨u, hu, hk⟩)
          · exact .inl h
          · obtain rfl := boxed_unique gX hu
            have h1 := own_block_lt HIR.out.row hk
            have h2 := own_block_lt hI5.row hk
            exact .inr ⟨h1.1, h1.2.1, HIR.out.notX k hk, h2.2.2⟩
        have hfk : ∀ k, (Value.slice o fs.length cap).ownBlock = some k → ¬ X k ∧ ¬ (k = w.heap.size + 1 ∨ ∃ u, Boxed (w4.alloc (recO (n : Nat) a b' (.slice o fs.length cap))) (w.heap.size + 1) 35 u ∧ u.ownBlock = some k) := by
          intro k hk
          have h1 := own_block_lt hfo hk
          refine ⟨fun h => by have := HXB.out k h; omega, fun h => ?_⟩
          rcases hS k h with h | ⟨_, h, _, _⟩ <;> omega
        have HR : Hid (seqEndX (fun k => k = w.heap.size + 1 + 1 + 1) X (fun X pre W => ∃ acc v cs, RecsInv w s b X pre W acc v cs) (fun c X pre W => c = .exit 0 ∧ ∃ n e, RecsOut w X pre W n e) (pre ++ [(x, n)]) W1 .normal ({ tmps := #[], defers := [] } : Act) (w6.setCell ⟨w.heap.size + 1, 0, none⟩ (.slice (some ⟨g', 0, none⟩) (acc.length + 1) cap'))) := by
          refine Lib.hid ⟨(Moves.of_below b5).trans (hm2.mono fun k h => ?_), acc ++ [(n, a, b', fs)], _, _, { far := hI5.far, below := Moves.below hI5.below hI5.below.size hm2 (fun k h => ?_), size := by have := hm2.size; have := hI5.size; omega, rd := row_keep hI5.rd hm2 (fun h => ?_), lc := hv2, fc := row_keep hI5.fc hm2 (fun h => ?_), so := recsP_good HSO.out hl (by omega), few := by simp; omega, row := by rw [show (acc ++ [(n, a, b', fs)]).length = acc.length + 1 from by simp]; exact hr2, notX := fun k hk => ?_, own := ?_ }⟩
          · rcases hS k h with h | ⟨h4, h5, h6, _⟩
            · exact HNB.out k (by omega)
            · exact ⟨h6, fun e => by omega⟩
          · rcases hS k h with h | ⟨h4, _⟩ <;> omega
          · rcases hS _ h with h | ⟨h4, _⟩ <;> omega
          · rcases hS _ h with h | ⟨h4, _⟩ <;> omega
          · rcases hat k hk with h | h
            · exact HIR.out.notX k h
            · intro hx; have := HXB.out k hx; have := b4.size; omega
          · refine RecsOwn.snoc (own_base (own_moves1 hfo hm2 fun k hk => (hfk k hk).2) (by omega)) (fun k hk => (hfk k hk).1) (RecsOwn.moves hm2 (Nat.le_refl _) (fun k h4 h5 hc hk => ⟨fun h => ?_, hk⟩) hI5.own)
            obtain ⟨c, fr, hc⟩ := hc
            rcases hS k h with h | ⟨_, _, _, c', fr', hc'⟩
            · omega
            · rw [hc] at hc'
              simp at hc'
        have hc1 := hv1.cell
        have hf1 := hv1.frozen
        have cl4 := hI4.lc.cell
        obtain ⟨k0, k1, k2, k3, k4⟩ := rec_cells r4
        obtain ⟨j0, j1, j2, j3, j4⟩ := rec_cells r3
        have hne : ¬ w.heap.size + 1 = W2.heap.size := by omega
        have hfol : Tryz.prog.follows .mixedOrders = true := by kernel_rfl
        have hsz4 : w4.heap.size = w3.heap.size := by rw [← hw4]; simp
        rw [hsz4, ← hw4] at hrun
        have hb3 : (((acc.length : Nat) : Int) == 300) = false := by simp; omega
        clear hsz4
        clear hw3 hn2 b3 b23 r3 hI3 b2 hl hm4 ho3 ho b4 b24 hI4 hown' hgrow hat b45 b5 hI5 gX hv1 hv2 hr2 hm2 hfo hS hfk r4 hw4
        gi_wp2_with (refine wpListIn_store_row rfl 31 (.tmp 8) (.tmp 26) rfl W2.heap.size (recC 0 (a : Nat) (b' : Nat) (.slice o fs.length cap)) rfl rfl 31 _ HN2.out (by kernel_rfl) rfl (by simp [Value.oneCell']) HW3.out ?_)
        exact HR.out
      · have h300 : acc.length = 300 := by have := hI3.few; omega
        have hm4 : Moves (fun k => k = w.heap.size + 1 ∨ k = w.heap.size + 2) w3 ((w3.setCell ⟨w.heap.size + 1, 0, none⟩ (.slice none 0 0)).setCell ⟨w.heap.size + 1 + 1, 0, none⟩ (errRV (.line n 24))) := (Moves.setCell (.inl rfl)).trans (Moves.setCell (.inr rfl))
        have HR : Hid (seqEndX (fun k => k = w.heap.size + 1 + 1 + 1) X (fun X pre W => ∃ acc v cs, RecsInv w s b X pre W acc v cs) (fun c X pre W => c = .exit 0 ∧ ∃ n e, RecsOut w X pre W n e) (pre ++ [(x, n)]) W1 (.exit 0) ({ tmps := #[], defers := [] } : Act) ((w3.setCell ⟨w.heap.size + 1, 0, none⟩ (.slice none 0 0)).setCell ⟨w.heap.size + 1 + 1, 0, none⟩ (errRV (.line n 24)))) := by
          refine Lib.hid ⟨(Moves.of_below b3).trans (hm4.mono fun k h => HNB.out k (by omega)), rfl, n, 24, { far := hI3.far, below := Moves.below hI3.below hI3.below.size hm4 (fun k h => by omega), size := by have := hm4.size; have := hI3.size; omega, lc := ?_, fc := ?_, so := recsP_full hI3.so hl h300 }⟩
          · exact row_keep (hI3.lc.set _) (Moves.setCell (S := fun k => k = w.heap.size + 2) rfl) (by omega)
          · exact (show Boxed (w3.setCell ⟨w.heap.size + 1, 0, none⟩ (.slice none 0 0)) (w.heap.size + 2) 51 .nilIface from row_keep hI3.fc (Moves.setCell (S := fun k => k = w.heap.size + 1) (w := w3) (a := ⟨w.heap.size + 1, 0, none⟩) (v := .slice none 0 0) rfl) (by omega)).set _
        rw [h300] at cl
        clear hw3 hn2 b3 b23 r3 hI3 b2 hl hm4 ho3 ho
        gi_wp2_with (refine wpListIn_store_row rfl 31 (.tmp 8) (.tmp 26) rfl W2.heap.size (recC 0 (a : Nat) (b' : Nat) (.slice o fs.length cap)) rfl rfl 31 _ HN2.out (by kernel_rfl) rfl (by simp [Value.oneCell']) HW3.out ?_)
        exact HR.out
  case done =>
    have hfol : Tryz.prog.follows .mixedOrders = true := by kernel_rfl
    rintro X D W hD hXD ⟨acc, v, cs, hI⟩ hX hK
    have hm : Moves (fun k => k = D) W (W.drew.putObj D (.deferred none)) := (Moves.refl _ _).drew.trans (Moves.putObj rfl)
    have hpost : P (.returned (.tuple #[v, .nilIface])) (W.drew.putObj D (.deferred none)) := by
      rw [← HP.out, hI.so]
      refine ⟨v, cs, rfl, own_base (own_moves1 hI.row hm fun k hk e => ?_) (by omega), RecsOwn.moves hm (by omega) (fun k _ _ hc _ => ⟨fun e => ?_, trivial⟩) hI.own, Moves.below hI.below hI.below.size hm (fun k e => by omega)⟩
      · obtain ⟨_, _, c, fr, h⟩ := own_block_lt hI.row hk
        rw [e, hK] at h
        cases h
      · obtain ⟨c, fr, h⟩ := hc
        rw [e, hK] at h
        cases h
    have HPP := Lib.hid hpost
    have hcl := hI.lc.cell
    have hcf : W.cell? ⟨w.heap.size + 1 + 1, 0, none⟩ = some .nilIface := hI.fc.cell
    have hK' : W.drew.heap[D]? = some (.deferred (some [])) := hK
    obtain ⟨o, cap, rfl⟩ := own_form hI.row
    clear hI hpost hm hX
    gi_wp2
    gi_region
    all_goals
      gi_wp2
      rw [Exit.noGoto_ret]
      refine ⟨by simp, .inl ⟨_, _, rfl, run_takeDeferred hK', ?_⟩⟩
      exact ⟨_, results_tmp2 (t := 2) (u := 3) rfl _ _ _, HPP.out⟩
  case stop =>
    have hfol : Tryz.prog.follows .mixedOrders = true := by kernel_rfl
    rintro X D c pre W hD hXD hpre ⟨rfl, n, e, hO⟩ hX hK
    have hm : Moves (fun k => k = D) W (W.drew.putObj D (.deferred none)) := (Moves.refl _ _).drew.trans (Moves.putObj rfl)
    have hpost : P (.returned (.tuple #[.slice none 0 0, errRV (.line n e)])) (W.drew.putObj D (.deferred none)) := by
      rw [← HP.out, recsP_pre hpre hO.so]
      exact ⟨_, [], rfl, World.ownsRow_nil _ _ _ _, rfl, Moves.below hO.below hO.below.size hm (fun k e => by omega)⟩
    have HPP := Lib.hid hpost
    have hcl := hO.lc.cell
    have hcf : W.cell? ⟨w.heap.size + 1 + 1, 0, none⟩ = some (errRV (.line n e)) := hO.fc.cell
    have hK' : W.drew.heap[D]? = some (.deferred (some [])) := hK
    obtain ⟨V, hV⟩ : ∃ V, errRV (.line n e) = V := ⟨_, rfl⟩
    rw [hV] at hcf HPP
    clear hO hpost hm hX
    gi_wp2
    gi_region
    all_goals
      gi_wp2
      rw [Exit.noGoto_ret]
      refine ⟨by simp, .inl ⟨_, _, rfl, run_takeDeferred hK', ?_⟩⟩
      exact ⟨_, results_tmp2 (t := 2) (u := 3) rfl _ _ _, HPP.out⟩
theorem records_any (s : ByteArray) (b : Nat) (w : World) {m : Int} (hG : FGlob w m) (hD : Digits w b) (hs : s.size ≤ 1000000) :
    Calls Tryz.prog 36 #[.agg (readC s b)] w (RecsPost (parseL s.data.toList) w) := by
  have hl : s.data.toList.length = s.size := by simp
  unfold parseL
  rcases Nat.lt_or_ge 20000 s.size with h | h
  · rw [if_pos (by omega)]
    exact records_many s b w h hs
  · rw [if_neg (by omega)]
    exact records_go s b w hG hD h
end Go.Proofs.YtapbedefahbilaaGreatDoor
