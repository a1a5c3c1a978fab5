/- records: the records of a file, or what is wrong with it. Parse. codes: the numbers of codes with blanks between. Plain laws of lines: parts of joined texts, codes, remarks, files one below the other. -/
import Derived.Test.YtfgnpdfdncnbfaaGreatDoorBunF10
import Derived.Maps.AppendAt
import Derived.Test.YtfgnpdfdncnbfaaGreatDoorBunF3
import Derived.Test.YtfgnpdfdncnbfaaGreatDoorBunA6
namespace Go.Proofs.YtfgnpdfdncnbfaaGreatDoor
open Go.RowKit Go.Shelf Go.Maps
attribute [local go_sem] Oper.semAt_some
attribute [local go_sem ↓] app_hide

theorem wpListIn_store_row {P : Program} {F : Fence} {n' : Nat} {ops : Array Oper} {rest : List Oper} {o : Oper} {a : Act} {w : World} {Q : Exit → Act → World → Prop} (hgd : o.guard = none) (ty : TypeId) (x y : Operand) (ho : o.op = .store ty x y)
    (g : Nat) (cells : Array Value) (hx : a.eval x = .pointer (some ⟨g, 0, none⟩)) (hy : a.eval y = .agg cells)
    (t : TypeId) (old : Array Value) (hg : w.heap[g]? = some (.cells old t (0, 0))) (hi : (P.info? ty).map (·.size) = some cells.size)
    (hold : old.size = cells.size) (h1 : cells.all (·.oneCell') = true) {w3 : World} (hw : w.setRow g cells = w3)
    (h : wpListIn F n' P ops Q rest (a.put o.dst undef) w3) : wpListIn F n' P ops Q (o :: rest) a w := by
  subst hw
  refine wpListIn_plain hgd fun K hK => ?_
  unfold Oper.wpIn
  refine ⟨?_, ?_⟩
  · simp [Oper.about, ho]
  · rw [Oper.semAt_plain F _ _ (by rw [ho]; intro c hc'; cases hc')]
    unfold execOp
    simp only [ho, hx, hy, Instr.storeAt, Instr.sureAddr, Sem.run_bind, Sem.run_pure, Result.andThen_ok, run_storeVar_row w g t ty old cells hg hi hold h1]
    exact hK _ _ h
theorem infoRec : (Tryz.prog.info? 47).map (fun i => (i.zero, i.size, i.bytes)) = some (some (recV 0 0 0 (.slice none 0 0)), 4, 48) := by kernel_rfl
theorem rec_own {W : World} {base k : Nat} {v : Value} {xs : List Value} {n a b : Int} {fv : Value} (hf : fv.oneCell' = true) (ho : W.ownsRow base 47 4 v k xs) (hk : k ≤ 1000) (hbase : base ≤ W.heap.size) :
    ∃ g cap w6, (appSem #[43, 43] 43 #[v, .slice (some ⟨W.heap.size, 0, none⟩) 1 1]).run Tryz.prog (W.alloc (recO n a b fv)) = .ok (.slice (some ⟨g, 0, none⟩) (k + 1) cap) w6 ∧
      w6.ownsRow base 47 4 (.slice (some ⟨g, 0, none⟩) (k + 1) cap) (k + 1) (xs ++ [.int .i64 n, .int .i64 a, .int .i64 b, fv]) ∧ (W.alloc (recO n a b fv)).grownBy w6 v.ownBlock ∧ (∀ j, (Value.slice (some ⟨g, 0, none⟩) (k + 1) cap).ownBlock = some j → v.ownBlock = some j ∨ j = W.heap.size + 1) := by
  obtain ⟨i0, hi, hz0, hz1, hz2⟩ := info_parts infoRec
  have hb : Below W.heap.size W (W.alloc (recO n a b fv)) := (Below.refl _ _).alloc (Nat.le_refl _) _
  obtain ⟨c0, c1, c2, c3, _⟩ := rec_cells (heap_alloc_new W (recO n a b fv))
  obtain ⟨v', w6, hr, h2, h3, h4, h5⟩ := run_append_own_at (P := Tryz.prog) _ base 43 43 47 i0 (recV 0 0 0 (.slice none 0 0)) 4 48 Tryz.underlying43 hi hz0 hz1 hz2 rfl (by decide) v k xs (own_below ho hb) ⟨W.heap.size, 0, none⟩ 1 1 [.int .i64 n, .int .i64 a, .int .i64 b, fv] rfl
    (fun j u hj => by
      match j, hj with
      | 0, hj => cases hj; exact c0
      | 1, hj => cases hj; exact c1
      | 2, hj => cases hj; exact c2
      | 3, hj => cases hj; exact c3) (fun u hu => by
      simp only [List.mem_cons, List.not_mem_nil, or_false] at hu
      rcases hu with rfl | rfl | rfl | rfl <;> first | rfl | exact hf) (by unfold maxLen; omega) (by omega) (by simp; omega)
  obtain ⟨g, cap, rfl⟩ := ownsRow_succ h2
  exact ⟨g, cap, w6, hr, h2, h3, fun j hj => h5.imp (fun h => h.symm.trans hj) (fun h => by rw [h] at hj; cases hj; simp)⟩

/-- What holds between two rounds. -/
structure RecsInv (w : World) (s : ByteArray) (b : Nat) (X : Nat → Prop) (pre : List (List UInt8 × Nat)) (W : World) (acc : List RecD) (v : Value) (cs : List Value) : Prop where
  far : ∀ k, X k → w.heap.size + 4 ≤ k
  below : Below w.heap.size w W
  size : w.heap.size + 4 ≤ W.heap.size
  rd : W.heap[w.heap.size]? = some (.cells (readC s b) 175 (0, 0))
  lc : Boxed W (w.heap.size + 1) 43 v
  fc : Boxed W (w.heap.size + 2) 55 .nilIface
  so : recsP pre [] = (acc, .none)
  few : acc.length ≤ 300
  row : W.ownsRow (w.heap.size + 4) 47 4 v acc.length cs
  notX : ∀ k, v.ownBlock = some k → ¬ X k
  own : RecsOwn W (w.heap.size + 4) (fun k => ¬ X k) acc cs
structure RecsOut (w : World) (X : Nat → Prop) (pre : List (List UInt8 × Nat)) (W : World) (n e : Nat) : Prop where
  far : ∀ k, X k → w.heap.size + 4 ≤ k
  below : Below w.heap.size w W
  size : w.heap.size + 4 ≤ W.heap.size
  lc : Boxed W (w.heap.size + 1) 43 (.slice none 0 0)
  fc : Boxed W (w.heap.size + 2) 55 (errRV (.line n e))
  so : recsP pre [] = ([], .line n e)
theorem RecsInv.moves {w : World} {s : ByteArray} {b : Nat} {X X' : Nat → Prop} {pre : List (List UInt8 × Nat)} {A B : World} {acc : List RecD} {v : Value} {cs : List Value} (h : RecsInv w s b X pre A acc v cs) (hm : Moves X A B) (hX : ∀ k, X' k → (X k ∨ A.heap.size ≤ k) ∧ k < B.heap.size) : RecsInv w s b X' pre B acc v cs := by
  have hf := h.far
  have hz := h.size
  have nx : ∀ j, j < w.heap.size + 4 → ¬ X j := fun j hj hx => by have := hf j hx; omega
  refine ⟨?_, Moves.below h.below h.below.size hm (fun k hk => by have := hf k hk; omega), by have := hm.size; omega, row_keep h.rd hm (nx _ (by omega)), row_keep h.lc hm (nx _ (by omega)), row_keep h.fc hm (nx _ (by omega)), h.so, h.few, own_moves1 h.row hm h.notX, ?_, ?_⟩
  · intro k hk
    rcases (hX k hk).1 with h1 | h1
    · exact hf k h1
    · omega
  · intro k hk hx
    rcases (hX k hx).1 with h1 | h1
    · exact h.notX k hk h1
    · have := own_block_lt h.row hk; omega
  · refine RecsOwn.moves hm (Nat.le_refl _) (fun k h1 h2 _ hk => ⟨hk, fun hx => ?_⟩) h.own
    rcases (hX k hx).1 with h3 | h3
    · exact hk h3
    · omega
theorem RecsOut.moves {w : World} {X X' : Nat → Prop} {pre : List (List UInt8 × Nat)} {A B : World} {n e : Nat} (h : RecsOut w X pre A n e) (hm : Moves X A B) (hX : ∀ k, X' k → (X k ∨ A.heap.size ≤ k) ∧ k < B.heap.size) : RecsOut w X' pre B n e := by
  have hf := h.far
  have hz := h.size
  have nx : ∀ j, j < w.heap.size + 4 → ¬ X j := fun j hj hx => by have := hf j hx; omega
  refine ⟨?_, Moves.below h.below h.below.size hm (fun k hk => by have := hf k hk; omega), by have := hm.size; omega, row_keep h.lc hm (nx _ (by omega)), row_keep h.fc hm (nx _ (by omega)), h.so⟩
  intro k hk
  rcases (hX k hk).1 with h1 | h1
  · exact hf k h1
  · omega

set_option maxRecDepth 100000 in
set_option maxHeartbeats 2000000 in
theorem records_many (s : ByteArray) (b : Nat) (w : World) (h2 : 20000 < s.size) (hs : s.size ≤ 1000000) :
    Calls Tryz.prog 106 #[.agg (readC s b)] w (RecsPost ([], .file 20) w) := by
  have hd : decide ((20000 : Int) < ((s.size : Nat) : Int)) = true := decide_eq_true (by omega)
  refine (callsIn_wide (n := 6)).1 ?_
  have h1 : 1 ≤ 6 := by omega
  refine callsIn_of_wp_marks Tryz.func106 rfl trivial ?_ rfl
  simp only [Tryz.ntmps106, List.size_toArray, List.length_cons, List.length_nil, Nat.reduceAdd, Nat.reduceSub, Array.replicate_succ, Array.replicate_zero, List.push_toArray, List.append_toArray, List.nil_append, List.cons_append]
  gi_wp2_with fail
  refine wpIn_wide.2 (wp_scope_straight ((wpIn_wide (n := 6)).1 ?_))
  gi_wp2
  refine ⟨_, results_tmp2 (t := 2) (u := 3) rfl _ _ _, _, _, rfl, World.ownsRow_nil _ _ _ _, rfl, ?_⟩
  exact (((Below.refl _ _).alloc (Nat.le_refl _) _).alloc (by simp) _).alloc (by simp; omega) _
/-- The record laid in its own place. -/
theorem rec_laid {W1 W2 : World} {a b : Int} {fv : Value} (b2 : Below W1.heap.size W1 W2) : ∃ w3, (W2.alloc (recO 0 0 0 (.slice none 0 0))).setRow W2.heap.size (recC 0 a b fv) = w3 ∧ (W2.alloc (recO 0 0 0 (.slice none 0 0))).heap[W2.heap.size]? = some (recO 0 0 0 (.slice none 0 0)) ∧
    Below W1.heap.size W1 w3 ∧ Below W2.heap.size W2 w3 ∧ w3.heap[W2.heap.size]? = some (recO 0 a b fv) := by
  have h : Below W2.heap.size W2 ((W2.alloc (recO 0 0 0 (.slice none 0 0))).setRow W2.heap.size (recC 0 a b fv)) := below_setRow ((Below.refl _ _).alloc (Nat.le_refl _) _) (Nat.le_refl _) _
  exact ⟨_, rfl, heap_alloc_new _ _, b2.trans (h.mono b2.size), h, setRow_heap _ _ _ _ _ _ (heap_alloc_new _ _)⟩
theorem num_mem {l x : List UInt8} {n : Nat} (h : (x, n) ∈ numL l) : x.length ≤ l.length := by
  have h2 : x ∈ (numL l).map Prod.fst := List.mem_map_of_mem (f := Prod.fst) h
  unfold numL at h2
  rw [List.zipIdx_map_fst] at h2
  exact splitL_mem 10 l x h2

set_option maxRecDepth 100000 in
set_option maxHeartbeats 4000000 in
theorem records_go (s : ByteArray) (b : Nat) (w : World) {m : Int} (hG : FGlob w m) (hD : Digits w b) (h2 : s.size ≤ 20000) :
    Calls Tryz.prog 106 #[.agg (readC s b)] w (RecsPost (recsP (numL s.data.toList) []) w) := by
  have hd : decide ((20000 : Int) < ((s.size : Nat) : Int)) = false := decide_eq_false (by omega)
  refine (callsIn_wide (n := 6)).1 ?_
  have h1 : 1 ≤ 6 := by omega
  refine callsIn_of_wp_marks Tryz.func106 rfl trivial ?_ rfl
  simp only [Tryz.ntmps106, List.size_toArray, List.length_cons, List.length_nil, Nat.reduceAdd, Nat.reduceSub, Array.replicate_succ, Array.replicate_zero, List.push_toArray, List.append_toArray, List.nil_append, List.cons_append]
  obtain ⟨P, hP⟩ : ∃ P, RecsPost (recsP (numL s.data.toList) []) w = P := ⟨_, rfl⟩
  have HP := Lib.hid hP
  rw [hP]
  clear hP
  have HG := Lib.hid hG
  have HD := Lib.hid hD
  clear hG hD
  gi_wp2_with fail
  refine wpIn_wide.2 (wp_scope_straight ((wpIn_wide (n := 6)).1 ?_))
  gi_wp2_with fail
  refine wpIn_label ?_
  gi_wp2_with fail
  refine ⟨trivial, (callsIn_wide.2 (lines_any s b _)).mono ?_⟩
  rintro e w2 ⟨rfl, hw2⟩
  simp only [World.size_alloc] at hw2 ⊢
  have BW : Below w.heap.size w w2 := by rw [← hw2]; exact ((((Below.refl _ _).alloc (Nat.le_refl _) _).alloc (by simp) _).alloc (by simp; omega) _).alloc (by simp; omega) _
  have z2 : w2.heap.size = w.heap.size + 4 := by rw [← hw2]; simp
  have L2 : Boxed w2 (w.heap.size + 1) 43 (.slice none 0 0) := by
    rw [← hw2]
    have := Boxed.new (w.alloc (.cells (readC s b) 175)) 43 (.slice none 0 0)
    rw [World.size_alloc] at this
    exact (this.alloc _).alloc _
  have F2 : Boxed w2 (w.heap.size + 2) 55 .nilIface := by
    rw [← hw2]
    have := Boxed.new ((w.alloc (.cells (readC s b) 175)).alloc (.cells #[.slice none 0 0] 43)) 55 .nilIface
    rw [World.size_alloc, World.size_alloc] at this
    exact this.alloc _
  have r2 : w2.heap[w.heap.size]? = some (.cells (readC s b) 175 (0, 0)) := by
    rw [← hw2, Below.heap_alloc _ _ _ (by simp; omega), Below.heap_alloc _ _ _ (by simp; omega), Below.heap_alloc _ _ _ (by simp)]
    exact heap_alloc_new _ _
  have hb : w2.heap[w.heap.size + 1 + 1 + 1]? = some (.cells (readC s b) 175 (0, 0)) := by
    rw [← hw2]
    have := heap_alloc_new (((w.alloc (.cells (readC s b) 175)).alloc (.cells #[.slice none 0 0] 43)).alloc (.cells #[.nilIface] 55)) (.cells (readC s b) 175)
    simpa using this
  clear hw2
  gi_wp2_with fail
  refine wpIn_seqX (n := 6) (Ow := fun _ => False) (Dep := fun k => k = w.heap.size + 1 + 1 + 1) (encs := encN) (all := numL s.data.toList) (by omega) rfl (enters_of Tryz.func140 (by kernel_rfl) rfl) (fun x => rfl) (seqLines (by omega) hb)
    (fun k h => h.elim) (fun k h => by omega)
    (fun X pre W => ∃ acc v cs, RecsInv w s b X pre W acc v cs) (fun c X pre W => c = .exit 0 ∧ ∃ n e, RecsOut w X pre W n e) ?hI ?hIx ?h0
    (fun _ x => { tmps := #[.agg (readC s b), .pointer (some ⟨w.heap.size, 0, none⟩), .slice none 0 0, .nilIface, .pointer (some ⟨w.heap.size + 1, 0, none⟩), .pointer (some ⟨w.heap.size + 1 + 1, 0, none⟩), .int .i64 (x.2 : Nat), strV x.1, undef, undef, undef, .pointer (some ⟨w.heap.size, 0, none⟩), .pointer (some ⟨w.heap.size, 0, none⟩), .string s, .int .i64 (s.size : Nat), .bool false, undef, .agg (readC s b), .func (.func 140) #[] #[.pointer (some ⟨w.heap.size + 1 + 1 + 1, 0, none⟩)], .int .i64 (x.2 : Nat), strV x.1, undef, undef, undef, undef, undef, undef, undef, undef, undef, undef, undef, undef, undef, undef, undef, undef, undef, undef, undef, undef, undef, undef, undef, undef, undef, undef, undef, undef, undef, undef, undef, undef, undef, undef], defers := [] })
    (fun A _ B => A = B) (fun A x B h => by rw [h]; exact Moves.refl _ _) ?assign ?body ?done ?stop
  case hI =>
    rintro X X' xs A B ⟨acc, v, cs, h⟩ hm hX
    exact ⟨acc, v, cs, h.moves hm hX⟩
  case hIx =>
    rintro c X X' xs A B ⟨rfl, n, e, h⟩ hm hX
    exact ⟨rfl, n, e, h.moves hm hX⟩
  case h0 => exact ⟨[], _, [], { far := fun k h => h.elim, below := BW, size := by omega, rd := r2, lc := L2, fc := F2, so := rfl, few := by simp, row := World.ownsRow_nil _ _ _ _, notX := fun k h => by simp [Value.ownBlock] at h, own := rfl }⟩
  case assign =>
    rintro l x A K hK
    gi_wp2
    rfl
  case body =>
    rintro l X pre ⟨x, n⟩ A A' W1 hA hpx hAB hm hXn hXn1 hXlt ⟨acc, v, cs, hI⟩
    obtain ⟨c0, c1⟩ := row_cells hI.rd
    have hz := hI.size
    have hXb : ∀ k, X k → k < W1.heap.size := fun k h => by have h1 := hXlt k h; have h2 := hm.size; rw [← hAB] at h2; omega
    have hxm : (x, n) ∈ numL s.data.toList := hpx.subset (List.mem_append_right _ (List.mem_singleton.2 rfl))
    have hxl := num_mem hxm
    have hsl : s.data.toList.length = s.size := by simp
    obtain ⟨q, hq⟩ : ∃ q : ByteArray, (⟨x.toArray⟩ : ByteArray) = q := ⟨_, rfl⟩
    have hsv : strV x = .string q := by rw [← hq]
    have hqx : q.data.toList = x := by rw [← hq]
    have hqs : q.size ≤ 1000000 := by
      have h5 : q.data.toList.length = q.size := by simp
      rw [hqx] at h5
      omega
    show Code.wpIn _ _ _ _ _ { tmps := _, defers := _ } _
    rw [hsv]
    have hG1 := HG.out.below hI.below
    have hD1 := HD.out.below hI.below
    have nB : ∀ k, k < w.heap.size + 3 → ¬ X k ∧ ¬ k = w.heap.size + 1 + 1 + 1 := fun k hk => ⟨fun h => by have := hI.far k h; omega, by omega⟩
    have keepX : ∀ V : World, Below W1.heap.size W1 V → RecsInv w s b X pre V acc v cs := fun V hb => hI.moves (Moves.of_below hb) (fun k h => ⟨.inl h, by have := hXb k h; have := hb.size; omega⟩)
    have HK := Lib.hid keepX
    have HNB := Lib.hid nB
    have HXB := Lib.hid hXb
    have HREC := Lib.hid (record_any b q W1 hG1 hD1 hqs)
    have HSO := Lib.hid hI.so
    have HQX := Lib.hid hqx
    have HIR := Lib.hid hI
    clear hq hsv hqs hxl hsl hxm hm hpx hXlt keepX nB hXb hG1 hD1 hqx hI
    gi_wp2_with fail
    refine ⟨trivial, CallsIn.inRound l ((callsIn_wide.2 HREC.out).mono ?_)⟩
    rintro e W2 hrec
    rw [HQX.out] at hrec
    cases hl : lineL x with
    | nothing =>
      rw [hl] at hrec
      obtain ⟨rfl, b2⟩ := hrec
      obtain ⟨w3, hw3, hn2, b3, b23, r3⟩ := rec_laid (a := 0) (b := 0) (fv := .slice none 0 0) b2
      have hI3 := HK.out _ b3
      have HR : Hid (seqEndX (fun k => k = w.heap.size + 1 + 1 + 1) X (fun X pre W => ∃ acc v cs, RecsInv w s b X pre W acc v cs) (fun c X pre W => c = .exit 0 ∧ ∃ n e, RecsOut w X pre W n e) (pre ++ [(x, n)]) W1 .normal ({ tmps := #[], defers := [] } : Act) w3) := Lib.hid ⟨Moves.of_below b3, acc, v, cs, { hI3 with so := recsP_skip hI3.so hl }⟩
      have HW3 := Lib.hid hw3
      have HN2 := Lib.hid hn2
      clear hw3 hn2 b3 b23 r3 hI3 b2 hl
      gi_wp2_with (refine wpListIn_store_row rfl 47 (.tmp 8) (.tmp 26) rfl W2.heap.size (recC 0 0 0 (.slice none 0 0)) rfl rfl 47 _ HN2.out (by kernel_rfl) rfl (by simp [Value.oneCell']) HW3.out ?_)
      exact HR.out
    | bad e =>
      rw [hl] at hrec
      obtain ⟨rfl, b2⟩ := hrec
      obtain ⟨w3, hw3, hn2, b3, b23, r3⟩ := rec_laid (a := 0) (b := 0) (fv := .slice none 0 0) b2
      have hI3 := HK.out _ b3
      have fl := hI3.lc.frozen
      have ff : w3.frozen? ⟨w.heap.size + 1 + 1, 0, none⟩ = false := hI3.fc.frozen
      have lt3 := hI3.fc.lt
      have cl := hI3.lc.cell
      have cf : w3.cell? ⟨w.heap.size + 1 + 1, 0, none⟩ = some .nilIface := hI3.fc.cell
      have hm4 : Moves (fun k => k = w.heap.size + 1 ∨ k = w.heap.size + 2) w3 ((w3.setCell ⟨w.heap.size + 1, 0, none⟩ (.slice none 0 0)).setCell ⟨w.heap.size + 1 + 1, 0, none⟩ (errRV (.line n e))) := (Moves.setCell (.inl rfl)).trans (Moves.setCell (.inr rfl))
      have HR : Hid (seqEndX (fun k => k = w.heap.size + 1 + 1 + 1) X (fun X pre W => ∃ acc v cs, RecsInv w s b X pre W acc v cs) (fun c X pre W => c = .exit 0 ∧ ∃ n e, RecsOut w X pre W n e) (pre ++ [(x, n)]) W1 (.exit 0) ({ tmps := #[], defers := [] } : Act) ((w3.setCell ⟨w.heap.size + 1, 0, none⟩ (.slice none 0 0)).setCell ⟨w.heap.size + 1 + 1, 0, none⟩ (errRV (.line n e)))) := by
        refine Lib.hid ⟨(Moves.of_below b3).trans (hm4.mono fun k h => HNB.out k (by omega)), rfl, n, e, { far := hI3.far, below := Moves.below hI3.below hI3.below.size hm4 (fun k h => by omega), size := by have := hm4.size; have := hI3.size; omega, lc := ?_, fc := ?_, so := recsP_bad hI3.so hl }⟩
        · exact row_keep (hI3.lc.set _) (Moves.setCell (S := fun k => k = w.heap.size + 2) rfl) (by omega)
        · exact (show Boxed (w3.setCell ⟨w.heap.size + 1, 0, none⟩ (.slice none 0 0)) (w.heap.size + 2) 55 .nilIface from row_keep hI3.fc (Moves.setCell (S := fun k => k = w.heap.size + 1) (w := w3) (a := ⟨w.heap.size + 1, 0, none⟩) (v := .slice none 0 0) rfl) (by omega)).set _
      have HW3 := Lib.hid hw3
      have HN2 := Lib.hid hn2
      clear hw3 hn2 b3 b23 r3 hI3 b2 hl hm4
      gi_wp2_with (refine wpListIn_store_row rfl 47 (.tmp 8) (.tmp 26) rfl W2.heap.size (recC 0 0 0 (.slice none 0 0)) rfl rfl 47 _ HN2.out (by kernel_rfl) rfl (by simp [Value.oneCell']) HW3.out ?_)
      exact HR.out
    | good a b' fs =>
      rw [hl] at hrec
      obtain ⟨fv, rfl, ho, b2⟩ := hrec
      obtain ⟨o, cap, rfl⟩ := own_form ho
      obtain ⟨w3, hw3, hn2, b3, b23, r3⟩ := rec_laid (a := (a : Nat)) (b := (b' : Nat)) (fv := .slice o fs.length cap) b2
      have hI3 := HK.out _ b3
      have fl := hI3.lc.frozen
      have ff : w3.frozen? ⟨w.heap.size + 1 + 1, 0, none⟩ = false := hI3.fc.frozen
      have lt3 := hI3.fc.lt
      have cl := hI3.lc.cell
      have cf : w3.cell? ⟨w.heap.size + 1 + 1, 0, none⟩ = some .nilIface := hI3.fc.cell
      have ho3 := own_below ho b23
      have HW3 := Lib.hid hw3
      have HN2 := Lib.hid hn2
      obtain ⟨ov, cv, rfl⟩ := own_form HIR.out.row
      rcases Nat.lt_or_ge acc.length 300 with h3 | h3
      · have hlt2 : w.heap.size + 4 ≤ W2.heap.size := by have := b2.size; have := HIR.out.size; omega
        have hz12 := b2.size
        have hm4 : Moves (fun k => k = W2.heap.size) w3 (w3.setCell ⟨W2.heap.size, 0, none⟩ (.int .i64 (n : Nat))) := Moves.setCell rfl
        obtain ⟨w4, hw4⟩ : ∃ w4, w3.setCell ⟨W2.heap.size, 0, none⟩ (.int .i64 (n : Nat)) = w4 := ⟨_, rfl⟩
        have r4 : w4.heap[W2.heap.size]? = some (recO (n : Nat) a b' (.slice o fs.length cap)) := by rw [← hw4]; exact set_heap _ r3
        rw [hw4] at hm4
        have b4 : Below W1.heap.size W1 w4 := Moves.below b3 b3.size hm4 (fun k h => by omega)
        have b24 : Below W2.heap.size W2 w4 := Moves.below b23 b23.size hm4 (fun k h => by omega)
        have hI4 := HK.out _ b4
        obtain ⟨g', cap', w6, hrun, hown', hgrow, hat⟩ := rec_own (n := (n : Nat)) (a := (a : Nat)) (b := (b' : Nat)) (fv := .slice o fs.length cap) rfl hI4.row (by omega) hI4.size
        have b45 : Below w4.heap.size w4 (w4.alloc (recO (n : Nat) a b' (.slice o fs.length cap))) := (Below.refl _ _).alloc (Nat.le_refl _) _
        have b5 := b4.trans (b45.mono b4.size)
        have hI5 := HK.out _ b5
        have gX : Boxed (w4.alloc (recO (n : Nat) a b' (.slice o fs.length cap))) (w.heap.size + 1) 43 (.slice ov acc.length cv) := hI4.lc.alloc _
        obtain ⟨hv1, hv2, hr2, hm2⟩ := appended_plain gX (by decide) hI5.row hown' hgrow
        have hfo := own_below ho (b24.trans (b45.mono b24.size))
        have hS : ∀ k, (k = w.heap.size + 1 ∨ ∃ u, Boxed (w4.alloc (recO (n : Nat) a b' (.slice o fs.length cap))) (w.heap.size + 1) 43 u ∧ u.ownBlock = some k) → k = w.heap.size + 1 ∨ (w.heap.size + 4 ≤ k ∧ k < W1.heap.size ∧ ¬ X k ∧ ∃ c fr, (w4.alloc (recO (n : Nat) a b' (.slice o fs.length cap))).heap[k]? = some (.cells c 47 fr)) := by
          rintro k (h | ⟨u, hu, hk⟩)
          · exact .inl h
          · obtain rfl := boxed_unique gX hu
            have h1 := own_block_lt HIR.out.row hk
            have h2 := own_block_lt hI5.row hk
            exact .inr ⟨h1.1, h1.2.1, HIR.out.notX k hk, h2.2.2⟩
        have hfk : ∀ k, (Value.slice o fs.length cap).ownBlock = some k → ¬ X k ∧ ¬ (k = w.heap.size + 1 ∨ ∃ u, Boxed (w4.alloc (recO (n : Nat) a b' (.slice o fs.length cap))) (w.heap.size + 1) 43 u ∧ u.ownBlock = some k) := by
          intro k hk
          have h1 := own_block_lt hfo hk
          refine ⟨fun h => by have := HXB.out k h; omega, fun h => ?_⟩
          rcases hS k h with h | ⟨_, h, _, _⟩ <;> omega
        have HR : Hid (seqEndX (fun k => k = w.heap.size + 1 + 1 + 1) X (fun X pre W => ∃ acc v cs, RecsInv w s b X pre W acc v cs) (fun c X pre W => c = .exit 0 ∧ ∃ n e, RecsOut w X pre W n e) (pre ++ [(x, n)]) W1 .normal ({ tmps := #[], defers := [] } : Act) (w6.setCell ⟨w.heap.size + 1, 0, none⟩ (.slice (some ⟨g', 0, none⟩) (acc.length + 1) cap'))) := by
          refine Lib.hid ⟨(Moves.of_below b5).trans (hm2.mono fun k h => ?_), acc ++ [(n, a, b', fs)], _, _, { far := hI5.far, below := Moves.below hI5.below hI5.below.size hm2 (fun k h => ?_), size := by have := hm2.size; have := hI5.size; omega, rd := row_keep hI5.rd hm2 (fun h => ?_), lc := hv2, fc := row_keep hI5.fc hm2 (fun h => ?_), so := recsP_good HSO.out hl (by omega), few := by simp; omega, row := by rw [show (acc ++ [(n, a, b', fs)]).length = acc.length + 1 from by simp]; exact hr2, notX := fun k hk => ?_, own := ?_ }⟩
          · rcases hS k h with h | ⟨h4, h5, h6, _⟩
            · exact HNB.out k (by omega)
            · exact ⟨h6, fun e => by omega⟩
          · rcases hS k h with h | ⟨h4, _⟩ <;> omega
          · rcases hS _ h with h | ⟨h4, _⟩ <;> omega
          · rcases hS _ h with h | ⟨h4, _⟩ <;> omega
          · rcases hat k hk with h | h
            · exact HIR.out.notX k h
            · intro hx; have := HXB.out k hx; have := b4.size; omega
          · refine RecsOwn.snoc (own_base (own_moves1 hfo hm2 fun k hk => (hfk k hk).2) (by omega)) (fun k hk => (hfk k hk).1) (RecsOwn.moves hm2 (Nat.le_refl _) (fun k h4 h5 hc hk => ⟨fun h => ?_, hk⟩) hI5.own)
            obtain ⟨c, fr, hc⟩ := hc
            rcases hS k h with h | ⟨_, _, _, c', fr', hc'⟩
            · omega
            · rw [hc] at hc'
              simp at hc'
        have hc1 := hv1.cell
        have hf1 := hv1.frozen
        have cl4 := hI4.lc.cell
        obtain ⟨k0, k1, k2, k3, k4⟩ := rec_cells r4
        obtain ⟨j0, j1, j2, j3, j4⟩ := rec_cells r3
        have hne : ¬ w.heap.size + 1 = W2.heap.size := by omega
        have hfol : Tryz.prog.follows .mixedOrders = true := by kernel_rfl
        have hsz4 : w4.heap.size = w3.heap.size := by rw [← hw4]; simp
        rw [hsz4, ← hw4] at hrun
        have hb3 : (((acc.length : Nat) : Int) == 300) = false := by simp; omega
        clear hsz4
        clear hw3 hn2 b3 b23 r3 hI3 b2 hl hm4 ho3 ho b4 b24 hI4 hown' hgrow hat b45 b5 hI5 gX hv1 hv2 hr2 hm2 hfo hS hfk r4 hw4
        gi_wp2_with (refine wpListIn_store_row rfl 47 (.tmp 8) (.tmp 26) rfl W2.heap.size (recC 0 (a : Nat) (b' : Nat) (.slice o fs.length cap)) rfl rfl 47 _ HN2.out (by kernel_rfl) rfl (by simp [Value.oneCell']) HW3.out ?_)
        exact HR.out
      · have h300 : acc.length = 300 := by have := hI3.few; omega
        have hm4 : Moves (fun k => k = w.heap.size + 1 ∨ k = w.heap.size + 2) w3 ((w3.setCell ⟨w.heap.size + 1, 0, none⟩ (.slice none 0 0)).setCell ⟨w.heap.size + 1 + 1, 0, none⟩ (errRV (.line n 24))) := (Moves.setCell (.inl rfl)).trans (Moves.setCell (.inr rfl))
        have HR : Hid (seqEndX (fun k => k = w.heap.size + 1 + 1 + 1) X (fun X pre W => ∃ acc v cs, RecsInv w s b X pre W acc v cs) (fun c X pre W => c = .exit 0 ∧ ∃ n e, RecsOut w X pre W n e) (pre ++ [(x, n)]) W1 (.exit 0) ({ tmps := #[], defers := [] } : Act) ((w3.setCell ⟨w.heap.size + 1, 0, none⟩ (.slice none 0 0)).setCell ⟨w.heap.size + 1 + 1, 0, none⟩ (errRV (.line n 24)))) := by
          refine Lib.hid ⟨(Moves.of_below b3).trans (hm4.mono fun k h => HNB.out k (by omega)), rfl, n, 24, { far := hI3.far, below := Moves.below hI3.below hI3.below.size hm4 (fun k h => by omega), size := by have := hm4.size; have := hI3.size; omega, lc := ?_, fc := ?_, so := recsP_full hI3.so hl h300 }⟩
          · exact row_keep (hI3.lc.set _) (Moves.setCell (S := fun k => k = w.heap.size + 2) rfl) (by omega)
          · exact (show Boxed (w3.setCell ⟨w.heap.size + 1, 0, none⟩ (.slice none 0 0)) (w.heap.size + 2) 55 .nilIface from row_keep hI3.fc (Moves.setCell (S := fun k => k = w.heap.size + 1) (w := w3) (a := ⟨w.heap.size + 1, 0, none⟩) (v := .slice none 0 0) rfl) (by omega)).set _
        rw [h300] at cl
        clear hw3 hn2 b3 b23 r3 hI3 b2 hl hm4 ho3 ho
        gi_wp2_with (refine wpListIn_store_row rfl 47 (.tmp 8) (.tmp 26) rfl W2.heap.size (recC 0 (a : Nat) (b' : Nat) (.slice o fs.length cap)) rfl rfl 47 _ HN2.out (by kernel_rfl) rfl (by simp [Value.oneCell']) HW3.out ?_)
        exact HR.out
  case done =>
    have hfol : Tryz.prog.follows .mixedOrders = true := by kernel_rfl
    rintro X D W hD hXD ⟨acc, v, cs, hI⟩ hX hK
    have hm : Moves (fun k => k = D) W (W.drew.putObj D (.deferred none)) := (Moves.refl _ _).drew.trans (Moves.putObj rfl)
    have hpost : P (.returned (.tuple #[v, .nilIface])) (W.drew.putObj D (.deferred none)) := by
      rw [← HP.out, hI.so]
      refine ⟨v, cs, rfl, own_base (own_moves1 hI.row hm fun k hk e => ?_) (by omega), RecsOwn.moves hm (by omega) (fun k _ _ hc _ => ⟨fun e => ?_, trivial⟩) hI.own, Moves.below hI.below hI.below.size hm (fun k e => by omega)⟩
      · obtain ⟨_, _, c, fr, h⟩ := own_block_lt hI.row hk
        rw [e, hK] at h
        cases h
      · obtain ⟨c, fr, h⟩ := hc
        rw [e, hK] at h
        cases h
    have HPP := Lib.hid hpost
    have hcl := hI.lc.cell
    have hcf : W.cell? ⟨w.heap.size + 1 + 1, 0, none⟩ = some .nilIface := hI.fc.cell
    have hK' : W.drew.heap[D]? = some (.deferred (some [])) := hK
    obtain ⟨o, cap, rfl⟩ := own_form hI.row
    clear hI hpost hm hX
    gi_wp2
    gi_region
    all_goals
      gi_wp2
      rw [Exit.noGoto_ret]
      refine ⟨by simp, .inl ⟨_, _, rfl, run_takeDeferred hK', ?_⟩⟩
      exact ⟨_, results_tmp2 (t := 2) (u := 3) rfl _ _ _, HPP.out⟩
  case stop =>
    have hfol : Tryz.prog.follows .mixedOrders = true := by kernel_rfl
    rintro X D c pre W hD hXD hpre ⟨rfl, n, e, hO⟩ hX hK
    have hm : Moves (fun k => k = D) W (W.drew.putObj D (.deferred none)) := (Moves.refl _ _).drew.trans (Moves.putObj rfl)
    have hpost : P (.returned (.tuple #[.slice none 0 0, errRV (.line n e)])) (W.drew.putObj D (.deferred none)) := by
      rw [← HP.out, recsP_pre hpre hO.so]
      exact ⟨_, [], rfl, World.ownsRow_nil _ _ _ _, rfl, Moves.below hO.below hO.below.size hm (fun k e => by omega)⟩
    have HPP := Lib.hid hpost
    have hcl := hO.lc.cell
    have hcf : W.cell? ⟨w.heap.size + 1 + 1, 0, none⟩ = some (errRV (.line n e)) := hO.fc.cell
    have hK' : W.drew.heap[D]? = some (.deferred (some [])) := hK
    obtain ⟨V, hV⟩ : ∃ V, errRV (.line n e) = V := ⟨_, rfl⟩
    rw [hV] at hcf HPP
    clear hO hpost hm hX
    gi_wp2
    gi_region
    all_goals
      gi_wp2
      rw [Exit.noGoto_ret]
      refine ⟨by simp, .inl ⟨_, _, rfl, run_takeDeferred hK', ?_⟩⟩
      exact ⟨_, results_tmp2 (t := 2) (u := 3) rfl _ _ _, HPP.out⟩
theorem records_any (s : ByteArray) (b : Nat) (w : World) {m : Int} (hG : FGlob w m) (hD : Digits w b) (hs : s.size ≤ 1000000) :
    Calls Tryz.prog 106 #[.agg (readC s b)] w (RecsPost (parseL s.data.toList) w) := by
  have hl : s.data.toList.length = s.size := by simp
  unfold parseL
  rcases Nat.lt_or_ge 20000 s.size with h | h
  · rw [if_pos (by omega)]
    exact records_many s b w h hs
  · rw [if_neg (by omega)]
    exact records_go s b w hG hD h
end Go.Proofs.YtfgnpdfdncnbfaaGreatDoor

namespace Go.Proofs.YtfgnpdfdncnbfaaGreatDoor
open Go.RowKit Go.Shelf Go.Maps

def toldL : ErrR → Nat
  | .none => 0
  | .file _ => 0
  | .line l _ => l
def toldE : ErrR → Nat
  | .none => 0
  | .file n => n
  | .line _ n => n
theorem toldV_eq (R : ErrR) : toldV R = .tuple #[.int .i64 (toldL R : Nat), .int .i64 (toldE R : Nat)] := by cases R <;> rfl
def ParsePost (R : List RecD × ErrR) (w : World) (e : Ending) (w' : World) : Prop :=
  ∃ v cs, e = .returned (.tuple #[v, .int .i64 (toldL R.2 : Nat), .int .i64 (toldE R.2 : Nat)]) ∧ w'.ownsRow w.heap.size 47 4 v R.1.length cs ∧ RecsOwn w' w.heap.size (fun _ => True) R.1 cs ∧ Below w.heap.size w w'
theorem RecsOwn.below {A B : World} {base base' : Nat} {acc : List RecD} {cs : List Value} (h : RecsOwn A base (fun _ => True) acc cs) (hb : Below A.heap.size A B) (hle : base' ≤ base) : RecsOwn B base' (fun _ => True) acc cs :=
  RecsOwn.moves (Moves.of_below (S := fun _ => False) hb) hle (fun _ _ _ _ _ => ⟨id, trivial⟩) h
set_option maxHeartbeats 1000000 in
theorem parse_go (R : List RecD × ErrR) (s : ByteArray) (w : World) {m : Int} (hG : FGlob w m) (hrec : ∀ (b : Nat) (W : World), FGlob W m → Digits W b → Calls Tryz.prog 106 #[.agg (readC s b)] W (RecsPost R W)) :
    Calls Tryz.prog 90 #[.string s] w (ParsePost R w) := by
  have HG := Lib.hid hG
  have HREC := Lib.hid hrec
  clear hG hrec
  go_enter Tryz.func90, Tryz.ntmps90
  go_wp2_with fail
  refine (read_any s w).mono ?_
  rintro e w1 ⟨rfl, D1, b1⟩
  have hG1 := HG.out.below b1
  go_wp2_with fail
  refine (HREC.out _ w1 hG1 D1).mono ?_
  rintro e w2 ⟨v, cs, rfl, ho, hr, b2⟩
  have hG2 := hG1.below b2
  obtain ⟨o, cap, rfl⟩ := own_form ho
  obtain ⟨V, hV⟩ : ∃ V, errRV R.2 = V := ⟨_, rfl⟩
  have hto := told_any R.2 w2 (m := m) hG2
  have hz1 := b1.size
  have hz2 := b2.size
  rw [toldV_eq] at hto
  obtain ⟨TL, hTL⟩ : ∃ n, toldL R.2 = n := ⟨_, rfl⟩
  obtain ⟨TE, hTE⟩ : ∃ n, toldE R.2 = n := ⟨_, rfl⟩
  obtain ⟨N, hN⟩ : ∃ n, R.1.length = n := ⟨_, rfl⟩
  have HP : Hid (∀ w', Below w2.heap.size w2 w' → ParsePost R w (.returned (.tuple #[.slice o N cap, .int .i64 (TL : Nat), .int .i64 (TE : Nat)])) w') := by
    refine Lib.hid fun w' hb => ?_
    rw [← hTL, ← hTE, ← hN]
    exact ⟨_, cs, rfl, own_base (own_below ho hb) hz1, hr.below hb hz1, (b1.trans (b2.mono hz1)).trans (hb.mono (by omega))⟩
  rw [hV, hTL, hTE] at hto
  rw [hV, hN]
  have HTO := Lib.hid hto
  clear hto hV hTL hTE hN ho hr hG2 hG1 D1
  go_wp2_with fail
  refine HTO.out.mono ?_
  rintro e w3 ⟨rfl, b3⟩
  go_wp2
  exact bodyPost_ret (v := .tuple #[.slice o N cap, .int .i64 (TL : Nat), .int .i64 (TE : Nat)]) (by simp [results, Tryz.results90, go_sem]) rfl (HP.out _ b3)
theorem parse_any (s : ByteArray) (w : World) {m : Int} (hG : FGlob w m) (hs : s.size ≤ 1000000) :
    Calls Tryz.prog 90 #[.string s] w (ParsePost (parseL s.data.toList) w) :=
  parse_go (parseL s.data.toList) s w hG fun b W hG' hD => records_any s b W hG' hD hs
end Go.Proofs.YtfgnpdfdncnbfaaGreatDoor

namespace Go.Proofs.YtfgnpdfdncnbfaaGreatDoor
open Go.RowKit Go.Shelf Go.Maps
attribute [local go_sem] Oper.semAt_some
attribute [local go_sem ↓] app_hide

/-- The numbers of a text's parts, those without a byte aside. -/
def codesP : List (List UInt8) → Option (List Nat)
  | [] => some []
  | [] :: r => codesP r
  | (y :: z) :: r => match codeL (y :: z), codesP r with
    | some n, some t => some (n :: t)
    | _, _ => none
def codesL (l : List UInt8) : Option (List Nat) := if Lib.hasPrefix l [32] || Lib.hasSuffix l [32] then none else codesP (splitL 32 l)
theorem codesP_append : ∀ a b : List (List UInt8), codesP (a ++ b) = match codesP a, codesP b with | some x, some y => some (x ++ y) | _, _ => none
  | [], b => by
    rw [List.nil_append, codesP]
    cases codesP b <;> rfl
  | [] :: r, b => by
    rw [List.cons_append, codesP, codesP, codesP_append r b]
  | (y :: z) :: r, b => by
    rw [List.cons_append, codesP, codesP, codesP_append r b]
    cases codeL (y :: z) <;> cases codesP r <;> cases codesP b <;> rfl
theorem codesP_skip {pre : List (List UInt8)} {xs : List Nat} (h : codesP pre = some xs) : codesP (pre ++ [[]]) = some xs := by
  rw [codesP_append, h]
  show some (xs ++ []) = some xs
  rw [List.append_nil]
theorem codesP_one {x : List UInt8} (hx : x ≠ []) : codesP [x] = match codeL x with | some n => some [n] | none => none := by
  cases x with
  | nil => exact absurd rfl hx
  | cons y z => rw [codesP, codesP]; cases codeL (y :: z) <;> rfl
theorem codesP_more {pre : List (List UInt8)} {x : List UInt8} {xs : List Nat} {n : Nat} (h : codesP pre = some xs) (hx : x ≠ []) (hn : codeL x = some n) : codesP (pre ++ [x]) = some (xs ++ [n]) := by
  rw [codesP_append, h, codesP_one hx, hn]
theorem codesP_bad {pre all : List (List UInt8)} {x : List UInt8} (hp : pre ++ [x] <+: all) (hx : x ≠ []) (hn : codeL x = none) : codesP all = none := by
  obtain ⟨t, rfl⟩ := hp
  rw [List.append_assoc, codesP_append]
  have : codesP ([x] ++ t) = none := by
    rw [codesP_append, codesP_one hx, hn]
  rw [this]
  cases codesP pre <;> rfl
theorem codesP_length : ∀ (l : List (List UInt8)) (xs : List Nat), codesP l = some xs → xs.length ≤ l.length
  | [], xs, h => by cases h; simp
  | [] :: r, xs, h => by
    rw [codesP] at h
    have := codesP_length r xs h
    simp; omega
  | (y :: z) :: r, xs, h => by
    rw [codesP] at h
    cases h1 : codeL (y :: z) <;> rw [h1] at h
    · cases h
    · cases h2 : codesP r <;> rw [h2] at h
      · cases h
      · cases h
        have := codesP_length r _ h2
        simp; omega
theorem codesP_lt : ∀ (l : List (List UInt8)) (xs : List Nat), codesP l = some xs → ∀ n ∈ xs, n < 16777216
  | [], xs, h, n, hn => by cases h; cases hn
  | [] :: r, xs, h, n, hn => codesP_lt r xs (by rw [codesP] at h; exact h) n hn
  | (y :: z) :: r, xs, h, n, hn => by
    rw [codesP] at h
    cases h1 : codeL (y :: z) <;> rw [h1] at h
    · cases h
    · cases h2 : codesP r <;> rw [h2] at h
      · cases h
      · cases h
        rcases List.mem_cons.1 hn with rfl | hn
        · exact codeL_lt h1
        · exact codesP_lt r _ h2 n hn
/-- What Codes answers: the numbers are its own, if there are any. -/
def CodesPost (l : List UInt8) (w : World) (e : Ending) (w' : World) : Prop :=
  ∃ v, e = .returned (.tuple #[v, .bool (codesL l).isSome]) ∧ w'.ownsRow w.heap.size 3 1 v ((codesL l).getD []).length (((codesL l).getD []).map intC) ∧ Below w.heap.size w w'
theorem Digits.moves {S : Nat → Prop} {w w' : World} {b : Nat} (h : Digits w b) (hm : Moves S w w') (hb : ¬ S b) : Digits w' b := by
  have hlt := World.ownsMap.lt h
  obtain ⟨es, clock, hx, F, hs, hD⟩ := h
  exact ⟨es, clock, (hm.block b hlt hb).trans hx, F, hs, hD⟩
theorem code_own {W : World} {base k : Nat} {v : Value} {xs : List Value} (q : Nat) (ho : W.ownsRow base 3 1 v k xs) (hk : k ≤ 2000000) (hbase : base ≤ W.heap.size) :
    ∃ g cap w6, (appSem #[140, 140] 140 #[v, .slice (some ⟨W.heap.size, 0, none⟩) 1 1]).run Tryz.prog (W.alloc (.cells #[.int .i64 (q : Nat)] 3)) = .ok (.slice (some ⟨g, 0, none⟩) (k + 1) cap) w6 ∧
      w6.ownsRow base 3 1 (.slice (some ⟨g, 0, none⟩) (k + 1) cap) (k + 1) (xs ++ [intC q]) ∧ (W.alloc (.cells #[.int .i64 (q : Nat)] 3)).grownBy w6 v.ownBlock := by
  obtain ⟨i0, hi, hz0, hz1, hz2⟩ := info_parts infoInt
  have hb : Below W.heap.size W (W.alloc (.cells #[.int .i64 (q : Nat)] 3)) := (Below.refl _ _).alloc (Nat.le_refl _) _
  obtain ⟨v', w6, hr, h2, h3, h4⟩ := run_append_own (P := Tryz.prog) _ base 140 140 3 i0 (.int .i64 0) 1 8 Tryz.underlying140 hi hz0 hz1 hz2 rfl (by decide) v k xs (own_below ho hb) ⟨W.heap.size, 0, none⟩ 1 1 [intC q] rfl
    (cell_one_new _ _ _) (by simp [Value.oneCell']) (by unfold maxLen; omega) (by omega) (by simp; omega)
  obtain ⟨g, cap, rfl⟩ := ownsRow_succ h2
  exact ⟨g, cap, w6, hr, h2, h3⟩

end Go.Proofs.YtfgnpdfdncnbfaaGreatDoor

namespace Go.Proofs.YtfgnpdfdncnbfaaGreatDoor
open Go.RowKit Go.Shelf

theorem splitL_join (c : UInt8) : ∀ a b : List UInt8, splitL c (a ++ c :: b) = splitL c a ++ splitL c b
  | [], b => by simp [splitL]
  | x :: t, b => by
    rw [List.cons_append, splitL, splitL, splitL_join c t b]
    split
    · rfl
    · cases h : splitL c t with
      | nil => exact absurd h (splitL_ne c t)
      | cons y r => simp
theorem pre_append {a t : List UInt8} (h : a ≠ []) : Lib.hasPrefix (a ++ t) [32] = Lib.hasPrefix a [32] := by
  cases a with
  | nil => exact absurd rfl h
  | cons x r => simp [Lib.hasPrefix, List.isPrefixOf]
theorem suf_append {b t : List UInt8} (h : b ≠ []) : Lib.hasSuffix (t ++ b) [32] = Lib.hasSuffix b [32] := by
  unfold Lib.hasSuffix List.isSuffixOf
  rw [List.reverse_append]
  have : b.reverse ≠ [] := by simpa using h
  cases hr : b.reverse with
  | nil => exact absurd hr this
  | cons x r => simp [List.isPrefixOf]
/-- Codes behind codes. -/
theorem codesL_join {a b : List UInt8} {xs ys : List Nat} (ha : a ≠ []) (hb : b ≠ []) (h1 : codesL a = some xs) (h2 : codesL b = some ys) : codesL (a ++ 32 :: b) = some (xs ++ ys) := by
  unfold codesL at h1 h2 ⊢
  split at h1
  · cases h1
  · rename_i n1
    split at h2
    · cases h2
    · rename_i n2
      simp only [Bool.or_eq_true, not_or, Bool.not_eq_true] at n1 n2
      have e2 : Lib.hasSuffix (a ++ 32 :: b) [32] = Lib.hasSuffix b [32] := by
        rw [show a ++ 32 :: b = (a ++ [32]) ++ b by simp]
        exact suf_append hb
      rw [pre_append ha, e2, n1.1, n2.2, splitL_join, codesP_append, h1, h2]
      rfl

/-- A letter among the digits, the other way. -/
def flipB (b : UInt8) : UInt8 := if 97 ≤ b.toNat ∧ b.toNat ≤ 102 then b - 32 else if 65 ≤ b.toNat ∧ b.toNat ≤ 70 then b + 32 else b
theorem hexD_flip (b : UInt8) : hexD (flipB b).toNat = hexD b.toNat := by
  have h : ∀ q : Fin 256, hexD (flipB (UInt8.ofNat q.val)).toNat = hexD (UInt8.ofNat q.val).toNat := by decide +kernel
  have h2 := h ⟨b.toNat, b.toNat_lt⟩
  simpa using h2
theorem accL_flip : ∀ (l : List UInt8) (n : Nat), accL (l.map flipB) n = accL l n
  | [], n => rfl
  | b :: t, n => by
    rw [List.map_cons, accL_cons, accL_cons, hexD_flip]
    cases hexD b.toNat with
    | none => rfl
    | some d => exact accL_flip t _
theorem codeL_flip (l : List UInt8) : codeL (l.map flipB) = codeL l := by
  unfold codeL
  rw [List.length_map, accL_flip]

/-- What stands ahead of a first byte. -/
theorem cut_take (c : UInt8) : ∀ l : List UInt8, (Lib.cut l [c]).1 = l.takeWhile (· != c)
  | [] => by simp [Lib.cut, Lib.index]
  | x :: t => by
    have ih := cut_take c t
    unfold Lib.cut at ih ⊢
    have hge := Lib.index_ge t [c]
    rw [Lib.index]
    by_cases hx : c = x
    · subst hx
      simp [List.isPrefixOf]
    · have hp : [c].isPrefixOf (x :: t) = false := by simp [List.isPrefixOf, hx]
      have hb : (x != c) = true := by simp; exact fun e => hx e.symm
      simp only [hp, Bool.false_eq_true, if_false, List.takeWhile_cons, hb, if_true]
      by_cases hm : Lib.index t [c] = -1
      · have h1 : (Lib.index t [c] == -1) = true := by simp [hm]
        rw [if_pos h1, if_neg (by omega)]
        rw [if_neg (by omega)] at ih
        simp only at ih ⊢
        rw [← ih]
      · have h1 : ¬ (Lib.index t [c] == -1) = true := by simp [hm]
        rw [if_neg h1, if_pos (by omega)]
        rw [if_pos (by omega)] at ih
        have e : (Lib.index t [c] + 1).toNat = (Lib.index t [c]).toNat + 1 := by omega
        simp only at ih ⊢
        rw [e, List.take_succ_cons, ih]
theorem counted_eq (l : List UInt8) : countedL l = trimL (l.takeWhile (· != 35)) := by
  unfold countedL cutL
  rw [cut_take]
def blB (b : UInt8) : Bool := blanksL.contains b
theorem trimL_eq (l : List UInt8) : trimL l = ((l.reverse.dropWhile blB).reverse).dropWhile blB := rfl
theorem trim_ahead (x : UInt8) (l : List UInt8) (hx : blB x = true) : trimL (x :: l) = trimL l := by
  rw [trimL_eq, trimL_eq, List.reverse_cons, List.dropWhile_append]
  split
  · rename_i h
    have h' : l.reverse.dropWhile blB = [] := by simpa using h
    rw [h']
    simp [hx]
  · rw [List.reverse_append]
    simp [hx]
theorem trim_behind (x : UInt8) (l : List UInt8) (hx : blB x = true) : trimL (l ++ [x]) = trimL l := by
  rw [trimL_eq, trimL_eq, List.reverse_append]
  simp [hx]
/-- A blank ahead, a remark behind: the line says the same. -/
theorem lineL_remark (s t : List UInt8) : lineL (32 :: s ++ 9 :: 35 :: t) = lineL s := by
  have h : countedL (32 :: s ++ 9 :: 35 :: t) = countedL s := by
    rw [counted_eq, counted_eq, List.cons_append, List.takeWhile_cons]
    simp only [show ((32 : UInt8) != 35) = true from rfl, if_true]
    rw [trim_ahead _ _ (by decide), List.takeWhile_append]
    split
    · rename_i hh
      have e : List.takeWhile (fun x => x != 35) s = s := by
        have := List.takeWhile_prefix (fun x : UInt8 => x != 35) (l := s)
        exact this.eq_of_length hh
      rw [e]
      have e2 : List.takeWhile (fun x : UInt8 => x != 35) (9 :: 35 :: t) = [9] := by simp [List.takeWhile]
      rw [e2, trim_behind _ _ (by decide)]
    · rfl
  unfold lineL
  rw [h]

/-- The parter's parts, and all parts. -/
theorem splitK_few (c : UInt8) : ∀ (k : Nat) (l : List UInt8), (splitL c l).length ≤ k + 1 → Lib.splitK [c] 0 k l = splitL c l
  | 0, l, h => by
    rw [Lib.splitK]
    by_cases hi : Lib.indexByte l c = -1
    · rw [splitL_none (Lib.indexByte_none hi)]
    · have hge := Lib.indexByte_ge l c
      obtain ⟨m, hm⟩ : ∃ m : Nat, Lib.indexByte l c = m := ⟨(Lib.indexByte l c).toNat, by omega⟩
      obtain ⟨h1, h2⟩ := Lib.indexByte_some hm
      rw [splitL_at h1 h2] at h
      have := List.length_pos_iff.2 (splitL_ne c (l.drop (m + 1)))
      simp only [List.length_cons] at h
      omega
  | k + 1, l, h => by
    rw [Lib.splitK, Lib.index_one]
    by_cases hi : Lib.indexByte l c = -1
    · rw [if_pos (by simp [hi]), splitL_none (Lib.indexByte_none hi)]
    · have hge := Lib.indexByte_ge l c
      obtain ⟨m, hm⟩ : ∃ m : Nat, Lib.indexByte l c = m := ⟨(Lib.indexByte l c).toNat, by omega⟩
      obtain ⟨h1, h2⟩ := Lib.indexByte_some hm
      rw [if_neg (by simp [hi]), splitL_at h1 h2]
      rw [splitL_at h1 h2] at h
      simp only [List.length_cons] at h
      have e : ((m : Nat) : Int).toNat = m := by omega
      rw [hm, e]
      simp only [List.length_singleton, Nat.add_zero]
      rw [splitK_few c k _ (by omega)]
theorem splitK_many (c : UInt8) : ∀ (k : Nat) (l : List UInt8), k + 1 < (splitL c l).length → (Lib.splitK [c] 0 k l).length = k + 1 ∧ (1 ≤ k → (Lib.splitK [c] 0 k l).headD [] = (splitL c l).headD [])
  | 0, l, h => by rw [Lib.splitK]; exact ⟨rfl, fun h => by omega⟩
  | k + 1, l, h => by
    rw [Lib.splitK, Lib.index_one]
    by_cases hi : Lib.indexByte l c = -1
    · rw [splitL_none (Lib.indexByte_none hi)] at h
      simp at h
    · have hge := Lib.indexByte_ge l c
      obtain ⟨m, hm⟩ : ∃ m : Nat, Lib.indexByte l c = m := ⟨(Lib.indexByte l c).toNat, by omega⟩
      obtain ⟨h1, h2⟩ := Lib.indexByte_some hm
      rw [if_neg (by simp [hi]), splitL_at h1 h2]
      rw [splitL_at h1 h2] at h
      simp only [List.length_cons] at h
      have e : ((m : Nat) : Int).toNat = m := by omega
      rw [hm, e]
      have := splitK_many c k (l.drop (m + 1)) (by omega)
      exact ⟨by rw [List.length_cons]; exact congrArg (· + 1) this.1, fun _ => rfl⟩
/-- What a counted line says, by all its parts. -/
def recordQ (ps : List (List UInt8)) : LineR := match endsL (trimL (ps.headD [])) with
  | .hex => .bad 21
  | .range => .bad 22
  | .good a b => if ps.length = 1 ∨ 21 < ps.length then .bad 23 else .good a b ((ps.drop 1).map trimL)
theorem recordR_eq (t : List UInt8) : recordR t = recordQ (splitL 59 t) := by
  have hlen := splitL_length 59 t
  unfold recordR
  show recordQ (partsL t) = _
  unfold partsL
  by_cases h : (splitL 59 t).length ≤ min 22 (t.length + 1) - 1 + 1
  · rw [splitK_few 59 _ _ h]
  · have h22 : 22 < (splitL 59 t).length := by omega
    have hk : min 22 (t.length + 1) - 1 = 21 := by omega
    rw [hk] at h ⊢
    obtain ⟨e1, e2⟩ := splitK_many 59 21 t (by omega)
    unfold recordQ
    rw [e2 (by omega), e1]
    cases endsL (trimL ((splitL 59 t).headD [])) with
    | hex => rfl
    | range => rfl
    | good a b =>
      simp only
      rw [if_pos (by omega), if_pos (by omega)]

/-- A file's lines, read without a bound on how many records there are. -/
def recsU : List (List UInt8 × Nat) → List RecD × ErrR
  | [] => ([], .none)
  | (x, n) :: r => match lineL x with
    | .bad e => ([], .line n e)
    | .nothing => recsU r
    | .good a b fs => match recsU r with
      | (l, .none) => ((n, a, b, fs) :: l, .none)
      | (_, e) => ([], e)
theorem recsU_err : ∀ l : List (List UInt8 × Nat), (recsU l).2 ≠ .none → (recsU l).1 = []
  | [], h => rfl
  | (x, n) :: r, h => by
    have ih := recsU_err r
    rw [recsU] at h ⊢
    cases hl : lineL x with
    | bad e => rfl
    | nothing => rw [hl] at h; exact ih h
    | good a b fs =>
      rw [hl] at h
      simp only at h ⊢
      cases hr : recsU r with
      | mk l e =>
        rw [hr] at h
        cases e with
        | none => exact absurd rfl h
        | file n => rfl
        | line l n => rfl
theorem cut_short (l sep : List UInt8) : (cutL l sep).1.length ≤ l.length := (cutL_le l sep).1
theorem ends_long {q : List UInt8} {a b : Nat} (h : endsL q = .good a b) : 4 ≤ q.length := by
  have hc := cut_short q [46, 46]
  unfold endsL pairL at h
  cases hcode : codeL (cutL q [46, 46]).1 with
  | none =>
    rw [hcode] at h
    by_cases h2 : (cutL q [46, 46]).2.2 = true
    · rw [if_pos h2] at h; cases h
    · rw [if_neg h2] at h; cases h
  | some n =>
    unfold codeL at hcode
    split at hcode
    · rename_i hh; have := hh.1; omega
    · cases hcode
theorem good_long {x : List UInt8} {a b : Nat} {fs : List (List UInt8)} (h : lineL x = .good a b fs) : 5 ≤ x.length := by
  unfold lineL at h
  split at h
  · cases h
  · rw [recordR_eq] at h
    have hc : (countedL x).length ≤ x.length := Nat.le_trans (trimL_le _) (cut_short _ _)
    have hs := splitL_ne 59 (countedL x)
    unfold recordQ at h
    cases he : endsL (trimL ((splitL 59 (countedL x)).headD [])) with
    | hex => rw [he] at h; cases h
    | range => rw [he] at h; cases h
    | good a' b' =>
      rw [he] at h
      simp only at h
      split at h
      · cases h
      · rename_i hn
        have h4 : 4 ≤ ((splitL 59 (countedL x)).headD []).length := by
          have ht := trimL_le ((splitL 59 (countedL x)).headD [])
          have := ends_long he
          omega
        have hi : ¬ Lib.indexByte (countedL x) 59 = -1 := by
          intro hi
          rw [splitL_none (Lib.indexByte_none hi)] at hn
          simp at hn
        have hge := Lib.indexByte_ge (countedL x) 59
        obtain ⟨m, hm⟩ : ∃ m : Nat, Lib.indexByte (countedL x) 59 = m := ⟨(Lib.indexByte (countedL x) 59).toNat, by omega⟩
        obtain ⟨h1, h2⟩ := Lib.indexByte_some hm
        have hlt := (List.getElem?_eq_some_iff.1 h1).1
        rw [splitL_at h1 h2] at h4
        simp only [List.headD_cons, List.length_take] at h4
        omega
def bytesN : List (List UInt8 × Nat) → Nat
  | [] => 0
  | (x, _) :: r => x.length + 1 + bytesN r
theorem recsP_recsU : ∀ (l : List (List UInt8 × Nat)) (acc : List RecD), acc.length * 6 + bytesN l < 1800 → recsP l acc = match recsU l with
    | (t, .none) => (acc ++ t, .none)
    | (_, e) => ([], e)
  | [], acc, h => by simp [recsP, recsU]
  | (x, n) :: r, acc, h => by
    rw [bytesN] at h
    rw [recsP, recsU]
    cases hl : lineL x with
    | bad e => rfl
    | nothing => exact recsP_recsU r acc (by omega)
    | good a b fs =>
      have h5 := good_long hl
      have h3 : ¬ acc.length = 300 := by omega
      simp only
      rw [if_neg h3, recsP_recsU r _ (by simp; omega)]
      cases hr : recsU r with
      | mk t e => cases e <;> simp
theorem bytesN_zip (c : UInt8) : ∀ (l : List UInt8) (k : Nat), bytesN ((splitL c l).zipIdx k) = l.length + 1
  | [], k => by simp [splitL, bytesN]
  | x :: t, k => by
    rw [splitL]
    split
    · rw [List.zipIdx_cons, bytesN, bytesN_zip c t]
      simp; omega
    · have ih := bytesN_zip c t k
      have hn := splitL_ne c t
      cases hs : splitL c t with
      | nil => exact absurd hs hn
      | cons y r =>
        rw [hs, List.zipIdx_cons, bytesN] at ih
        simp only [List.headD_cons, List.tail_cons]
        rw [List.zipIdx_cons, bytesN]
        simp only [List.length_cons]
        omega
theorem parseL_U (l : List UInt8) (h : l.length ≤ 1700) : parseL l = recsU (numL l) := by
  unfold parseL
  rw [if_neg (by omega), recsP_recsU _ _ (by unfold numL; rw [bytesN_zip]; simp; omega)]
  have := recsU_err (numL l)
  cases hr : recsU (numL l) with
  | mk t e =>
    rw [hr] at this
    cases e with
    | none => simp
    | file n => simp at this; simp [this]
    | line a b => simp at this; simp [this]
def shiftR (d : Nat) (x : RecD) : RecD := (x.1 + d, x.2)
def shiftE (d : Nat) : ErrR → ErrR
  | .none => .none
  | .file n => .file n
  | .line l n => .line (l + d) n
theorem recsU_shift (d : Nat) : ∀ (l : List (List UInt8)) (k : Nat), recsU (l.zipIdx (k + d)) = ((recsU (l.zipIdx k)).1.map (shiftR d), shiftE d (recsU (l.zipIdx k)).2)
  | [], k => rfl
  | x :: r, k => by
    have ih := recsU_shift d r (k + 1)
    rw [List.zipIdx_cons, List.zipIdx_cons, recsU, recsU, show k + d + 1 = k + 1 + d by omega, ih]
    cases lineL x with
    | bad e => rfl
    | nothing => rfl
    | good a b fs =>
      simp only
      cases recsU (r.zipIdx (k + 1)) with
      | mk t e => cases e <;> rfl
theorem recsU_append : ∀ (a b : List (List UInt8 × Nat)), recsU (a ++ b) = match recsU a with
    | (t, .none) => (match recsU b with
      | (u, .none) => (t ++ u, .none)
      | (_, e) => ([], e))
    | (_, e) => ([], e)
  | [], b => by
    have := recsU_err b
    rw [List.nil_append]
    simp only [recsU]
    cases hr : recsU b with
    | mk t e =>
      rw [hr] at this
      cases e with
      | none => simp
      | file n => simp at this; simp [this]
      | line a b => simp at this; simp [this]
  | (x, n) :: r, b => by
    rw [List.cons_append, recsU, recsU, recsU_append r b]
    cases lineL x with
    | bad e => rfl
    | nothing => rfl
    | good a b' fs =>
      simp only
      cases recsU r with
      | mk t e =>
        cases e with
        | none =>
          cases recsU b with
          | mk u e2 => cases e2 <;> simp
        | file n => rfl
        | line l n => rfl
/-- Two files, one below the other. -/
theorem parseL_join (s t : List UInt8) (h : s.length + t.length ≤ 1600) : parseL (s ++ 10 :: t) = match parseL s with
    | (a, .none) => (match parseL t with
      | (b, .none) => (a ++ b.map (shiftR (splitL 10 s).length), .none)
      | (_, e) => ([], shiftE (splitL 10 s).length e))
    | (_, e) => ([], e) := by
  rw [parseL_U _ (by simp; omega), parseL_U _ (by omega), parseL_U _ (by omega)]
  unfold numL
  rw [splitL_join, List.zipIdx_append, recsU_append, recsU_shift]
  cases recsU ((splitL 10 s).zipIdx 1) with
  | mk a e =>
    cases e with
    | none =>
      simp only
      cases recsU ((splitL 10 t).zipIdx 1) with
      | mk b e2 => cases e2 <;> rfl
    | file n => rfl
    | line l n => rfl
theorem splitL_count (c : UInt8) : ∀ l : List UInt8, (splitL c l).length = l.count c + 1
  | [] => by simp [splitL]
  | x :: t => by
    have ih := splitL_count c t
    have hp := List.length_pos_iff.2 (splitL_ne c t)
    rw [splitL]
    split
    · rename_i hx
      subst hx
      simp [ih]
    · rename_i hx
      rw [List.count_cons_of_ne hx]
      simp; omega
end Go.Proofs.YtfgnpdfdncnbfaaGreatDoor
