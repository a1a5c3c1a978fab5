/- Shaken by bunq.py. -/
import Derived.Test.YtnmhdcbpbaanoaaGreatDoorBuq11
import Derived.Test.YtnmhdcbpbaanoaaGreatDoorBuq7
import Derived.Test.YtnmhdcbpbaanoaaGreatDoorBuq8
namespace Go.Proofs.YtnmhdcbpbaanoaaGreatDoor
open Go.RowKit Go.Shelf Go.Maps
attribute [local go_sem] Oper.semAt_some

theorem eachJ_any (o : Option Addr) (n cap : Nat) (w : World) : Calls Tryz.prog 62 #[.slice o n cap] w fun e w' => e = .returned (.func (.func 90) #[] #[.pointer (some ⟨w.heap.size, 0, none⟩)]) ∧ w.alloc (.cells #[.slice o n cap] 63) = w' := by
  go_enter Tryz.func62, Tryz.ntmps62
  go_wp2
  go_ret
  exact ⟨rfl, rfl⟩
structure RigI (w : World) (m : Int) (X : Nat → Prop) (W : World) (r : Bool) : Prop where
  far : ∀ k, X k → w.heap.size + 2 ≤ k
  below : Below w.heap.size w W
  size : w.heap.size + 2 ≤ W.heap.size
  nb : Boxed W w.heap.size 3 (.int .i64 m)
  rb : Boxed W (w.heap.size + 1) 4 (.bool r)
theorem RigI.moves {w : World} {m : Int} {X X' : Nat → Prop} {A B : World} {r : Bool} (h : RigI w m X A r) (hm : Moves X A B) (hX : ∀ k, X' k → (X k ∨ A.heap.size ≤ k) ∧ k < B.heap.size) : RigI w m X' B r := by
  have hf := h.far
  have hz := h.size
  have nx : ∀ j, j < w.heap.size + 2 → ¬ X j := fun j hj hx => by have := hf j hx; omega
  refine ⟨?_, Moves.below h.below h.below.size hm (fun k hk => by have := hf k hk; omega), by have := hm.size; omega, row_keep h.nb hm (nx _ (by omega)), row_keep h.rb hm (nx _ (by omega))⟩
  intro k hk
  rcases (hX k hk).1 with h1 | h1
  · exact hf k h1
  · omega
theorem RigI.below' {w : World} {m : Int} {X : Nat → Prop} {A B : World} {r : Bool} (h : RigI w m X A r) (hb : Below A.heap.size A B) (hX : ∀ k, X k → k < A.heap.size) : RigI w m X B r :=
  h.moves (Moves.of_below hb) fun k hk => ⟨.inl hk, Nat.lt_of_lt_of_le (hX k hk) hb.size⟩
theorem RigI.set {w : World} {m : Int} {X : Nat → Prop} {A : World} {r : Bool} (h : RigI w m X A r) (v : Bool) : RigI w m X (A.setCell ⟨w.heap.size + 1, 0, none⟩ (.bool v)) v := by
  have ms : Moves (fun k => k = w.heap.size + 1) A (A.setCell ⟨w.heap.size + 1, 0, none⟩ (.bool v)) := Moves.setCell rfl
  exact ⟨h.far, Moves.below h.below h.below.size ms (fun k e => by omega), by have := ms.size; have := h.size; omega, row_keep h.nb ms (by omega), h.rb.set _⟩
set_option maxRecDepth 100000 in
set_option maxHeartbeats 4000000 in
theorem rightJ_any (o : Option Addr) (l : List RulX) (cap : Nat) (m : Int) (hn : l.length ≤ 1000000) (hfw : FewC l) (w : World) (hA : AtC w o l) (hI : ItsC w l) :
    Calls Tryz.prog 39 #[.slice o l.length cap, .int .i64 m] w fun e w' => e = .returned (.bool (rightsU (l.map plX) m)) ∧ Below w.heap.size w w' := by
  refine (callsIn_wide (n := 6)).1 ?_
  have h1 : 1 ≤ 6 := by omega
  refine callsIn_of_wp_marks Tryz.func39 rfl trivial ?_ rfl
  simp only [Tryz.ntmps39, List.size_toArray, List.length_cons, List.length_nil, Nat.reduceAdd, Nat.reduceSub, Array.replicate_succ, Array.replicate_zero, List.push_toArray, List.append_toArray, List.nil_append, List.cons_append]
  obtain ⟨P, hP⟩ : ∃ P, (fun (e : Ending) w' => e = .returned (.bool (rightsU (l.map plX) m)) ∧ Below w.heap.size w w') = P := ⟨_, rfl⟩
  have HP := Lib.hid hP
  rw [hP]
  clear hP
  obtain ⟨n, hnn⟩ : ∃ n, l.length = n := ⟨_, rfl⟩
  have HN := Lib.hid hnn
  rw [hnn] at hn ⊢
  obtain ⟨w1, hw1⟩ : ∃ w1, (w.alloc (.cells #[.int .i64 m] 3)).alloc (.cells #[.bool false] 4) = w1 := ⟨_, rfl⟩
  have b1 : Below w.heap.size w w1 := by rw [← hw1]; exact ((Below.refl _ _).alloc (Nat.le_refl _) _).alloc (by simp) _
  have z1 : w1.heap.size = w.heap.size + 2 := by rw [← hw1]; simp
  have n1 : Boxed w1 w.heap.size 3 (.int .i64 m) := by rw [← hw1]; exact (Boxed.new _ _ _).alloc _
  have r1 : Boxed w1 (w.heap.size + 1) 4 (.bool false) := by
    rw [← hw1]
    have := Boxed.new (w.alloc (.cells #[.int .i64 m] 3)) 4 (.bool false)
    rwa [World.size_alloc] at this
  obtain ⟨w2, hw2⟩ : ∃ w2, w1.alloc (.cells #[.slice o n cap] 63) = w2 := ⟨_, rfl⟩
  have b2 : Below w1.heap.size w1 w2 := by rw [← hw2]; exact (Below.refl _ _).alloc (Nat.le_refl _) _
  have z2 : w2.heap.size = w.heap.size + 3 := by rw [← hw2]; simp; omega
  have p2 : w2.heap[w1.heap.size]? = some (.cells #[.slice o n cap] 63 (0, 0)) := by rw [← hw2]; exact heap_alloc_new _ _
  have b02 : Below w.heap.size w w2 := b1.trans (b2.mono b1.size)
  have hlt : ∀ k, 0 < l.length → inQ o k → k < w.heap.size := fun k h0 hk => hA.lt h0 hk
  have HSEQ := Lib.hid (seqRules (by rw [hnn]; exact hn) (by rw [hnn]; exact p2) (hA.below b02))
  have HI2 : Hid (RigI w m (fun _ => False) w2 false) := Lib.hid ⟨fun k h => h.elim, b02, by omega, row_below n1 b2, row_below r1 b2⟩
  have HITS := Lib.hid hI
  have HFW := Lib.hid hfw
  have HLT := Lib.hid hlt
  have HZ1 := Lib.hid z1
  have HZ2 := Lib.hid z2
  have HW1 := Lib.hid hw1
  have HW2 := Lib.hid hw2
  have HB1 := Lib.hid b1
  have HPL := Lib.hid (eachJ_any o n cap w1)
  have lr1 := r1.lt
  have cn1 := n1.cell
  have cr1 := r1.cell
  have fr1 : w1.frozen? ⟨w.heap.size + 1, 0, none⟩ = false := r1.frozen
  have R1 := Lib.hid r1
  clear hnn hw1 b1 z1 n1 r1 hw2 b2 p2 b02 z2 hA hI hlt hfw
  have NO : (m < 1 ∨ 32 < m ∨ 40 < n) → Hid (P (.returned (.bool false)) w1) := fun h => by
    rw [← HP.out]
    refine Lib.hid ⟨by rw [rights_not (by rw [List.length_map, HN.out]; exact h)], HB1.out⟩
  have m40 : 40 < n ∨ n ≤ 40 := by omega
  by_cases a1 : m < 1
  · have HQ := NO (.inl a1)
    clear NO m40
    gi_wp2_with fail
    rw [HW1.out]
    exact ⟨_, results_cellQ rfl _ _ _ _ _ rfl Tryz.underlying4 rfl cr1, HQ.out⟩
  by_cases a2 : 32 < m
  · have HQ := NO (.inr (.inl a2))
    clear NO m40
    gi_wp2_with fail
    rw [HW1.out]
    exact ⟨_, results_cellQ rfl _ _ _ _ _ rfl Tryz.underlying4 rfl cr1, HQ.out⟩
  rcases m40 with a3 | a3
  · have HQ := NO (.inr (.inr a3))
    have d40 : decide ((40 : Int) < ((n : Nat) : Int)) = true := decide_eq_true (by omega)
    clear NO
    gi_wp2_with fail
    rw [HW1.out]
    exact ⟨_, results_cellQ rfl _ _ _ _ _ rfl Tryz.underlying4 rfl cr1, HQ.out⟩
  clear NO
  have d40 : decide ((40 : Int) < ((n : Nat) : Int)) = false := decide_eq_false (by omega)
  gi_wp2_with fail
  rw [HW1.out]
  refine ⟨trivial, (callsIn_wide.2 HPL.out).mono ?_⟩
  rintro e w2' ⟨rfl, hw2'⟩
  rw [HW2.out] at hw2'
  subst hw2'
  clear cn1 cr1 fr1
  gi_wp2_with fail
  have hz2 := HZ2.out
  have hz1 := HZ1.out
  refine wpIn_seqX (n := 6) (Ow := fun _ => False) (Dep := DepJ w1.heap.size o l) (encs := encJ) (all := l.zipIdx) (by omega) rfl (enters_of Tryz.func90 (by kernel_rfl) rfl) (fun x => rfl) HSEQ.out
    (fun k h => h.elim) (fun k h => by rcases h with h | ⟨h0, h⟩; { omega }; { have := HLT.out k h0 h; omega })
    (fun X pre W => RigI w m X W false ∧ ∀ y ∈ l.take pre.length, rightU m (plX y) = true) (fun c X pre W => c = .ret ∧ RigI w m X W false ∧ ∃ y ∈ l, rightU m (plX y) = false) ?hI ?hIx ?h0
    (fun b x => { tmps := #[.slice o n cap, .int .i64 m, undef, .pointer (some ⟨w.heap.size, 0, none⟩), .pointer (some ⟨w.heap.size + 1, 0, none⟩), undef, .pointer (some ⟨b, 0, none⟩), .int .i64 m, .bool false, .bool false, .int .i64 m, .bool false, .bool false, .bool false, .slice o n cap, .int .i64 (n : Nat), .bool false, .bool false, .slice o n cap, .func (.func 90) #[] #[.pointer (some ⟨w1.heap.size, 0, none⟩)], .int .i64 (x.2 : Nat), rulV x.1, undef, undef, undef, undef, undef, undef, undef, undef, undef, undef, undef, undef, undef, undef, undef, undef, undef], defers := [] })
    (fun A x B => A.alloc (rulO x.1) = B) (fun A x B h => by rw [← h]; exact Moves.of_below ((Below.refl _ _).alloc (Nat.le_refl _) _)) ?assign ?body ?done ?stop
  case hI =>
    rintro X X' xs A B ⟨h, hf⟩ hm hX
    exact ⟨h.moves hm hX, hf⟩
  case hIx =>
    rintro c X X' xs A B ⟨rfl, h, hf⟩ hm hX
    exact ⟨rfl, h.moves hm hX, hf⟩
  case h0 => exact ⟨HI2.out, fun y hy => by simp at hy⟩
  case assign =>
    rintro l x A K hK
    clear hz1 hz2
    gi_wp2
    rfl
  case body =>
    rintro lp X pre ⟨x, j⟩ A A' W1 hA1 hpx hAB hm hXn hXn1 hXlt ⟨hI, hf⟩
    obtain ⟨hj, hx, -⟩ := zip_preJ hpx
    subst hj
    have hxb : W1.heap[A.heap.size]? = some (rulO x) := by
      have := heap_alloc_new A (rulO x)
      rw [hAB] at this
      exact row_keep this hm (by omega)
    have hXW : ∀ k, X k → k < W1.heap.size := fun k hk => Nat.lt_of_lt_of_le (hXlt k hk) (by have h := hm.size; rw [← hAB, World.size_alloc] at h; omega)
    have cn := hI.nb.cell
    have cr := hI.rb.cell
    have fr : W1.frozen? ⟨w.heap.size + 1, 0, none⟩ = false := hI.rb.frozen
    have hmem : x ∈ l := List.mem_of_getElem? hx
    obtain ⟨⟨i1, l1⟩, i2, l2⟩ := HITS.out x hmem
    obtain ⟨g1, g2⟩ := HFW.out x hmem
    have HR1 := Lib.hid (fun W (hb : Below w.heap.size w W) => Right_anyQ x.1.1 x.1.2.1 x.1.2.2.1 x.1.2.2.2 m (by omega) W (i1.below hb))
    have HR2 := Lib.hid (fun W (hb : Below w.heap.size w W) => Right_anyQ x.2.1.1 x.2.1.2.1 x.2.1.2.2.1 x.2.1.2.2.2 m (by omega) W (i2.below hb))
    have nB : ∀ k, k < w.heap.size + 2 → w.heap.size ≤ k → ¬ X k ∧ ¬ DepJ w1.heap.size o l k := fun k hk hk2 => ⟨fun h => by have := hI.far k h; omega, fun h => by rcases h with h | ⟨h0, h⟩; { omega }; { have := HLT.out k h0 h; omega }⟩
    have STOP : Hid (∀ W2, Below W1.heap.size W1 W2 → rightU m (plX x) = false → seqEndX (DepJ w1.heap.size o l) X (fun X pre W => RigI w m X W false ∧ ∀ y ∈ l.take pre.length, rightU m (plX y) = true) (fun c X pre W => c = .ret ∧ RigI w m X W false ∧ ∃ y ∈ l, rightU m (plX y) = false) (pre ++ [(x, pre.length)]) W1 .ret ({ tmps := #[], defers := [] } : Act) (W2.setCell ⟨w.heap.size + 1, 0, none⟩ (.bool false))) := Lib.hid fun W2 hb hno => by
      have h2 := hI.below' hb hXW
      refine ⟨(Moves.of_below hb).trans ((Moves.setCell (S := fun k => k = w.heap.size + 1) (w := W2) (a := ⟨w.heap.size + 1, 0, none⟩) (v := .bool false) rfl).mono fun k hk => nB k (by omega) (by omega)), rfl, h2.set false, x, hmem, hno⟩
    have NEXT : Hid (∀ W2, Below W1.heap.size W1 W2 → rightU m (plX x) = true → seqEndX (DepJ w1.heap.size o l) X (fun X pre W => RigI w m X W false ∧ ∀ y ∈ l.take pre.length, rightU m (plX y) = true) (fun c X pre W => c = .ret ∧ RigI w m X W false ∧ ∃ y ∈ l, rightU m (plX y) = false) (pre ++ [(x, pre.length)]) W1 .normal ({ tmps := #[], defers := [] } : Act) W2) := Lib.hid fun W2 hb hyes => by
      refine ⟨Moves.of_below hb, hI.below' hb hXW, fun y hy => ?_⟩
      rw [List.length_append, List.length_singleton, List.take_add_one, hx] at hy
      rcases List.mem_append.1 hy with hy | hy
      · exact hf y hy
      · have : y = x := by simpa using hy
        rw [this]; exact hyes
    have HB1W := Lib.hid hI.below
    have HBOX : Hid (∀ W2, Below W1.heap.size W1 W2 → W2.cell? ⟨w.heap.size, 0, none⟩ = some (.int .i64 m) ∧ W2.cell? ⟨w.heap.size + 1, 0, none⟩ = some (.bool false) ∧ W2.frozen? ⟨w.heap.size + 1, 0, none⟩ = false) := Lib.hid fun W2 hb => by
      have h2 := hI.below' hb hXW
      exact ⟨h2.nb.cell, h2.rb.cell, h2.rb.frozen⟩
    have hu : rightU m (plX x) = (rightB x.1.2.2.1 m && rightB x.2.1.2.2.1 m && !x.2.1.1) := rfl
    have HU := Lib.hid hu
    obtain ⟨⟨s1, p1, xs1, c1⟩, ⟨s2, p2, xs2, c2⟩, br⟩ := x
    obtain ⟨m1, hm1⟩ : ∃ k, xs1.length = k := ⟨_, rfl⟩
    obtain ⟨m2, hm2⟩ : ∃ k, xs2.length = k := ⟨_, rfl⟩
    obtain ⟨u1, hu1⟩ : ∃ b, rightB xs1 m = b := ⟨_, rfl⟩
    obtain ⟨u2, hu2⟩ : ∃ b, rightB xs2 m = b := ⟨_, rfl⟩
    replace hxb : W1.heap[A.heap.size]? = some (.cells #[.bool s1, .slice p1 xs1.length c1, .bool s2, .slice p2 xs2.length c2, .bool br] 37 (0, 0)) := hxb
    simp only [hm1, hm2, hu1, hu2] at hxb HR1 HR2 HU
    obtain ⟨q0, q1, q2, q3, q4⟩ := five_cells hxb
    have HXB := Lib.hid hxb
    have HC1 := Lib.hid (HR1.out W1 HB1W.out)
    clear hI hx hf nB hpx hm hXlt hXn hXn1 hxb hAB hA1 hm1 hm2 hu1 hu2 i1 i2 l1 l2 g1 g2 hu hmem hz1 hz2 hXW
    gi_wp2_with fail
    refine ⟨trivial, CallsIn.inRound lp ((callsIn_wide.2 HC1.out).mono ?_)⟩
    rintro e W2 ⟨rfl, b2⟩
    obtain ⟨t0, t1, t2, t3, t4⟩ := five_cells (row_below HXB.out b2)
    obtain ⟨e0, e1, e2⟩ := HBOX.out W2 b2
    have HS2 := Lib.hid (STOP.out W2 b2)
    have HB2 := Lib.hid b2
    have HC2 := Lib.hid (HR2.out W2 (HB1W.out.trans (b2.mono HB1W.out.size)))
    have lb2 : w.heap.size + 1 < W2.heap.size := World.block_lt_of_cell? W2 _ e1
    clear b2 q0 q1 q2 q3 q4 cn cr fr
    cases u1 with
    | false =>
      have HE := Lib.hid (HS2.out (by rw [HU.out]; rfl))
      clear t0 t1 t2 t3 t4
      gi_wp2_with fail
      refine ⟨trivial, ?_⟩
      gi_wp2_with fail
      exact HE.out
    | true =>
      gi_wp2_with fail
      refine ⟨trivial, CallsIn.inRound lp ((callsIn_wide.2 HC2.out).mono ?_)⟩
      rintro e W3 ⟨rfl, b3⟩
      have HB3 := Lib.hid (HB2.out.trans (b3.mono HB2.out.size))
      obtain ⟨x0, x1, x2, x3, x4⟩ := five_cells (row_below HXB.out HB3.out)
      obtain ⟨y0, y1, y2⟩ := HBOX.out W3 HB3.out
      have HS3 := Lib.hid (STOP.out W3 HB3.out)
      have HN3 := Lib.hid (NEXT.out W3 HB3.out)
      have lb3 : w.heap.size + 1 < W3.heap.size := World.block_lt_of_cell? W3 _ y1
      clear b3 t0 t1 t2 t3 t4 e0 e1 e2 lb2 x1 x3
      cases u2 with
      | false =>
        have HE := Lib.hid (HS3.out (by rw [HU.out]; rfl))
        gi_wp2_with fail
        exact HE.out
      | true =>
        cases s2 with
        | true =>
          have HE := Lib.hid (HS3.out (by rw [HU.out]; rfl))
          gi_wp2_with fail
          exact HE.out
        | false =>
          have HE := Lib.hid (HN3.out (by rw [HU.out]; rfl))
          gi_wp2_with fail
          exact HE.out
  case done =>
    rintro X D W hD hXD ⟨hI, hf⟩ hX hK
    have hfol : Tryz.prog.follows .mixedOrders = true := by kernel_rfl
    have hyes : rightsU (l.map plX) m = true := by
      rw [List.length_zipIdx, List.take_length] at hf
      refine rights_of (by omega) (by omega) (by rw [List.length_map, HN.out]; exact a3) fun y hy => ?_
      obtain ⟨x, hx, rfl⟩ := List.mem_map.1 hy
      exact hf x hx
    have cr := hI.rb.cell
    have fr : W.frozen? ⟨w.heap.size + 1, 0, none⟩ = false := hI.rb.frozen
    have lr := hI.rb.lt
    have i2 := hI.set true
    have mp : Moves (fun k => k = D) (W.setCell ⟨w.heap.size + 1, 0, none⟩ (.bool true)) ((W.setCell ⟨w.heap.size + 1, 0, none⟩ (.bool true)).putObj D (.deferred none)) := Moves.putObj rfl
    have e2 : ((W.setCell ⟨w.heap.size + 1, 0, none⟩ (.bool true)).putObj D (.deferred none)).cell? ⟨w.heap.size + 1, 0, none⟩ = some (.bool true) := (show Boxed ((W.setCell ⟨w.heap.size + 1, 0, none⟩ (.bool true)).putObj D (.deferred none)) (w.heap.size + 1) 4 (.bool true) from row_keep i2.rb mp (by omega)).cell
    have hK2 := row_keep hK (Moves.setCell (S := fun k => k = w.heap.size + 1) (w := W) (a := ⟨w.heap.size + 1, 0, none⟩) (v := .bool true) rfl) (by omega)
    have HPP : Hid (P (.returned (.bool true)) ((W.setCell ⟨w.heap.size + 1, 0, none⟩ (.bool true)).putObj D (.deferred none))) := by
      rw [← HP.out]
      exact Lib.hid ⟨by rw [hyes], Moves.below i2.below i2.below.size mp (fun k e => by omega)⟩
    clear hyes hI hf hX hK hz1 hz2 i2 mp
    gi_wp2
    try rw [Exit.noGoto_ret]
    refine ⟨by simp, .inl ⟨_, _, rfl, run_takeDeferred hK2, ?_⟩⟩
    exact ⟨_, results_cellQ rfl _ _ _ _ _ rfl Tryz.underlying4 rfl e2, HPP.out⟩
  case stop =>
    rintro X D c pre W hD hXD hpre ⟨rfl, hI, y, hy, hno⟩ hX hK
    have mp : Moves (fun k => k = D) W (W.putObj D (.deferred none)) := Moves.putObj rfl
    have e2 : (W.putObj D (.deferred none)).cell? ⟨w.heap.size + 1, 0, none⟩ = some (.bool false) := (show Boxed (W.putObj D (.deferred none)) (w.heap.size + 1) 4 (.bool false) from row_keep hI.rb mp (by omega)).cell
    have hr : rightsU (l.map plX) m = false := by
      obtain ⟨i, hi⟩ := List.getElem?_of_mem hy
      exact rights_bad (j := i) (x := plX y) (by rw [List.getElem?_map, hi]; rfl) hno
    have HPP : Hid (P (.returned (.bool false)) (W.putObj D (.deferred none))) := by
      rw [← HP.out]
      exact Lib.hid ⟨by rw [hr], Moves.below hI.below hI.below.size mp (fun k e => by omega)⟩
    clear hI hX hz1 hz2 mp hr hno
    gi_wp2
    try rw [Exit.noGoto_ret]
    refine ⟨by simp, .inl ⟨_, _, rfl, run_takeDeferred hK, ?_⟩⟩
    exact ⟨_, results_cellQ rfl _ _ _ _ _ rfl Tryz.underlying4 rfl e2, HPP.out⟩
end Go.Proofs.YtnmhdcbpbaanoaaGreatDoor
namespace Go.Proofs.YtnmhdcbpbaanoaaGreatDoor
open Go.RowKit Go.Shelf Go.Maps
attribute [local go_sem] Oper.semAt_some

def NewQ (lo : Option Addr) (ln lcap : Nat) (back : Bool) (ys : List ItemP) (w : World) (e : Ending) (w' : World) : Prop := ∃ M b o cap, w.heap.size ≤ M ∧ b ≠ M ∧ (0 < ys.length → ∀ k, inQ o k → k ≠ M) ∧ e = .returned (mV M) ∧ MatAt w' M (.slice lo ln lcap) back (.slice o ys.length cap) zeroF zeroF (.map (some b)) ∧ AtI w' o ys ∧ FitMap w' b M ∧ Below w.heap.size w w'
set_option maxHeartbeats 1000000 in
theorem forth_any (o lo : Option Addr) (xs : List ItemP) (cap ln lcap : Nat) (w : World) (hA : AtI w o xs) :
    Calls Tryz.prog 56 #[.slice o xs.length cap, .slice lo ln lcap] w (NewQ lo ln lcap false xs w) := by
  have HC := Lib.hid (matcherOf_any lo ln lcap false o xs.length cap w)
  have HA := Lib.hid hA
  obtain ⟨P, hP⟩ : ∃ P, NewQ lo ln lcap false xs w = P := ⟨_, rfl⟩
  have HP := Lib.hid hP
  rw [hP]
  obtain ⟨n, hnn⟩ : ∃ n, xs.length = n := ⟨_, rfl⟩
  have HN := Lib.hid hnn
  rw [hnn] at HC ⊢
  clear hP hA hnn
  go_enter Tryz.func56, Tryz.ntmps56
  go_wp2_with fail
  refine HC.out.mono ?_
  rintro e w2 ⟨M, b, h1, h2, h3, rfl, h4, h5, h6⟩
  have HQ : Hid (P (.returned (mV M)) w2) := by
    rw [← HP.out]
    exact Lib.hid ⟨M, b, o, cap, h1, h3, fun h0 k hk => by have := HA.out.lt h0 hk; omega, rfl, by rw [HN.out]; exact h4, HA.out.below h6, h5, h6⟩
  clear h1 h2 h3 h4 h5 h6
  go_wp2
  first | exact HQ.out | (go_ret; exact HQ.out)
set_option maxHeartbeats 2000000 in
theorem back_any (o lo : Option Addr) (xs : List ItemP) (cap ln lcap : Nat) (hn : xs.length ≤ 1000) (w : World) (hA : AtI w o xs) :
    Calls Tryz.prog 54 #[.slice o xs.length cap, .slice lo ln lcap] w (NewQ lo ln lcap true xs.reverse w) := by
  have HC := Lib.hid (clone_any o xs cap hn w hA)
  have HL := Lib.hid (show xs.reverse.length = xs.length from List.length_reverse)
  obtain ⟨P, hP⟩ : ∃ P, NewQ lo ln lcap true xs.reverse w = P := ⟨_, rfl⟩
  have HP := Lib.hid hP
  rw [hP]
  have FIN : Hid (∀ (o1 : Option Addr) (c1 : Nat) (W : World), AtI W o1 xs.reverse → Below w.heap.size w W → Calls Tryz.prog 82 #[.agg #[.slice lo ln lcap, .bool true], .slice o1 xs.length c1] W fun e W' => ∃ M, e = .returned (mV M) ∧ P (.returned (mV M)) W') := Lib.hid fun o1 c1 W h1 hb => by
    refine (matcherOf_any lo ln lcap true o1 xs.length c1 W).mono ?_
    rintro e w2 ⟨M, b, h2, h3, h4, rfl, h5, h6, h7⟩
    refine ⟨M, rfl, ?_⟩
    rw [← HP.out]
    exact ⟨M, b, o1, c1, by have := hb.size; omega, h4, fun h0 k hk => by have := h1.lt h0 hk; omega, rfl, by rw [HL.out]; exact h5, h1.below h7, h6, hb.trans (h7.mono hb.size)⟩
  have RV : Hid (∀ (o1 : Option Addr) (c1 : Nat) (W : World), W.ownsRow w.heap.size 97 2 (.slice o1 xs.length c1) xs.length (cellsI xs) → Below w.heap.size w W → Calls Tryz.prog 81 #[.slice o1 xs.length c1] W fun e W' => (∃ v, e = .returned v) ∧ AtI W' o1 xs.reverse ∧ Below w.heap.size w W') := Lib.hid fun o1 c1 W ho hb => by
    rcases Nat.eq_zero_or_pos xs.length with h0 | h0
    · obtain rfl := List.eq_nil_of_length_eq_zero h0
      refine (reverse_none o1 c1 W).mono ?_
      rintro e w2 ⟨hv, rfl⟩
      exact ⟨hv, fun h => absurd h (Nat.not_lt_zero _), hb⟩
    · obtain ⟨g, rfl, hg, hr⟩ := rowI_own ho h0
      refine (reverse_any g xs c1 (by omega) h0 W hr).mono ?_
      rintro e w2 ⟨hv, h2, h3⟩
      exact ⟨hv, h2.atI, Moves.below hb hb.size h3 (fun k e => by omega)⟩
  obtain ⟨n, hnn⟩ : ∃ n, xs.length = n := ⟨_, rfl⟩
  unfold CloneQ at HC
  rw [hnn] at HC FIN RV ⊢
  clear hP hA hnn hn HL
  go_enter Tryz.func54, Tryz.ntmps54
  go_wp2_with fail
  refine HC.out.mono ?_
  rintro e w2 ⟨o1, c1, rfl, ho, hb⟩
  have R2 := Lib.hid (RV.out o1 c1 w2 ho hb)
  clear ho hb
  go_wp2_with fail
  refine R2.out.mono ?_
  rintro e w3 ⟨⟨v, rfl⟩, ha, hb⟩
  have F3 := Lib.hid (FIN.out o1 c1 w3 ha hb)
  clear ha hb
  go_wp2_with fail
  refine F3.out.mono ?_
  rintro e w4 ⟨M, rfl, hp⟩
  have HQ := Lib.hid hp
  clear hp
  go_wp2
  first | exact HQ.out | (go_ret; exact HQ.out)
theorem isPlace_any (at_ : Int) (o : Option Addr) (n cap : Nat) (w : World) : Calls Tryz.prog 53 #[.int .i64 at_, .slice o n cap] w fun e w' => e = .returned (.bool (decide (0 ≤ at_ ∧ at_ ≤ (n : Nat)))) ∧ w = w' := by
  by_cases h0 : 0 ≤ at_
  · by_cases h1 : at_ ≤ ((n : Nat) : Int)
    · have hd : decide (0 ≤ at_ ∧ at_ ≤ (n : Nat)) = true := decide_eq_true ⟨h0, h1⟩
      rw [hd]
      clear hd
      go_enter Tryz.func53, Tryz.ntmps53
      go_wp2
      go_ret
      exact ⟨rfl, rfl⟩
    · have hd : decide (0 ≤ at_ ∧ at_ ≤ (n : Nat)) = false := decide_eq_false (fun h => h1 h.2)
      rw [hd]
      clear hd
      go_enter Tryz.func53, Tryz.ntmps53
      go_wp2
      go_ret
      exact ⟨rfl, rfl⟩
  · have hd : decide (0 ≤ at_ ∧ at_ ≤ (n : Nat)) = false := decide_eq_false (fun h => h0 h.1)
    rw [hd]
    clear hd
    go_enter Tryz.func53, Tryz.ntmps53
    go_wp2
    go_ret
    exact ⟨rfl, rfl⟩
theorem fits_new {lo : Option Addr} {l : List Int} {lcap : Nat} {back : Bool} {ys : List ItemP} {w w2 : World} {e : Ending} (whole : Bool) (hn : ys.length ≤ 10) (hw : howP ys) (hl : l.length ≤ 1000000) (hL : NumsAt w lo l) (h : NewQ lo l.length lcap back ys w e w2) :
    ∃ M, e = .returned (mV M) ∧ Below w.heap.size w w2 ∧ Calls Tryz.prog 55 #[mV M, .bool whole] w2 fun e w' => e = .returned (.bool (fitsG whole ys (listN back l))) ∧ Below w.heap.size w w' := by
  obtain ⟨M, b, o, cap, h1, h2, h3, rfl, h4, h5, h6, h7⟩ := h
  refine ⟨M, rfl, h7, (fits_any b M cap lcap o lo back whole ys l zeroF zeroF w2 hn hw hl h5 (hL.below h7) h6 h2 h3 (fun h0 k hk => by have := hL.ltQ h0 hk; omega) h4).mono ?_⟩
  rintro e w3 ⟨rfl, hm⟩
  exact ⟨rfl, Moves.below h7 h7.size hm (fun k e => by omega)⟩
end Go.Proofs.YtnmhdcbpbaanoaaGreatDoor
namespace Go.Proofs.YtnmhdcbpbaanoaaGreatDoor
open Go.RowKit Go.Shelf Go.Maps
attribute [local go_sem] Oper.semAt_some

theorem NumsAt.takeQ {w : World} {o : Option Addr} {l : List Int} (h : NumsAt w o l) (k : Nat) : NumsAt w o (l.take k) := fun hn => by
  rw [List.length_take] at hn
  obtain ⟨g, off, ho, hc⟩ := h (by omega)
  refine ⟨g, off, ho, fun j x hx => hc j x ?_⟩
  rw [List.getElem?_take] at hx
  split at hx
  · exact hx
  · cases hx
theorem behindA_some {start : Bool} {xs : List ItemP} {l : List Int} {a : Nat} (hr : rightB xs 32 = true) (ha : a ≤ l.length) : behindA start xs l ((a : Nat) : Int) = fitsG start xs.reverse (listN true (l.take a)) := by
  have hw := rightB_how hr
  unfold behindA fitsG listN
  rw [hr, decide_eq_true (show (0 : Int) ≤ ((a : Nat) : Int) ∧ ((a : Nat) : Int) ≤ (l.length : Nat) by omega), Int.toNat_natCast]
  cases start with
  | true =>
    simp only [if_true, Bool.true_and]
    rw [back_all hw]
  | false =>
    simp only [if_true, Bool.true_and, Bool.false_eq_true, if_false]
    rw [back_some hw ha]
theorem behindA_right {start : Bool} {xs : List ItemP} {l : List Int} {at_ : Int} (hr : rightB xs 32 = false) : behindA start xs l at_ = false := by
  unfold behindA
  rw [hr]
  rfl
theorem behindA_place {start : Bool} {xs : List ItemP} {l : List Int} {at_ : Int} (h : ¬ (0 ≤ at_ ∧ at_ ≤ l.length)) : behindA start xs l at_ = false := by
  unfold behindA
  rw [decide_eq_false h, Bool.and_false]
  rfl
set_option maxRecDepth 100000 in
set_option maxHeartbeats 4000000 in
theorem Behind_anyQ (start : Bool) (o lo : Option Addr) (xs : List ItemP) (l : List Int) (cap lcap : Nat) (at_ : Int) (hn : xs.length ≤ 1000) (hl : l.length ≤ 100000) (hlc : l.length ≤ lcap) (w : World) (hA : AtI w o xs) (hL : NumsAt w lo l) :
    Calls Tryz.prog 31 #[patV start o xs.length cap, .slice lo l.length lcap, .int .i64 at_] w fun e w' => e = .returned (.bool (behindA start xs l at_)) ∧ Below w.heap.size w w' := by
  obtain ⟨w1, hw1⟩ : ∃ w1, w.alloc (patO start o xs.length cap) = w1 := ⟨_, rfl⟩
  have b1 : Below w.heap.size w w1 := by rw [← hw1]; exact (Below.refl _ _).alloc (Nat.le_refl _) _
  have r1 : w1.heap[w.heap.size]? = some (patO start o xs.length cap) := by rw [← hw1]; exact heap_alloc_new _ _
  have HR := Lib.hid (Right_anyQ start o xs cap 32 (by omega) w1 (hA.below b1))
  obtain ⟨P, hP⟩ : ∃ P, (fun (e : Ending) w' => e = .returned (.bool (behindA start xs l at_)) ∧ Below w.heap.size w w') = P := ⟨_, rfl⟩
  have HP := Lib.hid hP
  rw [hP]
  have HW1 := Lib.hid hw1
  have HB1 := Lib.hid b1
  have R1 := Lib.hid r1
  obtain ⟨q0, q1⟩ := pat_cells r1
  cases hr : rightB xs 32 with
  | false =>
    rw [hr] at HR
    have HQ : Hid (∀ W, Below w1.heap.size w1 W → P (.returned (.bool false)) W) := Lib.hid fun W hb => by
      rw [← HP.out]
      exact ⟨by rw [behindA_right hr], HB1.out.trans (hb.mono HB1.out.size)⟩
    obtain ⟨n, hnn⟩ : ∃ n, xs.length = n := ⟨_, rfl⟩
    obtain ⟨m, hmm⟩ : ∃ m, l.length = m := ⟨_, rfl⟩
    rw [hnn] at HR q1 HW1 R1 ⊢
    rw [hmm] at ⊢
    clear hP hw1 b1 r1 hA hL hnn hmm hn hl hlc hr
    go_enter Tryz.func31, Tryz.ntmps31
    go_wp2_with fail
    rw [HW1.out]
    refine HR.out.mono ?_
    rintro e w2 ⟨rfl, b2⟩
    have HQ2 := Lib.hid (HQ.out w2 b2)
    clear b2
    go_wp2
    first | exact HQ2.out | (go_ret; exact HQ2.out)
  | true =>
    rw [hr] at HR
    by_cases hp : 0 ≤ at_ ∧ at_ ≤ ((l.length : Nat) : Int)
    · obtain ⟨a, rfl⟩ := Int.eq_ofNat_of_zero_le hp.1
      have hal : a ≤ l.length := by omega
      have hlt : (l.take a).length = a := by rw [List.length_take]; omega
      have PL : Hid (∀ W, Calls Tryz.prog 53 #[.int .i64 (a : Nat), .slice lo l.length lcap] W fun e w' => e = .returned (.bool true) ∧ W = w') := Lib.hid fun W => by
        have := isPlace_any ((a : Nat) : Int) lo l.length lcap W
        rwa [decide_eq_true hp] at this
      have BO : Hid (∀ W, Below w1.heap.size w1 W → Calls Tryz.prog 54 #[.slice o xs.length cap, .slice lo a lcap] W fun e w3 => ∃ M, e = .returned (mV M) ∧ w3.cell? ⟨w.heap.size, 0, none⟩ = some (.bool start) ∧ w3.cell? ⟨w.heap.size, 1, none⟩ = some (.slice o xs.length cap) ∧ Hid (Calls Tryz.prog 55 #[mV M, .bool start] w3 fun e w' => ∃ b, e = .returned (.bool b) ∧ P (.returned (.bool b)) w')) := Lib.hid fun W hb => by
        have hbw := HB1.out.trans (hb.mono HB1.out.size)
        have h1 := back_any o lo xs cap (l.take a).length lcap hn W (hA.below hbw)
        rw [hlt] at h1
        refine h1.mono fun e w3 hq => ?_
        rw [← hlt] at hq
        obtain ⟨M, he, hb2, hc⟩ := fits_new start (by rw [List.length_reverse]; exact (rightB_parts hr).2.1) (howP_reverse (rightB_how hr)) (by rw [hlt]; omega) ((hL.takeQ a).below hbw) hq
        obtain ⟨p0, p1⟩ := pat_cells (row_below (row_below R1.out hb) hb2)
        refine ⟨M, he, p0, p1, Lib.hid (hc.mono ?_)⟩
        rintro e w' ⟨rfl, h2⟩
        refine ⟨_, rfl, ?_⟩
        rw [← HP.out]
        exact ⟨by rw [behindA_some hr hal], hbw.trans (h2.mono hbw.size)⟩
      obtain ⟨n, hnn⟩ : ∃ n, xs.length = n := ⟨_, rfl⟩
      obtain ⟨m, hmm⟩ : ∃ m, l.length = m := ⟨_, rfl⟩
      rw [hnn] at HR q1 HW1 R1 BO ⊢
      rw [hmm] at PL hlc hal hl ⊢
      have hac : a ≤ lcap := by omega
      clear hP hw1 b1 r1 hA hL hnn hmm hn hr hp hlt
      go_enter Tryz.func31, Tryz.ntmps31
      go_wp2_with fail
      rw [HW1.out]
      refine HR.out.mono ?_
      rintro e w2 ⟨rfl, b2⟩
      obtain ⟨p0, p1⟩ := pat_cells (row_below R1.out b2)
      have BO2 := Lib.hid (BO.out w2.drew b2.drew)
      clear b2 q0 q1
      go_wp2_with fail
      refine (PL.out _).mono ?_
      rintro e w2' ⟨rfl, rfl⟩
      go_wp2_with fail
      go_region_with (first | (go_at_call 54; refine BO2.out.mono ?_; rintro e w3 ⟨M, rfl, s0, s1, HC⟩) | (go_at_call 55; refine HC.out.mono ?_; rintro e w4 ⟨b, rfl, hp⟩))
      all_goals
        go_simp
        have HQ2 := Lib.hid hp
        clear hp
        go_wp2
        first | exact HQ2.out | (go_ret; exact HQ2.out)
    · have PL : Hid (∀ W, Calls Tryz.prog 53 #[.int .i64 at_, .slice lo l.length lcap] W fun e w' => e = .returned (.bool false) ∧ W = w') := Lib.hid fun W => by
        have := isPlace_any at_ lo l.length lcap W
        rwa [decide_eq_false hp] at this
      have HQ : Hid (∀ W, Below w1.heap.size w1 W → P (.returned (.bool false)) W) := Lib.hid fun W hb => by
        rw [← HP.out]
        exact ⟨by rw [behindA_place hp], HB1.out.trans (hb.mono HB1.out.size)⟩
      obtain ⟨n, hnn⟩ : ∃ n, xs.length = n := ⟨_, rfl⟩
      obtain ⟨m, hmm⟩ : ∃ m, l.length = m := ⟨_, rfl⟩
      rw [hnn] at HR q1 HW1 R1 ⊢
      rw [hmm] at PL ⊢
      clear hP hw1 b1 r1 hA hL hnn hmm hn hl hlc hr hp
      go_enter Tryz.func31, Tryz.ntmps31
      go_wp2_with fail
      rw [HW1.out]
      refine HR.out.mono ?_
      rintro e w2 ⟨rfl, b2⟩
      have HQ2 := Lib.hid (HQ.out w2 b2)
      clear b2
      go_wp2_with fail
      refine (PL.out _).mono ?_
      rintro e w2' ⟨rfl, rfl⟩
      go_wp2
      first | exact HQ2.out | (go_ret; exact HQ2.out)
end Go.Proofs.YtnmhdcbpbaanoaaGreatDoor
namespace Go.Proofs.YtnmhdcbpbaanoaaGreatDoor
open Go.RowKit Go.Shelf Go.Maps
attribute [local go_sem] Oper.semAt_some

theorem aheadA_some {start : Bool} {xs : List ItemP} {l : List Int} {a : Nat} (hr : rightB xs 32 = true) (ha : a ≤ l.length) (hs : ¬ (start = true ∧ 0 < a)) : aheadA start xs l ((a : Nat) : Int) = fitsG false xs (listN false (l.drop a)) := by
  have e : (!start || decide (((a : Nat) : Int) = 0)) = true := by
    cases start with
    | false => rfl
    | true =>
      have : a = 0 := by
        rcases Nat.eq_zero_or_pos a with h | h
        · exact h
        · exact absurd ⟨rfl, h⟩ hs
      subst this
      rfl
  unfold aheadA fitsG listN
  rw [hr, decide_eq_true (show (0 : Int) ≤ ((a : Nat) : Int) ∧ ((a : Nat) : Int) ≤ (l.length : Nat) by omega), e, Int.toNat_natCast]
  rfl
theorem aheadA_right {start : Bool} {xs : List ItemP} {l : List Int} {at_ : Int} (hr : rightB xs 32 = false) : aheadA start xs l at_ = false := by
  unfold aheadA
  rw [hr]
  rfl
theorem aheadA_place {start : Bool} {xs : List ItemP} {l : List Int} {at_ : Int} (h : ¬ (0 ≤ at_ ∧ at_ ≤ l.length)) : aheadA start xs l at_ = false := by
  unfold aheadA
  rw [decide_eq_false h, Bool.and_false]
  rfl
theorem aheadA_start {xs : List ItemP} {l : List Int} {at_ : Int} (h : 0 < at_) : aheadA true xs l at_ = false := by
  unfold aheadA
  rw [decide_eq_false (show ¬ at_ = 0 by omega)]
  simp
def dropO (lo : Option Addr) (lcap a : Nat) : Option Addr := lo.map fun p => if lcap = a then p else ⟨p.block, p.off + a, p.spot⟩
theorem NumsAt.dropQ {w : World} {lo : Option Addr} {l : List Int} {lcap : Nat} (h : NumsAt w lo l) (hc : l.length ≤ lcap) (a : Nat) : NumsAt w (dropO lo lcap a) (l.drop a) := fun hn => by
  rw [List.length_drop] at hn
  obtain ⟨g, off, rfl, hc'⟩ := h (by omega)
  refine ⟨g, off + a, by unfold dropO; rw [Option.map_some, if_neg (by omega)], fun j x hx => ?_⟩
  rw [List.getElem?_drop] at hx
  rw [Nat.add_assoc]
  exact hc' _ x hx
set_option maxRecDepth 100000 in
set_option maxHeartbeats 4000000 in
theorem Ahead_anyQ (start : Bool) (o lo : Option Addr) (xs : List ItemP) (l : List Int) (cap lcap : Nat) (at_ : Int) (hn : xs.length ≤ 1000) (hl : l.length ≤ 100000) (hlc : l.length ≤ lcap) (hlz : lo = none → lcap = 0) (hls : ∀ p, lo = some p → 0 < lcap → p.spot = none) (w : World) (hA : AtI w o xs) (hL : NumsAt w lo l) :
    Calls Tryz.prog 32 #[patV start o xs.length cap, .slice lo l.length lcap, .int .i64 at_] w fun e w' => e = .returned (.bool (aheadA start xs l at_)) ∧ Below w.heap.size w w' := by
  obtain ⟨w1, hw1⟩ : ∃ w1, w.alloc (patO start o xs.length cap) = w1 := ⟨_, rfl⟩
  have b1 : Below w.heap.size w w1 := by rw [← hw1]; exact (Below.refl _ _).alloc (Nat.le_refl _) _
  have r1 : w1.heap[w.heap.size]? = some (patO start o xs.length cap) := by rw [← hw1]; exact heap_alloc_new _ _
  have HR := Lib.hid (Right_anyQ start o xs cap 32 (by omega) w1 (hA.below b1))
  obtain ⟨P, hP⟩ : ∃ P, (fun (e : Ending) w' => e = .returned (.bool (aheadA start xs l at_)) ∧ Below w.heap.size w w') = P := ⟨_, rfl⟩
  have HP := Lib.hid hP
  rw [hP]
  have HW1 := Lib.hid hw1
  have HB1 := Lib.hid b1
  have R1 := Lib.hid r1
  obtain ⟨q0, q1⟩ := pat_cells r1
  have FALSE : aheadA start xs l at_ = false → Hid (∀ W, Below w1.heap.size w1 W → P (.returned (.bool false)) W) := fun he => Lib.hid fun W hb => by
      rw [← HP.out]
      exact ⟨by rw [he], HB1.out.trans (hb.mono HB1.out.size)⟩
  cases hr : rightB xs 32 with
  | false =>
    rw [hr] at HR
    have HQ := FALSE (aheadA_right hr)
    obtain ⟨n, hnn⟩ : ∃ n, xs.length = n := ⟨_, rfl⟩
    obtain ⟨m, hmm⟩ : ∃ m, l.length = m := ⟨_, rfl⟩
    rw [hnn] at HR q1 HW1 R1 ⊢
    rw [hmm] at ⊢
    clear hP hw1 b1 r1 hA hL hnn hmm hn hl hlc hr FALSE hlz hls
    go_enter Tryz.func32, Tryz.ntmps32
    go_wp2_with fail
    rw [HW1.out]
    refine HR.out.mono ?_
    rintro e w2 ⟨rfl, b2⟩
    have HQ2 := Lib.hid (HQ.out w2 b2)
    clear b2
    go_wp2
    first | exact HQ2.out | (go_ret; exact HQ2.out)
  | true =>
    rw [hr] at HR
    by_cases hp : 0 ≤ at_ ∧ at_ ≤ ((l.length : Nat) : Int)
    · obtain ⟨a, rfl⟩ := Int.eq_ofNat_of_zero_le hp.1
      have hal : a ≤ l.length := by omega
      have PL : Hid (∀ W, Calls Tryz.prog 53 #[.int .i64 (a : Nat), .slice lo l.length lcap] W fun e w' => e = .returned (.bool true) ∧ W = w') := Lib.hid fun W => by
        have := isPlace_any ((a : Nat) : Int) lo l.length lcap W
        rwa [decide_eq_true hp] at this
      by_cases hs : start = true ∧ 0 < a
      · obtain ⟨rfl, hs⟩ := hs
        have HQ := FALSE (aheadA_start (by omega))
        have hs2 : (0 : Int) < ((a : Nat) : Int) := by omega
        obtain ⟨n, hnn⟩ : ∃ n, xs.length = n := ⟨_, rfl⟩
        obtain ⟨m, hmm⟩ : ∃ m, l.length = m := ⟨_, rfl⟩
        rw [hnn] at HR q1 HW1 R1 ⊢
        rw [hmm] at PL ⊢
        clear hP hw1 b1 r1 hA hL hnn hmm hn hl hlc hr hp hal FALSE hlz hls
        go_enter Tryz.func32, Tryz.ntmps32
        go_wp2_with fail
        rw [HW1.out]
        refine HR.out.mono ?_
        rintro e w2 ⟨rfl, b2⟩
        obtain ⟨p0, p1⟩ := pat_cells (row_below R1.out b2)
        have HQ2 := Lib.hid (HQ.out w2 b2)
        clear b2 q0 q1
        go_wp2_with fail
        refine (PL.out _).mono ?_
        rintro e w2' ⟨rfl, rfl⟩
        go_wp2
        first | exact HQ2.out | (go_ret; exact HQ2.out)
      · have hdl : (l.drop a).length = l.length - a := List.length_drop
        have BO : Hid (∀ W, Below w1.heap.size w1 W → Calls Tryz.prog 56 #[.slice o xs.length cap, .slice (dropO lo lcap a) (l.length - a) (lcap - a)] W fun e w3 => ∃ M, e = .returned (mV M) ∧ Hid (Calls Tryz.prog 55 #[mV M, .bool false] w3 fun e w' => ∃ b, e = .returned (.bool b) ∧ P (.returned (.bool b)) w')) := Lib.hid fun W hb => by
          have hbw := HB1.out.trans (hb.mono HB1.out.size)
          have h1 := forth_any o (dropO lo lcap a) xs cap (l.drop a).length (lcap - a) W (hA.below hbw)
          rw [hdl] at h1
          refine h1.mono fun e w3 hq => ?_
          rw [← hdl] at hq
          obtain ⟨M, he, hb2, hc⟩ := fits_new false (rightB_parts hr).2.1 (rightB_how hr) (by rw [hdl]; omega) ((hL.dropQ hlc a).below hbw) hq
          refine ⟨M, he, Lib.hid (hc.mono ?_)⟩
          rintro e w' ⟨rfl, h2⟩
          refine ⟨_, rfl, ?_⟩
          rw [← HP.out]
          exact ⟨by rw [aheadA_some hr hal hs], hbw.trans (h2.mono hbw.size)⟩
        obtain ⟨n, hnn⟩ : ∃ n, xs.length = n := ⟨_, rfl⟩
        obtain ⟨m, hmm⟩ : ∃ m, l.length = m := ⟨_, rfl⟩
        rw [hnn] at HR q1 HW1 R1 BO ⊢
        rw [hmm] at PL hlc hal hl BO ⊢
        have hac : a ≤ lcap := by omega
        have hs2 : start = false ∨ (start = true ∧ a = 0) := by
          cases start with
          | false => exact .inl rfl
          | true =>
            refine .inr ⟨rfl, ?_⟩
            rcases Nat.eq_zero_or_pos a with h | h
            · exact h
            · exact absurd ⟨rfl, h⟩ hs
        clear hP hw1 b1 r1 hA hL hnn hmm hn hr hp FALSE hs hdl
        cases lo with
        | none =>
          obtain rfl := hlz rfl
          obtain rfl : m = 0 := by omega
          obtain rfl : a = 0 := by omega
          replace BO : Hid (∀ W, Below w1.heap.size w1 W → Calls Tryz.prog 56 #[.slice o n cap, .slice none 0 0] W fun e w3 => ∃ M, e = .returned (mV M) ∧ Hid (Calls Tryz.prog 55 #[mV M, .bool false] w3 fun e w' => ∃ b, e = .returned (.bool b) ∧ P (.returned (.bool b)) w')) := BO
          clear hlz hls hs2 hal hlc hac hl
          cases start
          · skip
            go_enter Tryz.func32, Tryz.ntmps32
            go_wp2_with fail
            rw [HW1.out]
            refine HR.out.mono ?_
            rintro e w2 ⟨rfl, b2⟩
            obtain ⟨p0, p1⟩ := pat_cells (row_below R1.out b2)
            have BO2 := Lib.hid (BO.out w2.drew b2.drew)
            clear b2 q0 q1
            go_wp2_with fail
            refine (PL.out _).mono ?_
            rintro e w2' ⟨rfl, rfl⟩
            go_wp2_with fail
            go_region_with (first | (go_at_call 56; refine BO2.out.mono ?_; rintro e w3 ⟨M, rfl, HC⟩) | (go_at_call 55; refine HC.out.mono ?_; rintro e w4 ⟨b, rfl, hp⟩))
            all_goals
              go_simp
              have HQ2 := Lib.hid hp
              clear hp
              go_wp2
              first | exact HQ2.out | (go_ret; exact HQ2.out)
          · skip
            go_enter Tryz.func32, Tryz.ntmps32
            go_wp2_with fail
            rw [HW1.out]
            refine HR.out.mono ?_
            rintro e w2 ⟨rfl, b2⟩
            obtain ⟨p0, p1⟩ := pat_cells (row_below R1.out b2)
            have BO2 := Lib.hid (BO.out w2.drew b2.drew)
            clear b2 q0 q1
            go_wp2_with fail
            refine (PL.out _).mono ?_
            rintro e w2' ⟨rfl, rfl⟩
            go_wp2_with fail
            go_region_with (first | (go_at_call 56; refine BO2.out.mono ?_; rintro e w3 ⟨M, rfl, HC⟩) | (go_at_call 55; refine HC.out.mono ?_; rintro e w4 ⟨b, rfl, hp⟩))
            all_goals
              go_simp
              have HQ2 := Lib.hid hp
              clear hp
              go_wp2
              first | exact HQ2.out | (go_ret; exact HQ2.out)
        | some p =>
          by_cases hz0 : lcap = 0
          · subst hz0
            obtain rfl : m = 0 := by omega
            obtain rfl : a = 0 := by omega
            replace BO : Hid (∀ W, Below w1.heap.size w1 W → Calls Tryz.prog 56 #[.slice o n cap, .slice (some p) 0 0] W fun e w3 => ∃ M, e = .returned (mV M) ∧ Hid (Calls Tryz.prog 55 #[mV M, .bool false] w3 fun e w' => ∃ b, e = .returned (.bool b) ∧ P (.returned (.bool b)) w')) := BO
            clear hlz hls hs2 hal hlc hac hl
            cases start
            · skip
              go_enter Tryz.func32, Tryz.ntmps32
              go_wp2_with fail
              rw [HW1.out]
              refine HR.out.mono ?_
              rintro e w2 ⟨rfl, b2⟩
              obtain ⟨p0, p1⟩ := pat_cells (row_below R1.out b2)
              have BO2 := Lib.hid (BO.out w2.drew b2.drew)
              clear b2 q0 q1
              go_wp2_with fail
              refine (PL.out _).mono ?_
              rintro e w2' ⟨rfl, rfl⟩
              go_wp2_with fail
              go_region_with (first | (go_at_call 56; refine BO2.out.mono ?_; rintro e w3 ⟨M, rfl, HC⟩) | (go_at_call 55; refine HC.out.mono ?_; rintro e w4 ⟨b, rfl, hp⟩))
              all_goals
                go_simp
                have HQ2 := Lib.hid hp
                clear hp
                go_wp2
                first | exact HQ2.out | (go_ret; exact HQ2.out)
            · skip
              go_enter Tryz.func32, Tryz.ntmps32
              go_wp2_with fail
              rw [HW1.out]
              refine HR.out.mono ?_
              rintro e w2 ⟨rfl, b2⟩
              obtain ⟨p0, p1⟩ := pat_cells (row_below R1.out b2)
              have BO2 := Lib.hid (BO.out w2.drew b2.drew)
              clear b2 q0 q1
              go_wp2_with fail
              refine (PL.out _).mono ?_
              rintro e w2' ⟨rfl, rfl⟩
              go_wp2_with fail
              go_region_with (first | (go_at_call 56; refine BO2.out.mono ?_; rintro e w3 ⟨M, rfl, HC⟩) | (go_at_call 55; refine HC.out.mono ?_; rintro e w4 ⟨b, rfl, hp⟩))
              all_goals
                go_simp
                have HQ2 := Lib.hid hp
                clear hp
                go_wp2
                first | exact HQ2.out | (go_ret; exact HQ2.out)
          · skip
            obtain ⟨g, off, sp⟩ := p
            obtain rfl : sp = none := hls _ rfl (by omega)
            rcases Nat.eq_zero_or_pos a with rfl | hapos
            · replace BO : Hid (∀ W, Below w1.heap.size w1 W → Calls Tryz.prog 56 #[.slice o n cap, .slice (some ⟨g, off, none⟩) m lcap] W fun e w3 => ∃ M, e = .returned (mV M) ∧ Hid (Calls Tryz.prog 55 #[mV M, .bool false] w3 fun e w' => ∃ b, e = .returned (.bool b) ∧ P (.returned (.bool b)) w')) := by
                have e : dropO (some ⟨g, off, none⟩) lcap 0 = some ⟨g, off, none⟩ := by unfold dropO; simp
                rw [e] at BO
                exact BO
              clear hlz hls hs2 hal hlc hac hl
              cases start
              · skip
                go_enter Tryz.func32, Tryz.ntmps32
                go_wp2_with fail
                rw [HW1.out]
                refine HR.out.mono ?_
                rintro e w2 ⟨rfl, b2⟩
                obtain ⟨p0, p1⟩ := pat_cells (row_below R1.out b2)
                have BO2 := Lib.hid (BO.out w2.drew b2.drew)
                clear b2 q0 q1
                go_wp2_with fail
                refine (PL.out _).mono ?_
                rintro e w2' ⟨rfl, rfl⟩
                go_wp2_with fail
                go_region_with (first | (go_at_call 56; refine BO2.out.mono ?_; rintro e w3 ⟨M, rfl, HC⟩) | (go_at_call 55; refine HC.out.mono ?_; rintro e w4 ⟨b, rfl, hp⟩))
                all_goals
                  go_simp
                  have HQ2 := Lib.hid hp
                  clear hp
                  go_wp2
                  first | exact HQ2.out | (go_ret; exact HQ2.out)
              · skip
                go_enter Tryz.func32, Tryz.ntmps32
                go_wp2_with fail
                rw [HW1.out]
                refine HR.out.mono ?_
                rintro e w2 ⟨rfl, b2⟩
                obtain ⟨p0, p1⟩ := pat_cells (row_below R1.out b2)
                have BO2 := Lib.hid (BO.out w2.drew b2.drew)
                clear b2 q0 q1
                go_wp2_with fail
                refine (PL.out _).mono ?_
                rintro e w2' ⟨rfl, rfl⟩
                go_wp2_with fail
                go_region_with (first | (go_at_call 56; refine BO2.out.mono ?_; rintro e w3 ⟨M, rfl, HC⟩) | (go_at_call 55; refine HC.out.mono ?_; rintro e w4 ⟨b, rfl, hp⟩))
                all_goals
                  go_simp
                  have HQ2 := Lib.hid hp
                  clear hp
                  go_wp2
                  first | exact HQ2.out | (go_ret; exact HQ2.out)
            · obtain rfl : start = false := by
                rcases hs2 with h | h
                · exact h
                · omega
              by_cases hca : lcap = a
              · subst hca
                obtain rfl : m = lcap := by omega
                replace BO : Hid (∀ W, Below w1.heap.size w1 W → Calls Tryz.prog 56 #[.slice o n cap, .slice (some ⟨g, off, none⟩) 0 0] W fun e w3 => ∃ M, e = .returned (mV M) ∧ Hid (Calls Tryz.prog 55 #[mV M, .bool false] w3 fun e w' => ∃ b, e = .returned (.bool b) ∧ P (.returned (.bool b)) w')) := by
                  have e : dropO (some ⟨g, off, none⟩) m m = some ⟨g, off, none⟩ := by unfold dropO; simp
                  rw [e, Nat.sub_self] at BO
                  exact BO
                clear hlz hls hs2 hal hlc hac
                skip
                go_enter Tryz.func32, Tryz.ntmps32
                go_wp2_with fail
                rw [HW1.out]
                refine HR.out.mono ?_
                rintro e w2 ⟨rfl, b2⟩
                obtain ⟨p0, p1⟩ := pat_cells (row_below R1.out b2)
                have BO2 := Lib.hid (BO.out w2.drew b2.drew)
                clear b2 q0 q1
                go_wp2_with fail
                refine (PL.out _).mono ?_
                rintro e w2' ⟨rfl, rfl⟩
                go_wp2_with fail
                go_region_with (first | (go_at_call 56; refine BO2.out.mono ?_; rintro e w3 ⟨M, rfl, HC⟩) | (go_at_call 55; refine HC.out.mono ?_; rintro e w4 ⟨b, rfl, hp⟩))
                all_goals
                  go_simp
                  have HQ2 := Lib.hid hp
                  clear hp
                  go_wp2
                  first | exact HQ2.out | (go_ret; exact HQ2.out)
              · replace BO : Hid (∀ W, Below w1.heap.size w1 W → Calls Tryz.prog 56 #[.slice o n cap, .slice (some ⟨g, off + a, none⟩) (m - a) (lcap - a)] W fun e w3 => ∃ M, e = .returned (mV M) ∧ Hid (Calls Tryz.prog 55 #[mV M, .bool false] w3 fun e w' => ∃ b, e = .returned (.bool b) ∧ P (.returned (.bool b)) w')) := by
                  have e : dropO (some ⟨g, off, none⟩) lcap a = some ⟨g, off + a, none⟩ := by unfold dropO; rw [Option.map_some, if_neg hca]
                  rw [e] at BO
                  exact BO
                clear hlz hls hs2
                skip
                go_enter Tryz.func32, Tryz.ntmps32
                go_wp2_with fail
                rw [HW1.out]
                refine HR.out.mono ?_
                rintro e w2 ⟨rfl, b2⟩
                obtain ⟨p0, p1⟩ := pat_cells (row_below R1.out b2)
                have BO2 := Lib.hid (BO.out w2.drew b2.drew)
                clear b2 q0 q1
                go_wp2_with fail
                refine (PL.out _).mono ?_
                rintro e w2' ⟨rfl, rfl⟩
                go_wp2_with fail
                go_region_with (first | (go_at_call 56; refine BO2.out.mono ?_; rintro e w3 ⟨M, rfl, HC⟩) | (go_at_call 55; refine HC.out.mono ?_; rintro e w4 ⟨b, rfl, hp⟩))
                all_goals
                  go_simp
                  have HQ2 := Lib.hid hp
                  clear hp
                  go_wp2
                  first | exact HQ2.out | (go_ret; exact HQ2.out)
    · have PL : Hid (∀ W, Calls Tryz.prog 53 #[.int .i64 at_, .slice lo l.length lcap] W fun e w' => e = .returned (.bool false) ∧ W = w') := Lib.hid fun W => by
        have := isPlace_any at_ lo l.length lcap W
        rwa [decide_eq_false hp] at this
      have HQ := FALSE (aheadA_place hp)
      obtain ⟨n, hnn⟩ : ∃ n, xs.length = n := ⟨_, rfl⟩
      obtain ⟨m, hmm⟩ : ∃ m, l.length = m := ⟨_, rfl⟩
      rw [hnn] at HR q1 HW1 R1 ⊢
      rw [hmm] at PL ⊢
      clear hP hw1 b1 r1 hA hL hnn hmm hn hl hlc hr hp FALSE hlz hls
      go_enter Tryz.func32, Tryz.ntmps32
      go_wp2_with fail
      rw [HW1.out]
      refine HR.out.mono ?_
      rintro e w2 ⟨rfl, b2⟩
      have HQ2 := Lib.hid (HQ.out w2 b2)
      clear b2
      go_wp2_with fail
      refine (PL.out _).mono ?_
      rintro e w2' ⟨rfl, rfl⟩
      go_wp2
      first | exact HQ2.out | (go_ret; exact HQ2.out)
end Go.Proofs.YtnmhdcbpbaanoaaGreatDoor
