/- Shaken by bunq.py. -/
import Derived.Test.YtnmhdcbpbaanoaaGreatDoorBuq21
import Derived.Test.YtnmhdcbpbaanoaaGreatDoorBuq18
import Derived.Test.YtnmhdcbpbaanoaaGreatDoorBuq12
import Derived.Test.YtnmhdcbpbaanoaaGreatDoorBuq20
import Derived.Test.YtnmhdcbpbaanoaaGreatDoorCards
import Derived.Test.YtnmhdcbpbaanoaaGreatDoorTie
import Derived.Test.YtnmhdcbpbaanoaaGreatDoorChecked
import Derived.ProofKit
import Derived.OpenShut
import Derived.Below
import Derived.ChangeSame
import Derived.ChangeMaps5
import Derived.Carry
import Derived.Deep.DeepHandedRow
import Derived.Deep.DeepWitnessRowRef
import Derived.LaidSub
import Derived.LaidHandle
import Derived.Lay
import Derived.MakeChecks
import Derived.Shelf.Vars
import Derived.LaidMore
import Derived.Stop.LaidTwo
namespace Go.Proofs.YtnmhdcbpbaanoaaGreatDoor
open Go.RowKit Go.Shelf Go.Maps
attribute [local go_sem] Oper.semAt_some
attribute [local go_sem ↓] app_hide

theorem rul_own {W : World} {base k : Nat} {v : Value} {xs : List Value} (x : RulX) (ho : W.ownsRow base 37 5 v k xs) (hk : k ≤ 1000) (hbase : base ≤ W.heap.size) :
    ∃ g cap w6, (appSem #[22, 22] 22 #[v, .slice (some ⟨W.heap.size, 0, none⟩) 1 1]).run Tryz.prog (W.alloc (rulO x)) = .ok (.slice (some ⟨g, 0, none⟩) (k + 1) cap) w6 ∧
      w6.ownsRow base 37 5 (.slice (some ⟨g, 0, none⟩) (k + 1) cap) (k + 1) (xs ++ (rulC x).toList) ∧ (W.alloc (rulO x)).grownBy w6 v.ownBlock ∧ (∀ j, (Value.slice (some ⟨g, 0, none⟩) (k + 1) cap).ownBlock = some j → v.ownBlock = some j ∨ j = W.heap.size + 1) := by
  obtain ⟨i0, hi, hz0, hz1, hz2⟩ := info_parts infoRul
  have hb : Below W.heap.size W (W.alloc (rulO x)) := (Below.refl _ _).alloc (Nat.le_refl _) _
  obtain ⟨c0, c1, c2, c3, c4⟩ := rul_cells (heap_alloc_new W (rulO x))
  obtain ⟨v', w6, hr, h2, h3, h4, h5⟩ := run_append_own_at (P := Tryz.prog) _ base 22 22 37 i0 (.agg zeroR) 5 72 Tryz.underlying22 hi hz0 hz1 hz2 rfl (by decide) v k xs (own_below ho hb) ⟨W.heap.size, 0, none⟩ 1 1 (rulC x).toList rfl
    (fun j u hj => by
      match j, hj with
      | 0, hj => cases hj; exact c0
      | 1, hj => cases hj; exact c1
      | 2, hj => cases hj; exact c2
      | 3, hj => cases hj; exact c3
      | 4, hj => cases hj; exact c4) (fun u hu => by
      simp only [List.mem_cons, List.not_mem_nil, or_false] at hu
      rcases hu with rfl | rfl | rfl | rfl | rfl <;> rfl) (by unfold maxLen; omega) (by omega) (by simp; omega)
  obtain ⟨g, cap, rfl⟩ := ownsRow_succ h2
  exact ⟨g, cap, w6, hr, h2, h3, fun j hj => h5.imp (fun h => h.symm.trans hj) (fun h => by rw [h] at hj; cases hj; simp)⟩

structure RlsInv (w : World) (ns : List ByteArray) (S : Array Value) (X : Nat → Prop) (pre : List (List UInt8 × Nat)) (W : World) (xs : List RulX) (v : Value) : Prop where
  far : ∀ k, X k → w.heap.size + 4 ≤ k
  below : Below w.heap.size w W
  size : w.heap.size + 4 ≤ W.heap.size
  src : W.heap[w.heap.size]? = some (.cells S 116 (0, 0))
  lc : Boxed W (w.heap.size + 1) 22 v
  fc : Boxed W (w.heap.size + 2) 58 .nilIface
  so : rulesP ns pre [] = (xs.map plX, .none)
  few : xs.length ≤ 40
  row : W.ownsRow (w.heap.size + 4) 37 5 v xs.length (rulsC xs)
  notX : ∀ k, v.ownBlock = some k → ¬ X k
  its : ItsC W xs
  itk : ItsK (fun k => w.heap.size + 4 ≤ k ∧ k < W.heap.size ∧ ¬ X k ∧ v.ownBlock ≠ some k) xs
structure RlsOut (w : World) (ns : List ByteArray) (X : Nat → Prop) (pre : List (List UInt8 × Nat)) (W : World) (n e : Int) (s : ByteArray) : Prop where
  far : ∀ k, X k → w.heap.size + 4 ≤ k
  below : Below w.heap.size w W
  size : w.heap.size + 4 ≤ W.heap.size
  fc : Boxed W (w.heap.size + 2) 58 (lineVJ n s e)
  so : rulesP ns pre [] = ([], .line n s e)
theorem own_block_ltJ {w : World} {base : Nat} {e : TypeId} {size : Nat} {v : Value} {n : Nat} {xs : List Value} (h : w.ownsRow base e size v n xs) {k : Nat} (hk : v.ownBlock = some k) : base ≤ k ∧ k < w.heap.size ∧ ∃ c fr, w.heap[k]? = some (.cells c e fr) := by
  rcases h.2 with ⟨rfl, _⟩ | ⟨g, cap, cur, rfl, hb, hh, _⟩
  · simp [Value.ownBlock] at hk
  · obtain rfl : g = k := by simpa [Value.ownBlock] using hk
    exact ⟨hb, (Array.getElem?_eq_some_iff.1 hh).1, _, _, hh⟩
theorem RlsInv.moves {w : World} {ns : List ByteArray} {S : Array Value} {X X' : Nat → Prop} {pre : List (List UInt8 × Nat)} {A B : World} {xs : List RulX} {v : Value} (h : RlsInv w ns S X pre A xs v) (hm : Moves X A B) (hX : ∀ k, X' k → (X k ∨ A.heap.size ≤ k) ∧ k < B.heap.size) : RlsInv w ns S X' pre B xs v := by
  have hf := h.far
  have hz := h.size
  have nx : ∀ j, j < w.heap.size + 4 → ¬ X j := fun j hj hx => by have := hf j hx; omega
  refine ⟨?_, Moves.below h.below h.below.size hm (fun k hk => by have := hf k hk; omega), by have := hm.size; omega, row_keep h.src hm (nx _ (by omega)), row_keep h.lc hm (nx _ (by omega)), row_keep h.fc hm (nx _ (by omega)), h.so, h.few, own_movesJ h.row hm h.notX, ?_, h.its.moves hm (fun x hx k hk => (h.itk x hx k hk).2.2.1), ?_⟩
  · intro k hk
    rcases (hX k hk).1 with h1 | h1
    · exact hf k h1
    · omega
  · intro k hk hx
    rcases (hX k hx).1 with h1 | h1
    · exact h.notX k hk h1
    · have := own_block_ltJ h.row hk; omega
  · intro x hx k hk
    obtain ⟨h1, h2, h3, h4⟩ := h.itk x hx k hk
    refine ⟨h1, by have := hm.size; omega, fun h5 => ?_, h4⟩
    rcases (hX k h5).1 with h6 | h6
    · exact h3 h6
    · omega
theorem RlsOut.moves {w : World} {ns : List ByteArray} {X X' : Nat → Prop} {pre : List (List UInt8 × Nat)} {A B : World} {n e : Int} {s : ByteArray} (h : RlsOut w ns X pre A n e s) (hm : Moves X A B) (hX : ∀ k, X' k → (X k ∨ A.heap.size ≤ k) ∧ k < B.heap.size) : RlsOut w ns X' pre B n e s := by
  have hf := h.far
  have hz := h.size
  have nx : ∀ j, j < w.heap.size + 4 → ¬ X j := fun j hj hx => by have := hf j hx; omega
  refine ⟨?_, Moves.below h.below h.below.size hm (fun k hk => by have := hf k hk; omega), by have := hm.size; omega, row_keep h.fc hm (nx _ (by omega)), h.so⟩
  intro k hk
  rcases (hX k hk).1 with h1 | h1
  · exact hf k h1
  · omega
theorem RlsInv.setNil {w : World} {ns : List ByteArray} {S : Array Value} {X : Nat → Prop} {pre : List (List UInt8 × Nat)} {W : World} {xs : List RulX} {v : Value} (h : RlsInv w ns S X pre W xs v) : RlsInv w ns S X pre (W.setCell ⟨w.heap.size + 2, 0, none⟩ .nilIface) xs v := by
  have ms : Moves (fun k => k = w.heap.size + 2) W (W.setCell ⟨w.heap.size + 2, 0, none⟩ .nilIface) := Moves.setCell rfl
  have hz := ms.size
  have hz1 := h.size
  exact ⟨h.far, Moves.below h.below h.below.size ms (fun k e => by omega), by omega, row_keep h.src ms (by omega), row_keep h.lc ms (by omega), h.fc.set _, h.so, h.few, own_movesJ h.row ms (fun k hk e => by have := own_block_ltJ h.row hk; omega), h.notX, h.its.moves ms (fun x hx k hk e => by have := (h.itk x hx k hk).1; omega), fun x hx k hk => by
    obtain ⟨h1, h2, h3, h4⟩ := h.itk x hx k hk
    exact ⟨h1, by omega, h3, h4⟩⟩
def RlsPost (R : List RuleP × ErrJ) (w : World) (e : Ending) (w' : World) : Prop :=
  ∃ v xs, e = .returned (.tuple #[v, errVJ R.2]) ∧ xs.map plX = R.1 ∧ w'.ownsRow w.heap.size 37 5 v xs.length (rulsC xs) ∧ ItsC w' xs ∧ ItsK (fun k => w.heap.size ≤ k ∧ k < w'.heap.size ∧ v.ownBlock ≠ some k) xs ∧ Below w.heap.size w w'
end Go.Proofs.YtnmhdcbpbaanoaaGreatDoor
namespace Go.Proofs.YtnmhdcbpbaanoaaGreatDoor
open Go.RowKit Go.Shelf Go.Maps
attribute [local go_sem] Oper.semAt_some
attribute [local go_sem ↓] app_hide

set_option maxRecDepth 100000 in
set_option maxHeartbeats 4000000 in
theorem rulesJ_any (s : ByteArray) (hs : s.size ≤ 1000000) (b mb nb : Nat) (on : Option Addr) (ns : List ByteArray) (ncap : Nat) (hn : ns.length ≤ 1000) (hz : ∀ s ∈ ns, s.size ≤ 1000) (w : World) (aU aS : Addr) (hQ : GlobQ w aU aS) (hG : KGlob w) (hN : TxtAt w on ns) {m : Int} (hMx : w.cell? ⟨3, 0, none⟩ = some (.int .i64 m)) (hR : ReadAt w b mb nb on ns.length ncap) :
    Calls Tryz.prog 74 #[.agg (srcC s mb nb)] w (RlsPost (rulesP ns (linesN s.data.toList) []) w) := by
  refine (callsIn_wide (n := 6)).1 ?_
  have h1 : 1 ≤ 6 := by omega
  refine callsIn_of_wp_marks Tryz.func74 rfl trivial ?_ rfl
  simp only [Tryz.ntmps74, List.size_toArray, List.length_cons, List.length_nil, Nat.reduceAdd, Nat.reduceSub, Array.replicate_succ, Array.replicate_zero, List.push_toArray, List.append_toArray, List.nil_append, List.cons_append]
  obtain ⟨P, hP⟩ : ∃ P, RlsPost (rulesP ns (linesN s.data.toList) []) w = P := ⟨_, rfl⟩
  have HP := Lib.hid hP
  rw [hP]
  clear hP
  have HCNT := Lib.hid (fun (q : ByteArray) (hq : q.size ≤ 1000000) W (hb : Below w.heap.size w W) => countedJ_any q W (cell_keep hb hMx) hq)
  have HRD := Lib.hid (fun (q : ByteArray) (hq : q.size ≤ 1000000) W (hb : Below w.heap.size w W) => readJ_any b mb nb q hq on ns ncap hn hz W aU aS (hQ.below hb) (hG.below hb) (hN.below hb) (hR.mp.below hb) (row_below hR.mb_ hb) (row_below hR.nm hb))
  have HS := Lib.hid hs
  clear hn hz hQ hG hN hMx hR hs
  gi_wp2_with fail
  refine wpIn_wide.2 (wp_scope_forth 1 (by simp [findLabel]; rfl) ((wpIn_wide (n := 6)).1 ?_))
  gi_wp2_with fail
  refine wpIn_label ?_
  gi_wp2_with fail
  refine ⟨trivial, (callsIn_wide.2 (linesJ_any s mb nb _)).mono ?_⟩
  rintro e w2 ⟨rfl, hw2⟩
  simp only [World.size_alloc] at hw2 ⊢
  have BW : Below w.heap.size w w2 := by rw [← hw2]; exact ((((Below.refl _ _).alloc (Nat.le_refl _) _).alloc (by simp) _).alloc (by simp; omega) _).alloc (by simp; omega) _
  have z2 : w2.heap.size = w.heap.size + 4 := by rw [← hw2]; simp
  have L2 : Boxed w2 (w.heap.size + 1) 22 (.slice none 0 0) := by
    rw [← hw2]
    have := Boxed.new (w.alloc (.cells (srcC s mb nb) 116)) 22 (.slice none 0 0)
    rw [World.size_alloc] at this
    exact (this.alloc _).alloc _
  have F2 : Boxed w2 (w.heap.size + 2) 58 .nilIface := by
    rw [← hw2]
    have := Boxed.new ((w.alloc (.cells (srcC s mb nb) 116)).alloc (.cells #[.slice none 0 0] 22)) 58 .nilIface
    rw [World.size_alloc, World.size_alloc] at this
    exact this.alloc _
  have r2 : w2.heap[w.heap.size]? = some (.cells (srcC s mb nb) 116 (0, 0)) := by
    rw [← hw2, Below.heap_alloc _ _ _ (by simp; omega), Below.heap_alloc _ _ _ (by simp; omega), Below.heap_alloc _ _ _ (by simp)]
    exact heap_alloc_new _ _
  have hb : w2.heap[w.heap.size + 1 + 1 + 1]? = some (.cells (srcC s mb nb) 116 (0, 0)) := by
    rw [← hw2]
    have := heap_alloc_new (((w.alloc (.cells (srcC s mb nb) 116)).alloc (.cells #[.slice none 0 0] 22)).alloc (.cells #[.nilIface] 58)) (.cells (srcC s mb nb) 116)
    simpa using this
  clear hw2
  gi_wp2_with fail
  refine wpIn_seqX (n := 6) (Ow := fun _ => False) (Dep := fun k => k = w.heap.size + 1 + 1 + 1) (encs := encL) (all := linesN s.data.toList) (by omega) rfl (enters_of Tryz.func127 (by kernel_rfl) rfl) (fun x => rfl) (seqLinesJ HS.out hb)
    (fun k h => h.elim) (fun k h => by omega)
    (fun X pre W => ∃ xs v, RlsInv w ns (srcC s mb nb) X pre W xs v) (fun c X pre W => c = .goto 1 ∧ ∃ n e t, RlsOut w ns X pre W n e t) ?hI ?hIx ?h0
    (fun _ x => { tmps := #[.agg (srcC s mb nb), .pointer (some ⟨w.heap.size, 0, none⟩), .slice none 0 0, .nilIface, .pointer (some ⟨w.heap.size + 1, 0, none⟩), .pointer (some ⟨w.heap.size + 1 + 1, 0, none⟩), .int .i64 (x.2 : Nat), strV x.1, undef, .agg (srcC s mb nb), .func (.func 127) #[] #[.pointer (some ⟨w.heap.size + 1 + 1 + 1, 0, none⟩)], .int .i64 (x.2 : Nat), strV x.1, undef, undef, undef, undef, undef, undef, undef, undef, undef, undef, undef, undef, undef, undef, undef, undef, undef, undef, undef, undef, undef, undef, undef, undef, undef, undef, undef, undef, undef, undef], defers := [] })
    (fun A _ B => A = B) (fun A x B h => by rw [h]; exact Moves.refl _ _) ?assign ?body ?done ?stop
  case hI =>
    rintro X X' xs A B ⟨l, v, h⟩ hm hX
    exact ⟨l, v, h.moves hm hX⟩
  case hIx =>
    rintro c X X' xs A B ⟨rfl, n, e, t, h⟩ hm hX
    exact ⟨rfl, n, e, t, h.moves hm hX⟩
  case h0 => exact ⟨[], _, { far := fun k h => h.elim, below := BW, size := by omega, src := r2, lc := L2, fc := F2, so := rfl, few := by simp, row := World.ownsRow_nil _ _ _ _, notX := fun k h => by simp [Value.ownBlock] at h, its := fun x hx => by simp at hx, itk := fun x hx => by simp at hx }⟩
  case assign =>
    rintro l x A K hK
    gi_wp2
    rfl
  case body =>
    rintro l X pre ⟨x, n⟩ A A' W1 hA hpx hAB hm hXn hXn1 hXlt ⟨xs, v, hI⟩
    have hz := hI.size
    have hXb : ∀ k, X k → k < W1.heap.size := fun k h => by have h1 := hXlt k h; have h2 := hm.size; rw [← hAB] at h2; omega
    have hxm : (x, n) ∈ linesN s.data.toList := hpx.subset (List.mem_append_right _ (List.mem_singleton.2 rfl))
    have hxl := linesN_mem hxm
    have hsl : s.data.toList.length = s.size := Array.length_toList
    obtain ⟨q, hq⟩ : ∃ q : ByteArray, (⟨x.toArray⟩ : ByteArray) = q := ⟨_, rfl⟩
    have hsv : strV x = .string q := by rw [← hq]
    have hqx : q.data.toList = x := by rw [← hq]
    have hqs : q.size ≤ 1000000 := by
      have h5 : q.data.toList.length = q.size := Array.length_toList
      have := HS.out
      rw [hqx] at h5
      omega
    show Code.wpIn _ _ _ _ _ { tmps := _, defers := _ } _
    rw [hsv]
    have nB : ∀ k, k < w.heap.size + 3 → ¬ X k ∧ ¬ k = w.heap.size + 1 + 1 + 1 := fun k hk => ⟨fun h => by have := hI.far k h; omega, by omega⟩
    have keepX : ∀ V : World, Below W1.heap.size W1 V → RlsInv w ns (srcC s mb nb) X pre V xs v := fun V hb => hI.moves (Moves.of_below hb) (fun k h => ⟨.inl h, by have := hXb k h; have := hb.size; omega⟩)
    have HK := Lib.hid keepX
    have HNB := Lib.hid nB
    have HXB := Lib.hid hXb
    obtain ⟨Wb, hWb⟩ : ∃ Wb, W1.alloc (.cells zeroR 37) = Wb := ⟨_, rfl⟩
    have bWb : Below W1.heap.size W1 Wb := by rw [← hWb]; exact (Below.refl _ _).alloc (Nat.le_refl _) _
    have r8 : Wb.heap[W1.heap.size]? = some (.cells zeroR 37 (0, 0)) := by rw [← hWb]; exact heap_alloc_new _ _
    have HC := HCNT.out q hqs Wb (hI.below.trans (bWb.mono hI.below.size))
    obtain ⟨C, hC⟩ : ∃ C : ByteArray, ⟨(countedL q.data.toList).toArray⟩ = C := ⟨_, rfl⟩
    have hCl : C.data.toList = countedL x := by rw [← hC, hqx]
    have hCs : C.size ≤ 1000000 := by
      have h5 : C.data.toList.length = C.size := Array.length_toList
      have h6 : (countedL x).length ≤ x.length := Nat.le_trans (trimL_leJ _) (cutL_le x [35]).1
      have := HS.out
      rw [hCl] at h5
      omega
    simp only [strV, hC] at HC
    have HCC := Lib.hid HC
    have HR8 := Lib.hid r8
    have HBWb := Lib.hid bWb
    have HIR := Lib.hid hI
    clear hq hsv hqs hxl hsl hxm hm hpx hXlt nB keepX hXb hqx hI HC r8 bWb hC
    gi_wp2_with fail
    refine ⟨trivial, CallsIn.inRound l ((callsIn_wide.2 HCC.out).mono ?_)⟩
    rintro e W2 ⟨rfl, b2⟩
    have b12 : Below W1.heap.size W1 W2 := HBWb.out.trans (b2.mono HBWb.out.size)
    have hI2 := HK.out _ b12
    by_cases hcx : countedL x = []
    · have hem : C.toList.isEmpty = true := by rw [Lib.toList_data, hCl, hcx]; rfl
      have HR : Hid (seqEndX (fun k => k = w.heap.size + 1 + 1 + 1) X (fun X pre W => ∃ xs v, RlsInv w ns (srcC s mb nb) X pre W xs v) (fun c X pre W => c = .goto 1 ∧ ∃ n e t, RlsOut w ns X pre W n e t) (pre ++ [(x, n)]) W1 .normal ({ tmps := #[], defers := [] } : Act) W2) := Lib.hid ⟨Moves.of_below b12, xs, v, { hI2 with so := rulesP_skip hI2.so hcx }⟩
      clear hI2 b12 b2 hcx hCl hCs
      gi_wp2
      exact HR.out
    have hem : C.toList.isEmpty = false := by rw [Lib.toList_data, hCl]; cases hx : countedL x with | nil => exact absurd hx hcx | cons _ _ => rfl
    have s1 : W2.cell? ⟨w.heap.size, 1, none⟩ = some (readV mb nb) := by rw [cell_of_row _ _ 1 _ _ _ hI2.src]; rfl
    have HREAD := Lib.hid (HRD.out C hCs W2 hI2.below)
    rw [hCl] at HREAD
    have HB12 := Lib.hid b12
    have HB2 := Lib.hid b2
    clear hI2 b12 b2 hCl hCs
    gi_wp2_with fail
    refine ⟨trivial, CallsIn.inRound l ((callsIn_wide.2 HREAD.out).mono ?_)⟩
    rintro e W3 ⟨y, rfl, hy, b3⟩
    have b13 : Below W1.heap.size W1 W3 := HB12.out.trans (b3.mono HB12.out.size)
    have hI3 := HK.out _ b13
    have R3 := row_below (row_below HR8.out HB2.out) b3
    obtain ⟨q0, q1, q2, q3, q4⟩ := five_cells R3
    have f0 := frozen_of_row W3 W1.heap.size 0 _ _ R3
    have f1 := frozen_of_row W3 W1.heap.size 1 _ _ R3
    have f2 := frozen_of_row W3 W1.heap.size 2 _ _ R3
    have f3 := frozen_of_row W3 W1.heap.size 3 _ _ R3
    have f4 := frozen_of_row W3 W1.heap.size 4 _ _ R3
    have l3 : W1.heap.size < W3.heap.size := (Array.getElem?_eq_some_iff.1 R3).1
    obtain ⟨R4, m4⟩ := five_setJ (.bool y.1.1) (.slice y.1.2.1 y.1.2.2.1.length y.1.2.2.2) (.bool y.2.1.1) (.slice y.2.1.2.1 y.2.1.2.2.1.length y.2.1.2.2.2) (.bool y.2.2) R3
    obtain ⟨W4, hW4⟩ : ∃ W4, (((((W3.setCell ⟨W1.heap.size, 0, none⟩ (.bool y.1.1)).setCell ⟨W1.heap.size, 1, none⟩ (.slice y.1.2.1 y.1.2.2.1.length y.1.2.2.2)).setCell ⟨W1.heap.size, 2, none⟩ (.bool y.2.1.1)).setCell ⟨W1.heap.size, 3, none⟩ (.slice y.2.1.2.1 y.2.1.2.2.1.length y.2.1.2.2.2)).setCell ⟨W1.heap.size, 4, none⟩ (.bool y.2.2)) = W4 := ⟨_, rfl⟩
    rw [hW4] at R4 m4
    have b14 : Below W1.heap.size W1 W4 := Moves.below b13 b13.size m4 (fun k h => by omega)
    have hI4 := HK.out _ b14
    have cf : W4.cell? ⟨w.heap.size + 1 + 1, 0, none⟩ = some .nilIface := hI4.fc.cell
    have ff : W4.frozen? ⟨w.heap.size + 1 + 1, 0, none⟩ = false := hI4.fc.frozen
    have lf : w.heap.size + 1 + 1 < W4.heap.size := hI4.fc.lt
    have hsz := HIR.out.size
    rcases lineE_form ns (countedL x) with he | ⟨t, he⟩
    · rw [he, show errVJ .none = .nilIface from rfl]
      obtain ⟨hyp, hyi, hyk⟩ := hy he
      have hI5 := hI4.setNil
      have B5 : Boxed W4 (w.heap.size + 2) 58 .nilIface := hI4.fc
      obtain ⟨W5, hW5⟩ : ∃ W5, W4.setCell ⟨w.heap.size + 1 + 1, 0, none⟩ .nilIface = W5 := ⟨_, rfl⟩
      have m5 : Moves (fun k => k = w.heap.size + 2) W4 W5 := by rw [← hW5]; exact Moves.setCell rfl
      rw [show W4.setCell ⟨w.heap.size + 2, 0, none⟩ .nilIface = W5 from hW5] at hI5
      have b15 : Moves (fun k => k = w.heap.size + 2) W1 W5 := (Moves.of_below b14).trans m5
      have c5 : W5.cell? ⟨w.heap.size + 1 + 1, 0, none⟩ = some .nilIface := hI5.fc.cell
      have g5 : W5.frozen? ⟨w.heap.size + 1 + 1, 0, none⟩ = false := hI5.fc.frozen
      have l5 : w.heap.size + 1 + 1 < W5.heap.size := hI5.fc.lt
      obtain ⟨ov, cv, rfl⟩ := own_form HIR.out.row
      have cl := hI5.lc.cell
      rcases Nat.lt_or_ge xs.length 40 with h40 | h40
      · obtain ⟨g', cap', w6, hrun, hown', hgrow, hat⟩ := rul_own y hI5.row (by omega) hI5.size
        have b45 : Below W5.heap.size W5 (W5.alloc (rulO y)) := (Below.refl _ _).alloc (Nat.le_refl _) _
        have hI6 : RlsInv w ns (srcC s mb nb) X pre (W5.alloc (rulO y)) xs (.slice ov xs.length cv) := hI5.moves (Moves.of_below b45) (fun k h => ⟨.inl h, by have h1 := HXB.out k h; have h2 := b15.size; have h3 := b45.size; omega⟩)
        have gX : Boxed (W5.alloc (rulO y)) (w.heap.size + 1) 22 (.slice ov xs.length cv) := hI5.lc.alloc _
        obtain ⟨hv1, hv2, hr2, hm2⟩ := appended_plain gX (by decide) hI6.row hown' hgrow
        have hS : ∀ k, (k = w.heap.size + 1 ∨ ∃ u, Boxed (W5.alloc (rulO y)) (w.heap.size + 1) 22 u ∧ u.ownBlock = some k) → k = w.heap.size + 1 ∨ (w.heap.size + 4 ≤ k ∧ k < W1.heap.size ∧ ¬ X k ∧ (Value.slice ov xs.length cv).ownBlock = some k) := by
          rintro k (h | ⟨u, hu, hk⟩)
          · exact .inl h
          · obtain rfl := boxed_unique gX hu
            have h1 := own_block_ltJ HIR.out.row hk
            exact .inr ⟨h1.1, h1.2.1, HIR.out.notX k hk, hk⟩
        have hz12 : W1.heap.size < W2.heap.size := by
          have i1 := (Array.getElem?_eq_some_iff.1 HR8.out).1
          have i2 := HB2.out.size
          omega
        have hz23 := b3.size
        have hz34 := m4.size
        have hz45 := m5.size
        have hz56 := b45.size
        have hz67 := hm2.size
        have hz1b := b13.size
        have hyit : ItsC (W5.alloc (rulO y)) [y] := ItsC.below (ItsC.moves (ItsC.moves hyi m4 (fun z hz k hk => by
          rw [List.mem_singleton.1 hz] at hk
          have := hyk k hk
          omega)) m5 (fun z hz k hk => by
          rw [List.mem_singleton.1 hz] at hk
          have := hyk k hk
          omega)) b45
        have HR : Hid (seqEndX (fun k => k = w.heap.size + 1 + 1 + 1) X (fun X pre W => ∃ xs v, RlsInv w ns (srcC s mb nb) X pre W xs v) (fun c X pre W => c = .goto 1 ∧ ∃ n e t, RlsOut w ns X pre W n e t) (pre ++ [(x, n)]) W1 .normal ({ tmps := #[], defers := [] } : Act) (w6.setCell ⟨w.heap.size + 1, 0, none⟩ (.slice (some ⟨g', 0, none⟩) (xs.length + 1) cap'))) := by
          refine Lib.hid ⟨((b15.mono fun k h => HNB.out k (by omega)).trans (Moves.of_below (S := fun k => ¬ X k ∧ ¬ k = w.heap.size + 1 + 1 + 1) b45)).trans (hm2.mono fun k h => ?_), xs ++ [y], _, { far := hI6.far, below := Moves.below hI6.below hI6.below.size hm2 (fun k h => ?_), size := by have := hI6.size; omega, src := row_keep hI6.src hm2 (fun h => ?_), lc := hv2, fc := row_keep hI6.fc hm2 (fun h => ?_), so := ?_, few := by simp; omega, row := by rw [show (xs ++ [y]).length = xs.length + 1 from by simp, rulsC_snoc]; exact hr2, notX := fun k hk => ?_, its := ?_, itk := ?_ }⟩
          · rcases hS k h with h | ⟨h4, h5, h6, _⟩
            · exact HNB.out k (by omega)
            · exact ⟨h6, fun e => by omega⟩
          · rcases hS k h with h | ⟨h4, _⟩ <;> omega
          · rcases hS _ h with h | ⟨h4, _⟩ <;> omega
          · rcases hS _ h with h | ⟨h4, _⟩ <;> omega
          · rw [List.map_append, List.map_cons, List.map_nil, hyp]
            exact rulesP_good hI6.so hcx he (by rw [List.length_map]; omega)
          · rcases hat k hk with h | h
            · exact HIR.out.notX k h
            · intro hx; have := HXB.out k hx; omega
          · intro z hzm
            rcases List.mem_append.1 hzm with hzm | hzm
            · refine (ItsC.moves (S := _) (xs := xs) hI6.its hm2 fun z hz k hk h => ?_) z hzm
              obtain ⟨h1, h2, h3, h4⟩ := hI6.itk z hz k hk
              rcases hS k h with h | ⟨_, _, _, h5⟩
              · omega
              · exact h4 h5
            · refine (ItsC.moves (S := _) (xs := [y]) hyit hm2 fun z hz k hk h => ?_) z hzm
              rw [List.mem_singleton.1 hz] at hk
              have := hyk k hk
              rcases hS k h with h | ⟨_, h5, _, _⟩ <;> omega
          · intro z hzm k hk
            rcases List.mem_append.1 hzm with hzm | hzm
            · have h1 := HIR.out.itk z hzm k hk
              refine ⟨h1.1, by omega, h1.2.2.1, fun h => ?_⟩
              rcases hat k h with h | h
              · exact h1.2.2.2 h
              · omega
            · rw [List.mem_singleton.1 hzm] at hk
              have h1 := hyk k hk
              refine ⟨by omega, by omega, fun h => by have := HXB.out k h; omega, fun h => ?_⟩
              rcases hat k h with h | h
              · have := own_block_ltJ HIR.out.row h; omega
              · omega
        have hc1 := hv1.cell
        have hf1 := hv1.frozen
        have R5 : W5.heap[W1.heap.size]? = some (.cells (rulC y) 37 (0, 0)) := row_keep R4 m5 (by omega)
        obtain ⟨t0, t1, t2, t3, t4⟩ := five_cells R5
        have hfol : Tryz.prog.follows .mixedOrders = true := by kernel_rfl
        have hb40 : (((xs.length : Nat) : Int) == 40) = false := by rw [beq_eq_false_iff_ne]; omega
        have hl1 : W1.heap.size < W5.heap.size := (Array.getElem?_eq_some_iff.1 R5).1
        obtain ⟨⟨s1', p1, xs1, k1⟩, ⟨s2', p2, xs2, k2⟩, br⟩ := y
        simp only at hW4 t0 t1 t2 t3 t4
        replace hrun : (appSem #[22, 22] 22 #[.slice ov xs.length cv, .slice (some ⟨W5.heap.size, 0, none⟩) 1 1]).run Tryz.prog (W5.alloc (.cells #[.bool s1', .slice p1 xs1.length k1, .bool s2', .slice p2 xs2.length k2, .bool br] 37)) = .ok (.slice (some ⟨g', 0, none⟩) (xs.length + 1) cap') w6 := hrun
        obtain ⟨z1, hz1⟩ : ∃ k, xs1.length = k := ⟨_, rfl⟩
        obtain ⟨z2', hz2⟩ : ∃ k, xs2.length = k := ⟨_, rfl⟩
        simp only [hz1, hz2] at hW4 t1 t3 hrun
        have hyv : rulV ((s1', p1, xs1, k1), (s2', p2, xs2, k2), br) = .agg #[.bool s1', .slice p1 z1 k1, .bool s2', .slice p2 z2' k2, .bool br] := by rw [← hz1, ← hz2]
        rw [hyv]
        clear hyv hyit hI6 hI5 hI4 hI3 b14 b15 b13 R3 R4 R5 m4 m5 hy hyp hyi hyk b3 he hcx B5 h40 hown' hgrow hat gX hv1 hv2 hr2 hm2 hS b45 hz1 hz2 hz12 hz23 hz34 hz45 hz56 hz67 hz1b
        gi_wp2_with fail
        exact HR.out
      · have h40' : xs.length = 40 := by have := hI5.few; omega
        have hx6 : Boxed (W5.setCell ⟨w.heap.size + 1 + 1, 0, none⟩ (lineVJ (n : Nat) ruleB 24)) (w.heap.size + 2) 58 (lineVJ (n : Nat) ruleB 24) := hI5.fc.set _
        have hm6 : Moves (fun k => k = w.heap.size + 2) W5 (W5.setCell ⟨w.heap.size + 1 + 1, 0, none⟩ (lineVJ (n : Nat) ruleB 24)) := Moves.setCell rfl
        have HR : Hid (seqEndX (fun k => k = w.heap.size + 1 + 1 + 1) X (fun X pre W => ∃ xs v, RlsInv w ns (srcC s mb nb) X pre W xs v) (fun c X pre W => c = .goto 1 ∧ ∃ n e t, RlsOut w ns X pre W n e t) (pre ++ [(x, n)]) W1 (.goto 1) ({ tmps := #[], defers := [] } : Act) (W5.setCell ⟨w.heap.size + 1 + 1, 0, none⟩ (lineVJ (n : Nat) ruleB 24))) :=
          Lib.hid ⟨(b15.trans hm6).mono fun k h => HNB.out k (by omega), rfl, (n : Nat), 24, ruleB, { far := hI5.far, below := Moves.below hI5.below hI5.below.size hm6 (fun k h => by omega), size := by have := hm6.size; have := hI5.size; omega, fc := hx6, so := rulesP_full hI5.so hcx he (by rw [List.length_map]; exact h40') }⟩
        have HIN1 := Lib.hid (faultIn_any ruleB 24 W5)
        have HIN2 := Lib.hid (inLineJ_any ((n : Nat) : Int) ruleB 24 W5)
        rw [h40'] at cl
        obtain ⟨⟨s1', p1, xs1, k1⟩, ⟨s2', p2, xs2, k2⟩, br⟩ := y
        simp only at hW4
        clear hx6 hm6 hI5 hI4 hI3 b14 b15 b13 R3 R4 m4 m5 hy hyp hyi hyk b3 he hcx B5 h40 h40'
        gi_wp2_with fail
        refine ⟨trivial, CallsIn.inRound l ((callsIn_wide.2 HIN1.out).mono ?_)⟩
        rintro e _ ⟨rfl, rfl⟩
        gi_wp2_with fail
        refine ⟨trivial, CallsIn.inRound l ((callsIn_wide.2 HIN2.out).mono ?_)⟩
        rintro e _ ⟨rfl, rfl⟩
        gi_wp2_with fail
        refine wpIn_goto ?_
        exact HR.out
    · rw [he, show errVJ (.part t 90) = partVJ t 90 from rfl]
      have hm6 : Moves (fun k => k = w.heap.size + 2) W4 ((W4.setCell ⟨w.heap.size + 1 + 1, 0, none⟩ (partVJ t 90)).setCell ⟨w.heap.size + 1 + 1, 0, none⟩ (lineVJ (n : Nat) t 90)) := (Moves.setCell (S := fun k => k = w.heap.size + 2) rfl).trans (Moves.setCell (S := fun k => k = w.heap.size + 2) rfl)
      have hx5 : Boxed (W4.setCell ⟨w.heap.size + 1 + 1, 0, none⟩ (partVJ t 90)) (w.heap.size + 2) 58 (partVJ t 90) := hI4.fc.set _
      have hx6 : Boxed ((W4.setCell ⟨w.heap.size + 1 + 1, 0, none⟩ (partVJ t 90)).setCell ⟨w.heap.size + 1 + 1, 0, none⟩ (lineVJ (n : Nat) t 90)) (w.heap.size + 2) 58 (lineVJ (n : Nat) t 90) := hx5.set _
      have c5 : (W4.setCell ⟨w.heap.size + 1 + 1, 0, none⟩ (partVJ t 90)).cell? ⟨w.heap.size + 1 + 1, 0, none⟩ = some (partVJ t 90) := hx5.cell
      have g5 : (W4.setCell ⟨w.heap.size + 1 + 1, 0, none⟩ (partVJ t 90)).frozen? ⟨w.heap.size + 1 + 1, 0, none⟩ = false := hx5.frozen
      have HR : Hid (seqEndX (fun k => k = w.heap.size + 1 + 1 + 1) X (fun X pre W => ∃ xs v, RlsInv w ns (srcC s mb nb) X pre W xs v) (fun c X pre W => c = .goto 1 ∧ ∃ n e t, RlsOut w ns X pre W n e t) (pre ++ [(x, n)]) W1 (.goto 1) ({ tmps := #[], defers := [] } : Act) ((W4.setCell ⟨w.heap.size + 1 + 1, 0, none⟩ (partVJ t 90)).setCell ⟨w.heap.size + 1 + 1, 0, none⟩ (lineVJ (n : Nat) t 90))) :=
        Lib.hid ⟨(Moves.of_below b14).trans (hm6.mono fun k h => HNB.out k (by omega)), rfl, (n : Nat), 90, t, { far := hI4.far, below := Moves.below hI4.below hI4.below.size hm6 (fun k h => by omega), size := by have := hm6.size; have := hI4.size; omega, fc := hx6, so := rulesP_bad hI4.so hcx he }⟩
      have HIN := Lib.hid (inLineJ_any ((n : Nat) : Int) t 90 (W4.setCell ⟨w.heap.size + 1 + 1, 0, none⟩ (partVJ t 90)))
      obtain ⟨⟨s1', p1, xs1, k1⟩, ⟨s2', p2, xs2, k2⟩, br⟩ := y
      simp only at hW4
      clear hx5 hx6 hm6 hI4 hI3 b14 b13 R3 R4 m4 hy b3 he hcx
      gi_wp2_with fail
      refine ⟨trivial, CallsIn.inRound l ((callsIn_wide.2 HIN.out).mono ?_)⟩
      rintro e _ ⟨rfl, rfl⟩
      gi_wp2_with fail
      refine wpIn_goto ?_
      exact HR.out
  case done =>
    have hfol : Tryz.prog.follows .mixedOrders = true := by kernel_rfl
    rintro X D W hD hXD ⟨xs, v, hI⟩ hX hK
    have hm : Moves (fun k => k = D) W (W.putObj D (.deferred none)) := Moves.putObj rfl
    have hpost : P (.returned (.tuple #[v, .nilIface])) (W.putObj D (.deferred none)) := by
      rw [← HP.out, hI.so]
      refine ⟨v, xs, rfl, rfl, own_base (own_movesJ hI.row hm fun k hk e => ?_) (by omega), hI.its.moves hm (fun z hz k hk e => ?_), fun z hz k hk => ?_, Moves.below hI.below hI.below.size hm (fun k e => by omega)⟩
      · exact hI.notX k hk (e ▸ hXD)
      · exact (hI.itk z hz k hk).2.2.1 (e ▸ hXD)
      · have h1 := hI.itk z hz k hk
        have h2 := hm.size
        exact ⟨by omega, by omega, h1.2.2.2⟩
    have HPP := Lib.hid hpost
    have hcl := hI.lc.cell
    obtain ⟨o, cap, rfl⟩ := own_form hI.row
    clear hI hpost hm hX
    gi_wp2
    simp only [Exit.jump]
    refine ⟨by simp, .inl ⟨_, _, rfl, run_takeDeferred hK, ?_⟩⟩
    exact ⟨_, results_tmp2 (t := 2) (u := 3) rfl _ _ _, HPP.out⟩
  case stop =>
    have hfol : Tryz.prog.follows .mixedOrders = true := by kernel_rfl
    rintro X D c pre W hD hXD hpre ⟨rfl, n, e, t, hO⟩ hX hK
    have hm : Moves (fun k => k = D) W (W.drew.putObj D (.deferred none)) := (Moves.refl _ _).drew.trans (Moves.putObj rfl)
    have hpost : P (.returned (.tuple #[.slice none 0 0, lineVJ n t e])) (W.drew.putObj D (.deferred none)) := by
      rw [← HP.out, rulesP_pre hpre hO.so]
      exact ⟨_, [], rfl, rfl, World.ownsRow_nil _ _ _ _, fun x hx => by simp at hx, fun x hx => by simp at hx, Moves.below hO.below hO.below.size hm (fun k e => by omega)⟩
    have HPP := Lib.hid hpost
    have hcf : W.cell? ⟨w.heap.size + 1 + 1, 0, none⟩ = some (lineVJ n t e) := hO.fc.cell
    have hK' : W.drew.heap[D]? = some (.deferred (some [])) := hK
    obtain ⟨V, hV⟩ : ∃ V, lineVJ n t e = V := ⟨_, rfl⟩
    rw [hV] at hcf HPP
    clear hO hpost hm hX
    refine wpIn_goto ?_
    simp only [Exit.then, Exit.inBlock]
    show Exit.jump _ _ _ _ _ _
    simp only [Exit.jump, true_and]
    go_wp2
    go_region
    all_goals
      go_wp2
      rw [Exit.noGoto_ret]
      refine ⟨by simp, .inl ⟨_, _, rfl, run_takeDeferred hK', ?_⟩⟩
      exact ⟨_, results_tmp2 (t := 2) (u := 3) rfl _ _ _, HPP.out⟩
end Go.Proofs.YtnmhdcbpbaanoaaGreatDoor
namespace Go.Proofs.YtnmhdcbpbaanoaaGreatDoor
open Go.RowKit Go.Shelf Go.Maps
attribute [local go_sem] Oper.semAt_some

theorem RlsPost.lift {R : List RuleP × ErrJ} {w w1 : World} {e : Ending} {w' : World} (h : RlsPost R w1 e w') (hb : Below w.heap.size w w1) : RlsPost R w e w' := by
  obtain ⟨v, xs, he, hp, ho, hi, hk, hw⟩ := h
  have hz := hb.size
  exact ⟨v, xs, he, hp, own_base ho hz, hi, fun x hx k hk' => by
    have h1 := hk x hx k hk'
    exact ⟨by omega, h1.2.1, h1.2.2⟩, hb.trans (hw.mono hz)⟩
set_option maxRecDepth 100000 in
set_option maxHeartbeats 2000000 in
theorem parsedJ_any (s : ByteArray) (hs : s.size ≤ 1000000) (on : Option Addr) (ns : List ByteArray) (ncap : Nat) (hn : ns.length ≤ 1000) (hz : ∀ s ∈ ns, s.size ≤ 1000) (w : World) (aU aS : Addr) (hQ : GlobQ w aU aS) (hG : KGlob w) (hN : TxtAt w on ns) {m : Int} (hMx : w.cell? ⟨3, 0, none⟩ = some (.int .i64 m)) :
    Calls Tryz.prog 44 #[.string s, .slice on ns.length ncap] w (RlsPost (parseU ns s.data.toList) w) := by
  have HNM := Lib.hid (NamesK_any on ns ncap hn (fun s h => by have := hz s h; omega) w hN)
  have HSO := Lib.hid (fun W => sourceOf_any s on ns.length ncap W)
  have HRL := Lib.hid (fun b mb nb W (hb : Below w.heap.size w W) (hR : ReadAt W b mb nb on ns.length ncap) => rulesJ_any s hs b mb nb on ns ncap hn hz W aU aS (hQ.below hb) (hG.below hb) (hN.below hb) (cell_keep hb hMx) hR)
  have HIN := Lib.hid (fun W => faultIn_any namesB 2 W)
  obtain ⟨P, hP⟩ : ∃ P, RlsPost (parseU ns s.data.toList) w = P := ⟨_, rfl⟩
  have HP := Lib.hid hP
  rw [hP]
  obtain ⟨n, hnn⟩ : ∃ n, ns.length = n := ⟨_, rfl⟩
  rw [hnn] at HNM HSO HRL ⊢
  clear hP hnn hN hQ hG hMx hn hz hs
  by_cases hns : namesL ns
  · rw [decide_eq_true hns] at HNM
    have hpu : parseU ns s.data.toList = rulesP ns (linesN s.data.toList) [] := by unfold parseU; rw [if_pos hns]
    rw [hpu] at HP
    clear hpu hns
    go_enter Tryz.func44, Tryz.ntmps44
    go_wp2_with fail
    refine HNM.out.mono ?_
    rintro e w1 ⟨rfl, b1⟩
    have HB1 := Lib.hid b1
    clear b1
    go_wp2_with fail
    refine (HSO.out w1).mono ?_
    rintro e w2 ⟨b, mb, nb, rfl, hR, b2⟩
    have HB2 := Lib.hid (HB1.out.trans (b2.mono HB1.out.size))
    have HR := Lib.hid hR
    clear b2 hR
    go_wp2_with fail
    refine (HRL.out b mb nb w2 HB2.out HR.out).mono ?_
    rintro e w3 hpost
    have HQ : Hid (P e w3) := Lib.hid (by rw [← HP.out]; exact hpost.lift HB2.out)
    obtain ⟨v, xs, rfl, _⟩ := hpost
    obtain ⟨E, hE⟩ : ∃ E, errVJ (rulesP ns (linesN s.data.toList) []).2 = E := ⟨_, rfl⟩
    rw [hE] at HQ ⊢
    clear hE HRL HSO HNM HIN
    go_wp2_with fail
    exact HQ.out
  · rw [decide_eq_false hns] at HNM
    have hpu : parseU ns s.data.toList = ([], .part namesB 2) := by unfold parseU; rw [if_neg hns]
    rw [hpu] at HP
    clear hpu hns
    go_enter Tryz.func44, Tryz.ntmps44
    go_wp2_with fail
    refine HNM.out.mono ?_
    rintro e w1 ⟨rfl, b1⟩
    have HB1 := Lib.hid b1
    clear b1
    go_wp2_with fail
    refine (HIN.out w1).mono ?_
    rintro e _ ⟨rfl, rfl⟩
    have HQ : Hid (P (.returned (.tuple #[.slice none 0 0, partVJ namesB 2])) w1) := Lib.hid (by
      rw [← HP.out]
      exact ⟨_, [], rfl, rfl, World.ownsRow_nil _ _ _ _, fun x hx => by simp at hx, fun x hx => by simp at hx, HB1.out⟩)
    go_wp2_with fail
    exact HQ.out
theorem results_tmp3J {P : Program} {fn : Func} {t u x : Nat} (h : fn.results = #[.tmp t, .tmp u, .tmp x]) (tmps : Array Value) (w : World) (a b c : Value) (h0 : tmps.getD t undef = a := by rfl) (h1 : tmps.getD u undef = b := by rfl) (h2 : tmps.getD x undef = c := by rfl) : (results fn tmps).run P w = .ok (.tuple #[a, b, c]) w := by
  have h0' : tmps[t]?.getD undef = a := by simpa using h0
  have h1' : tmps[u]?.getD undef = b := by simpa using h1
  have h2' : tmps[x]?.getD undef = c := by simpa using h2
  simp [results, h, h0', h1', h2']
def ParsePost (R : List RuleP × ErrJ) (w : World) (e : Ending) (w' : World) : Prop :=
  ∃ v xs, e = .returned (.tuple #[v, .int .i64 (errLJ R.2), .int .i64 (errNJ R.2)]) ∧ xs.map plX = R.1 ∧ w'.ownsRow w.heap.size 37 5 v xs.length (rulsC xs) ∧ ItsC w' xs ∧ ItsK (fun k => w.heap.size ≤ k ∧ k < w'.heap.size ∧ v.ownBlock ≠ some k) xs ∧ Below w.heap.size w w'
set_option maxRecDepth 100000 in
set_option maxHeartbeats 2000000 in
theorem ParseJ_any (s : ByteArray) (hs : s.size ≤ 1000000) (on : Option Addr) (ns : List ByteArray) (ncap : Nat) (hn : ns.length ≤ 1000) (hz : ∀ s ∈ ns, s.size ≤ 1000) (w : World) (aU aS : Addr) (hQ : GlobQ w aU aS) (hG : KGlob w) (hN : TxtAt w on ns) {m : Int} (hMx : w.cell? ⟨3, 0, none⟩ = some (.int .i64 m)) :
    Calls Tryz.prog 26 #[.string s, .slice on ns.length ncap] w (ParsePost (parseU ns s.data.toList) w) := by
  have HC := Lib.hid (parsedJ_any s hs on ns ncap hn hz w aU aS hQ hG hN hMx)
  obtain ⟨R, hR⟩ : ∃ R, parseU ns s.data.toList = R := ⟨_, rfl⟩
  obtain ⟨P, hP⟩ : ∃ P, ParsePost R w = P := ⟨_, rfl⟩
  rw [hR] at HC ⊢
  have HP := Lib.hid hP
  rw [hP]
  have HL := Lib.hid (fun W (hb : Below w.heap.size w W) => lineJ_any R.2 W (hG.below hb))
  have HT := Lib.hid (fun W (hb : Below w.heap.size w W) => toldJ_any R.2 W (hG.below hb))
  obtain ⟨n, hnn⟩ : ∃ n, ns.length = n := ⟨_, rfl⟩
  rw [hnn] at HC ⊢
  clear hP hnn hN hQ hG hMx hn hz hs hR
  go_enter Tryz.func26, Tryz.ntmps26
  go_wp2_with fail
  refine HC.out.mono ?_
  rintro e w1 ⟨v, xs, rfl, hp, ho, hi, hk, hb⟩
  have HPP : Hid (∀ W, Below w1.heap.size w1 W → P (.returned (.tuple #[v, .int .i64 (errLJ R.2), .int .i64 (errNJ R.2)])) W) := by
    rw [← HP.out]
    refine Lib.hid fun W hbW => ⟨v, xs, rfl, hp, own_below ho hbW, hi.below hbW, fun x hx k hk' => ?_, hb.trans (hbW.mono hb.size)⟩
    have h1 := hk x hx k hk'
    have h2 := hbW.size
    exact ⟨h1.1, by omega, h1.2.2⟩
  have HB := Lib.hid hb
  obtain ⟨E, hE⟩ : ∃ E, errVJ R.2 = E := ⟨_, rfl⟩
  obtain ⟨el, hel⟩ : ∃ E, errLJ R.2 = E := ⟨_, rfl⟩
  obtain ⟨en, hen⟩ : ∃ E, errNJ R.2 = E := ⟨_, rfl⟩
  rw [hE] at HL HT ⊢
  rw [hel] at HL HPP
  rw [hen] at HT HPP
  clear hE hel hen hp ho hi hk hb
  go_wp2_with fail
  refine (HL.out w1 HB.out).mono ?_
  rintro e w2 ⟨rfl, b2⟩
  have HB2 := Lib.hid b2
  clear b2
  go_wp2_with fail
  refine (HT.out w2 (HB.out.trans (HB2.out.mono HB.out.size))).mono ?_
  rintro e w3 ⟨rfl, b3⟩
  have HQ := Lib.hid (HPP.out w3 (HB2.out.trans (b3.mono HB2.out.size)))
  clear b3
  go_wp2_with fail
  exact bodyPost_ret (results_tmp3J (t := 4) (u := 5) (x := 6) rfl _ _ v (.int .i64 el) (.int .i64 en)) rfl HQ.out
end Go.Proofs.YtnmhdcbpbaanoaaGreatDoor
namespace Go.Proofs.YtnmhdcbpbaanoaaGreatDoor
open Go.RowKit
abbrev exNJ : List ByteArray := [⟨#[67, 82]⟩, ⟨#[76, 70]⟩]
abbrev exAJ : ByteArray := ⟨#[67, 82, 32, 43, 32, 76, 70, 32, 35, 32, 111, 110, 101, 10, 46, 32, 47, 32, 46]⟩
abbrev exBJ : ByteArray := ⟨#[10, 47, 10, 120]⟩
abbrev exTJ : ByteArray := ⟨#[67, 82, 32, 43, 32, 76, 70, 10, 46, 32, 47, 32, 46, 10]⟩
abbrev exRJ : List RuleP := [((false, [(1, 0)]), (false, [(2, 0)]), false), ((false, [(3, 0)]), (false, [(3, 0)]), true)]
theorem exJ_1 : (parseU exNJ exAJ.data.toList).1 = exRJ ∧ errLJ (parseU exNJ exAJ.data.toList).2 = 0 ∧ errNJ (parseU exNJ exAJ.data.toList).2 = 0 := by decide +kernel
theorem exJ_2 : errLJ (parseU exNJ exBJ.data.toList).2 = 3 ∧ errNJ (parseU exNJ exBJ.data.toList).2 = 90 := by decide +kernel
theorem exJ_3 : (⟨(printUV exNJ exRJ).toArray⟩ : ByteArray) = exTJ ∧ printUE exNJ exRJ = 0 := by decide +kernel
theorem exJ_4 : cutsV exRJ [0, 1, 1] = [0, 2, 3] ∧ cutsE exRJ = 0 := by decide +kernel
theorem exJ_5 : decideU exRJ [0, 1, 1] 1 = (false, 0) := by decide +kernel
end Go.Proofs.YtnmhdcbpbaanoaaGreatDoor
namespace Go.Proofs.YtnmhdcbpbaanoaaGreatDoor
open Go.RowKit Go.Shelf Go.Maps
attribute [local go_sem] Oper.semAt_some

theorem txt_row {w : World} {g : Nat} {cs : Array Value} (ns : List ByteArray) (h : w.heap[g]? = some (.cells cs 9 (0, 0))) (hc : ∀ (j : Nat) (x : ByteArray), ns[j]? = some x → cs[j]? = some (Value.string x)) : TxtAt w (some ⟨g, 0, none⟩) ns := fun _ =>
  ⟨g, 0, rfl, fun j x hx => by rw [Nat.zero_add, cell_of_row w g j _ _ _ h]; exact hc j x hx⟩
theorem num_row {w : World} {g : Nat} (l : List Int) (h : w.heap[g]? = some (.cells (l.map (Value.int .i64)).toArray 3 (0, 0))) : NumsAt w (some ⟨g, 0, none⟩) l := fun _ =>
  ⟨g, 0, rfl, fun j x hx => by rw [Nat.zero_add, cell_of_row w g j _ _ _ h]; simp [hx]⟩
end Go.Proofs.YtnmhdcbpbaanoaaGreatDoor
namespace Go.Proofs.YtnmhdcbpbaanoaaGreatDoor
open Go.ChangeShapes Go.WideShapes Go.ChangeAt Go.RowKit Go.ChangeMaps Go.Shelf

theorem ownQ : ownKnob Tryz.prog.godebug = none := by kernel_rfl
theorem gArgQ : Tryz.prog.globalNamed "virama/pattern.errArg" = some 1 := by kernel_rfl
theorem gPatQ : Tryz.prog.globalNamed "virama/pattern.errPattern" = some 2 := by kernel_rfl
theorem gArgTypeQ : (Tryz.prog.globals[1]?).map (·.type) = some 58 := by kernel_rfl
theorem gPatTypeQ : (Tryz.prog.globals[2]?).map (·.type) = some 58 := by kernel_rfl
theorem cellsEQ : Tryz.prog.cellsOf 292 = 1 := by kernel_rfl
theorem cellsSQ : Tryz.prog.cellsOf 9 = 1 := by kernel_rfl
theorem starEQ : "*" ++ "errors.errorString" = "*errors.errorString" := by decide
theorem rowEQ (u : TypeId) (h : Tryz.prog.typeName? 3 u = some "*errors.errorString") : u = 274 :=
  typeName_ptr_named (nm := "errors.errorString") (by rw [starEQ]; kernel_rfl) (by kernel_rfl) (by decide) u (by rw [starEQ]; exact h)
abbrev laid2Q : List (String × DataW Unit) := [("virama/pattern.errArg", Rows.laid_virama_pattern_errArg), ("virama/pattern.errPattern", Rows.laid_virama_pattern_errPattern)]
abbrev laidPQ : List (String × DataW Unit) := [("unicode/utf8.acceptRanges", Rows.laid_unicode_utf8_acceptRanges), ("virama/pattern.errArg", Rows.laid_virama_pattern_errArg), ("virama/pattern.errPattern", Rows.laid_virama_pattern_errPattern), ("unicode/utf8.first", Rows.laid_unicode_utf8_first)]
abbrev laidTQ : List (String × DataW Unit) := [("unicode/utf8.acceptRanges", Rows.laid_unicode_utf8_acceptRanges), ("unicode/utf8.first", Rows.laid_unicode_utf8_first)]
abbrev laidAQ : List (String × DataW Unit) := [("unicode/utf8.acceptRanges", Rows.laid_unicode_utf8_acceptRanges), ("errors.errorType", Rows.laid_errors_errorType), ("virama/pattern.errArg", Rows.laid_virama_pattern_errArg), ("virama/pattern.errPattern", Rows.laid_virama_pattern_errPattern), ("unicode/utf8.first", Rows.laid_unicode_utf8_first)]
theorem gEtQ : Tryz.prog.globalNamed "errors.errorType" = some 0 := by kernel_rfl
theorem rtNQ : (Tryz.prog.cutTypes.find? (·.1 == "internal/reflectlite.rtype")).map (·.2) = some 183 := by kernel_rfl
theorem typesNQ : Tryz.prog.types.size = 304 := by kernel_rfl
theorem oneRowQ : ((List.range 304).filter fun t => Tryz.prog.rowNamed t [101, 114, 114, 111, 114]) = [58] := by kernel_rfl
theorem et_of_laidQ {W : World} (h : laidMetH Tryz.prog laidAQ W) : W.cell? ⟨0, 0, none⟩ = some (.iface 183 (.agg #[.pointer (some ⟨6, 58, none⟩)])) := by
  have h1 := laidMetH.filter (fun x => x.1 == "errors.errorType") h
  have h2 : laidMetH Tryz.prog [("errors.errorType", Rows.laid_errors_errorType)] W := h1
  have h' : laidMet Tryz.prog [] W ∧ handlesMet Tryz.prog [("errors.errorType", Rows.laid_errors_errorType)] W := h2
  obtain ⟨name, u, ty, e1, e2, e3, e4, e5⟩ := h'.2 _ (List.mem_singleton.2 rfl)
  have en : name = [101, 114, 114, 111, 114] := (Option.some.inj e1).symm
  subst en
  obtain rfl := Option.some.inj (rtNQ.symm.trans e2)
  have hm : ty ∈ (List.range 304).filter fun t => Tryz.prog.rowNamed t [101, 114, 114, 111, 114] := List.mem_filter.2 ⟨List.mem_range.2 (by rw [← typesNQ]; exact e3), e4⟩
  rw [oneRowQ] at hm
  obtain rfl := List.mem_singleton.1 hm
  have hh : typeHandle Tryz.prog 58 = .pointer (some ⟨6, 58, none⟩) := by kernel_rfl
  rw [hh] at e5
  simpa using World.var?_cell gEtQ e5 0
theorem kglob_ofQ {W : World} (h : laidMetH Tryz.prog laidAQ W) : KGlob W := ⟨et_of_laidQ h⟩
theorem glob_ofQ {W : World} (h : laidMetH Tryz.prog laidAQ W) : ∃ aU aS, GlobQ W aU aS := by
  have h1 := laidMetH.filter (fun x => x.1 == "virama/pattern.errArg" || x.1 == "virama/pattern.errPattern") h
  have h2 : laidMetH Tryz.prog laid2Q W := h1
  have h' : laidMet Tryz.prog laid2Q W := h2
  obtain ⟨a0, a1, s0, s1, c0, c1, t0, t1, hv0, hv1, hc0, hs0, hz0, hc1, hs1, hz1, hne, hb0, hb1⟩ :=
    laid_sentinels2 h' gArgQ gArgTypeQ gPatQ gPatTypeQ Tryz.underlying58 rowEQ Tryz.underlying274 Tryz.underlying292 rfl rfl Tryz.underlying9 cellsEQ cellsSQ
  have hS : W.cell? ⟨1, 0, none⟩ = some (errVQ a0) := by simpa using World.var?_cell gArgQ hv0 0
  have hU : W.cell? ⟨2, 0, none⟩ = some (errVQ a1) := by simpa using World.var?_cell gPatQ hv1 0
  have lt : ∀ {g : Nat} {v : Value}, W.cell? ⟨g, 0, none⟩ = some v → g < W.heap.size := by
    intro g v hc
    rcases Nat.lt_or_ge g W.heap.size with h1 | h1
    · exact h1
    · simp [World.cell?, Array.getElem?_eq_none h1] at hc
  exact ⟨a1, a0, hU, hS, Ne.symm hne, ⟨c1, t1, hb1⟩, ⟨c0, t0, hb0⟩, lt hU, lt hS⟩

noncomputable def lowQ : Nat := (World.holding Tryz.prog default ⟨#[], #[], []⟩).heap.size
abbrev argSQ : ByteArray := ⟨#[112, 97, 116, 116, 101, 114, 110, 58, 32, 110, 97, 109, 101, 115, 32, 116, 104, 97, 116, 32, 97, 114, 101, 32, 110, 111, 110, 101]⟩
abbrev patSQ : ByteArray := ⟨#[112, 97, 116, 116, 101, 114, 110, 58, 32, 97, 32, 112, 97, 116, 116, 101, 114, 110, 32, 116, 104, 97, 116, 32, 105, 115, 32, 110, 111, 116, 32, 114, 105, 103, 104, 116, 44, 32, 111, 114, 32, 97, 32, 116, 101, 120, 116, 32, 116, 104, 97, 116, 32, 105, 115, 32, 110, 111, 110, 101, 39, 115]⟩
noncomputable def baseWorldQ (os : Os) : World :=
  let w0 := World.holding Tryz.prog os ⟨#[.cells #[.string argSQ] 292, .cells #[.string patSQ] 292], #[], []⟩
  { w0 with heap := ((w0.heap.modify 1 fun
      | .cells _ t frozen => .cells #[errVQ ⟨lowQ, 0, none⟩] t frozen
      | o => o).modify 2 fun
      | .cells _ t frozen => .cells #[errVQ ⟨lowQ + 1, 0, none⟩] t frozen
      | o => o).modify 0 fun
      | .cells _ t frozen => .cells #[.iface 183 (.agg #[.pointer (some ⟨6, 58, none⟩)])] t frozen
      | o => o }
noncomputable def laidWorldQ (os : Os) : World := (baseWorldQ os).layVars Tryz.prog laidTQ
theorem laidWorld_osQ (os : Os) : (laidWorldQ os).os = os := World.layVars_os _ _ _
set_option maxRecDepth 100000 in
theorem laid_met_wQ (os : Os) (args : Array Value) : laidMet Tryz.prog laidPQ ((laidWorldQ os).forCall (fun _ _ => 0) ⟨#[], args, []⟩).memory :=
  laidMet_of_run' 8 (by kernel_rfl) (by kernel_rfl)
set_option maxRecDepth 100000 in
theorem laid_metQ (os : Os) (args : Array Value) : laidMetH Tryz.prog laidAQ ((laidWorldQ os).forCall (fun _ _ => 0) ⟨#[], args, []⟩).memory :=
  laidMetH_of_parts (laid_met_wQ os args) (by kernel_rfl)

theorem true_postQ {H : Type} {enc : TypeId × Value → H} {f : Func} {s : ChangeSpec} {W W' : World} {args : Array Value} {ds gs : List (DataW H)} {before : List MemPlace}
    (hW : DataW.Whole enc Tryz.prog f.params.toList s.vars false W args.toList ds gs before) (hr : f.resultTypes = #[4]) (hfn : s.fn H (ds ++ gs) = { results := [.lit (.bool true)], args := ds }) (hv : s.vars = [])
    (hargs : DataW.TrodAll enc Tryz.prog W' 0 (fun b => decide (b < W.heap.size)) true f.params.toList args.toList ds before) (hb : Below W.heap.size W W') :
    s.post enc Tryz.prog f false true false false W args (.bool true) W' := by
  refine ⟨ds, gs, before, [], before, [], hW, ?_, ?_, ?_, ?_, fun h => by cases h⟩
  · rw [hr, hfn]
    exact trodAll_cons_mk (shut_bool Tryz.underlying4 _) trodAll_mk0
  · rw [hfn]
    exact hargs
  · rw [hv, hfn]
    rfl
  · exact World.keptBut_mono (fun p hp => ⟨hp, .inr (.inl hp)⟩) (hb.frame (· ∈ before))

def NumsInQ (w : World) (o : Option Addr) (l : List Int) : Prop := NumsAt w o l ∧ ∀ c ∈ l, In64K c
theorem in64_wfQ {n : Int} (h : (Lit.int .i64 n).wf = true) : In64K n := by
  simp [Lit.wf, IntKind.min, IntKind.max, IntKind.signed, IntKind.bits] at h
  exact h
theorem list_ofQ {α : Type} {Q : Nat → α → Prop} : ∀ n : Nat, (∀ i, i < n → ∃ x, Q i x) → ∃ l : List α, l.length = n ∧ ∀ i x, l[i]? = some x → Q i x
  | 0, _ => ⟨[], rfl, fun i x h => by simp at h⟩
  | n + 1, h => by
    obtain ⟨l, hl, hq⟩ := list_ofQ n fun i hi => h i (by omega)
    obtain ⟨y, hy⟩ := h n (by omega)
    refine ⟨l ++ [y], by simp [hl], fun i x hx => ?_⟩
    rcases Nat.lt_or_ge i l.length with hi | hi
    · rw [List.getElem?_append_left hi] at hx
      exact hq i x hx
    · rw [List.getElem?_append_right hi] at hx
      have hi2 : i - l.length = 0 := by
        have := (List.getElem?_eq_some_iff.1 hx).1
        simp at this
        omega
      rw [hi2] at hx
      cases hx
      rw [show i = n from by omega]
      exact hy
theorem add_atQ2 (g off k : Nat) : (⟨g, off, none⟩ : Addr).add k = ⟨g, off + k, none⟩ := by unfold Addr.add; split <;> simp_all
theorem cellsIntQ : Tryz.prog.cellsOf 3 = 1 := by kernel_rfl
theorem cellsI64Q : Tryz.prog.cellsOf 2 = 1 := by kernel_rfl
theorem cellsStrQ : Tryz.prog.cellsOf 9 = 1 := by kernel_rfl
theorem cellsBoolQ : Tryz.prog.cellsOf 4 = 1 := by kernel_rfl
theorem cellsItQ : Tryz.prog.cellsOf 97 = 2 := by kernel_rfl
theorem cellsItsQ : Tryz.prog.cellsOf 33 = 1 := by kernel_rfl
theorem cellsPatQ : Tryz.prog.cellsOf 35 = 2 := by kernel_rfl
section
variable {H : Type} {enc : TypeId × Value → H} {W : World}
theorem open_intsQ {fuel : Nat} {v : Value} {x : DataW H × List MemPlace} (h : DataW.trod enc Tryz.prog W 0 (fun _ => true) true fuel 23 [v] = some x) :
    ∃ (o : Option Addr) (l : List Int) (cap : Nat), v = .slice o l.length cap ∧ (NumsInQ W o l ∧ (o = none → cap = 0) ∧ ∀ p, o = some p → 0 < cap → p.spot = none) ∧ l.length ≤ cap := by
  rcases DataW.trod_slice Tryz.underlying23 h with ⟨hv, _⟩ | ⟨a, len, cap, elems, rest, n, _, hv, _, _, hle, hcap, hlen, hc, hr, _⟩
  · obtain rfl : v = .slice none 0 0 := by simpa using hv
    exact ⟨none, [], 0, rfl, ⟨⟨fun h => absurd h (Nat.not_lt_zero _), fun c h => by cases h⟩, fun _ => rfl, fun p h => by cases h⟩, Nat.le_refl _⟩
  · obtain rfl : v = .slice (some a) len cap := by simpa using hv
    have hall : ∀ i, i < len → ∃ X : Int, W.cell? ((a.add (i * 1)).add 0) = some (.int .i64 X) ∧ In64K X := fun i hi => by
      have he := hc i hi
      rw [cellsIntQ, List.getElem?_eq_getElem (by omega)] at he
      obtain ⟨cs, hcs, ht⟩ := Option.bind_eq_some_iff.1 he
      obtain ⟨_, hl, hg⟩ := World.cells?_some hcs
      obtain ⟨b, c1, _, cw⟩ := DataW.trod_int Tryz.underlying3 ht
      exact ⟨b, by rw [hg 0 (by omega), c1]; rfl, in64_wfQ cw⟩
    have hsp : 0 < cap → a.spot = none := fun h0 => by
      rcases Nat.eq_zero_or_pos len with hz | hz
      · obtain ⟨hrl, hrc⟩ := hr rfl
        have h0l : 0 < rest.length := by rw [hrl, hz]; exact h0
        have he := hrc 0 (by rw [hz]; exact h0)
        rw [cellsIntQ, hz, List.getElem?_eq_getElem h0l] at he
        obtain ⟨cs, hcs, ht⟩ := Option.bind_eq_some_iff.1 he
        obtain ⟨_, hl, hg⟩ := World.cells?_some hcs
        have h1 := hg 0 (by omega)
        rw [List.getElem?_eq_getElem (by rw [hl]; exact Nat.one_pos)] at h1
        simpa [Addr.add] using World.cell?_spot h1
      · obtain ⟨X, h1, _⟩ := hall 0 hz
        simpa [Addr.add] using World.cell?_spot h1
    obtain ⟨rs, hrl, hrs⟩ := list_ofQ len hall
    subst hrl
    refine ⟨some a, rs, cap, rfl, ⟨⟨fun hn => ?_, fun c hc => by obtain ⟨i, hi⟩ := List.getElem?_of_mem hc; exact (hrs i c hi).2⟩, (fun h => by cases h), (fun p h h0 => by cases h; exact hsp h0)⟩, by omega⟩
    have h0 := (hrs 0 _ (List.getElem?_eq_getElem hn)).1
    obtain ⟨g, off, spot⟩ := a
    have hspot : spot = none := by simpa [Addr.add] using World.cell?_spot h0
    subst hspot
    refine ⟨g, off, rfl, fun j x hx => ?_⟩
    have c0 := (hrs j x hx).1
    rwa [add_atQ2, add_atQ2, Nat.mul_one, Nat.add_zero] at c0
theorem open_namesQ {fuel : Nat} {v : Value} {x : DataW H × List MemPlace} (h : DataW.trod enc Tryz.prog W 0 (fun _ => true) true fuel 41 [v] = some x) :
    ∃ (o : Option Addr) (ns : List ByteArray) (cap : Nat), v = .slice o ns.length cap ∧ TxtAt W o ns ∧ ns.length ≤ 9223372036854775807 := by
  have hm : maxLen = 9223372036854775807 := rfl
  rcases open_strings Tryz.underlying41 Tryz.underlying9 cellsStrQ h with ⟨hv, _⟩ | ⟨a, len, cap, ss, hv, _, hle, hcap, hlen, _, hc, _⟩
  · obtain rfl : v = .slice none 0 0 := by simpa using hv
    exact ⟨none, [], 0, rfl, fun h => absurd h (Nat.not_lt_zero _), Nat.zero_le _⟩
  · obtain rfl : v = .slice (some a) len cap := by simpa using hv
    simp only [if_true] at hlen
    have hl : (ss.take len).length = len := by rw [List.length_take]; omega
    refine ⟨some a, ss.take len, cap, by rw [hl], fun hn => ?_, by omega⟩
    rw [hl] at hn
    have h0 := hc 0 (by omega)
    obtain ⟨g, off, spot⟩ := a
    have hspot : spot = none := by simpa [Addr.add] using World.cell?_spot h0
    subst hspot
    refine ⟨g, off, rfl, fun j y hy => ?_⟩
    have hj := (List.getElem?_eq_some_iff.1 hy).1
    rw [hl] at hj
    have := hc j (by omega)
    rw [add_atQ2] at this
    rw [this]
    have hy2 : ss[j]? = some y := by rw [List.getElem?_take_of_lt hj] at hy; exact hy
    simp [List.getD, hy2]
theorem list2Q {α : Type} {cs : List α} (h : cs.length = 2) : ∃ c0 c1, cs = [c0, c1] := by
  match cs, h with
  | [c0, c1], _ => exact ⟨c0, c1, rfl⟩
theorem open_itQ {fuel : Nat} {cs : List Value} {x : DataW H × List MemPlace} (h : DataW.trod enc Tryz.prog W 0 (fun _ => true) true fuel 97 cs = some x) : ∃ X : ItemP, cs = [.int .i64 X.1, .int .i64 X.2] ∧ In64K X.1 ∧ In64K X.2 := by
  obtain ⟨y0, y1, n, _, hl, h0, h1⟩ := trod_struct2 Tryz.underlying97 h
  rw [cellsItQ] at hl
  obtain ⟨k0, k1, rfl⟩ := list2Q hl
  change DataW.trod enc Tryz.prog W 0 (fun _ => true) true n 2 (List.take (Tryz.prog.cellsOf 2) (List.drop 0 [k0, k1])) = _ at h0
  change DataW.trod enc Tryz.prog W 0 (fun _ => true) true n 3 (List.take (Tryz.prog.cellsOf 3) (List.drop 1 [k0, k1])) = _ at h1
  rw [cellsI64Q] at h0
  rw [cellsIntQ] at h1
  obtain ⟨a, e0, _, w0⟩ := DataW.trod_int Tryz.underlying2 h0
  obtain ⟨b, e1, _, w1⟩ := DataW.trod_int Tryz.underlying3 h1
  obtain rfl : k0 = .int .i64 a := by simpa using e0
  obtain rfl : k1 = .int .i64 b := by simpa using e1
  exact ⟨(a, b), rfl, in64_wfQ w0, in64_wfQ w1⟩
def ItsInQ (w : World) (o : Option Addr) (l : List ItemP) : Prop := AtI w o l ∧ ∀ x ∈ l, In64K x.1 ∧ In64K x.2
theorem open_itsQ {fuel : Nat} {v : Value} {x : DataW H × List MemPlace} (h : DataW.trod enc Tryz.prog W 0 (fun _ => true) true fuel 33 [v] = some x) :
    ∃ (o : Option Addr) (l : List ItemP) (cap : Nat), v = .slice o l.length cap ∧ ItsInQ W o l ∧ l.length ≤ cap := by
  rcases DataW.trod_slice Tryz.underlying33 h with ⟨hv, _⟩ | ⟨a, len, cap, elems, rest, n, _, hv, _, _, hle, hcap, hlen, hc, _, _⟩
  · obtain rfl : v = .slice none 0 0 := by simpa using hv
    exact ⟨none, [], 0, rfl, ⟨fun h => absurd h (Nat.not_lt_zero _), fun c h => by cases h⟩, Nat.le_refl _⟩
  · obtain rfl : v = .slice (some a) len cap := by simpa using hv
    have hall : ∀ i, i < len → ∃ X : ItemP, W.cell? ((a.add (i * 2)).add 0) = some (.int .i64 X.1) ∧ W.cell? ((a.add (i * 2)).add 1) = some (.int .i64 X.2) ∧ In64K X.1 ∧ In64K X.2 := fun i hi => by
      have he := hc i hi
      rw [cellsItQ, List.getElem?_eq_getElem (by omega)] at he
      obtain ⟨cs, hcs, ht⟩ := Option.bind_eq_some_iff.1 he
      obtain ⟨_, hl, hg⟩ := World.cells?_some hcs
      obtain ⟨X, rfl, h1, h2⟩ := open_itQ ht
      exact ⟨X, by rw [hg 0 (by omega)]; rfl, by rw [hg 1 (by omega)]; rfl, h1, h2⟩
    obtain ⟨rs, hrl, hrs⟩ := list_ofQ len hall
    subst hrl
    refine ⟨some a, rs, cap, rfl, ⟨fun hn => ?_, fun c hc => by obtain ⟨i, hi⟩ := List.getElem?_of_mem hc; exact ⟨(hrs i c hi).2.2.1, (hrs i c hi).2.2.2⟩⟩, by omega⟩
    have h0 := (hrs 0 _ (List.getElem?_eq_getElem hn)).1
    obtain ⟨g, off, spot⟩ := a
    have hspot : spot = none := by simpa [Addr.add] using World.cell?_spot h0
    subst hspot
    refine ⟨g, off, rfl, fun j x hx => ?_⟩
    obtain ⟨c0, c1, _⟩ := hrs j x hx
    rw [add_atQ2, add_atQ2] at c0 c1
    exact ⟨c0, c1⟩
theorem open_pat {fuel : Nat} {cs : List Value} {x : DataW H × List MemPlace} (h : DataW.trod enc Tryz.prog W 0 (fun _ => true) true fuel 35 cs = some x) :
    ∃ (st : Bool) (o : Option Addr) (xs : List ItemP) (cap : Nat), cs = [.bool st, .slice o xs.length cap] ∧ ItsInQ W o xs ∧ xs.length ≤ cap := by
  obtain ⟨y0, y1, n, _, hl, h0, h1⟩ := trod_struct2 Tryz.underlying35 h
  rw [cellsPatQ] at hl
  obtain ⟨k0, k1, rfl⟩ := list2Q hl
  change DataW.trod enc Tryz.prog W 0 (fun _ => true) true n 4 (List.take (Tryz.prog.cellsOf 4) (List.drop 0 [k0, k1])) = _ at h0
  change DataW.trod enc Tryz.prog W 0 (fun _ => true) true n 33 (List.take (Tryz.prog.cellsOf 33) (List.drop 1 [k0, k1])) = _ at h1
  rw [cellsBoolQ] at h0
  rw [cellsItsQ] at h1
  obtain ⟨st, e0, _⟩ := DataW.trod_bool Tryz.underlying4 h0
  obtain rfl : k0 = .bool st := by simpa using e0
  obtain ⟨o, xs, cap, rfl, hI, hc⟩ := open_itsQ (v := k1) h1
  exact ⟨st, o, xs, cap, rfl, hI, hc⟩
end
end Go.Proofs.YtnmhdcbpbaanoaaGreatDoor
namespace Go.Proofs.YtnmhdcbpbaanoaaGreatDoor
open Go.RowKit Go.Shelf Go.Maps
attribute [local go_sem] Oper.semAt_some

section
variable {P : Program}
theorem results_cellF {fn : Func} {p : Tmp} {ty : TypeId} (h : fn.results = #[.cell p ty]) (tmps : Array Value) (w : World) (g : Nat) (t : TypeId) (cs : Array Value) (fr : Nat × Nat) (d : TypeDesc)
    (hp : tmps.getD p undef = .pointer (some ⟨g, 0, none⟩)) (hg : w.heap[g]? = some (.cells cs t fr))
    (hu : P.underlying ty = some d) (hd : (match d with | .struct _ | .array _ _ => true | _ => false) = true) (hi : (P.info? ty).map (·.size) = some cs.size) :
    (results fn tmps).run P w = .ok (.agg cs) w := by
  have hp' : tmps[p]?.getD undef = .pointer (some ⟨g, 0, none⟩) := by simpa using hp
  simp [results, h, hp', asAddr, run_loadVar_row w g t ty cs fr d hg hu hd hi]
end
set_option maxRecDepth 100000 in
set_option maxHeartbeats 4000000 in
theorem cutP_any (st : Bool) (o : Option Addr) (xs : List ItemP) (cap : Nat) (hn : xs.length ≤ cap) (w : World) :
    Calls Tryz.prog 33 #[patV st o xs.length cap] w fun e w' => e = .returned (patV st o (xs.take 12).length cap) ∧ Below w.heap.size w w' := by
  have hl : (xs.take 12).length = min xs.length 12 := by rw [List.length_take]; omega
  rw [hl]
  obtain ⟨n, hnn⟩ : ∃ n, xs.length = n := ⟨_, rfl⟩
  rw [hnn] at hn ⊢
  clear hl hnn
  obtain ⟨k, hk⟩ : ∃ k, min n 12 = k := ⟨_, rfl⟩
  have hk2 : min ((n : Nat) : Int) 12 = ((k : Nat) : Int) := by omega
  have hkn : k ≤ n := by omega
  have hkc : k ≤ cap := by omega
  rw [hk]
  obtain ⟨w1, hw1⟩ : ∃ w1, w.alloc (patO st o n cap) = w1 := ⟨_, rfl⟩
  have b1 : Below w.heap.size w w1 := by rw [← hw1]; exact (Below.refl _ _).alloc (Nat.le_refl _) _
  have r1 : w1.heap[w.heap.size]? = some (patO st o n cap) := by rw [← hw1]; exact heap_alloc_new _ _
  have z1 : w1.heap.size = w.heap.size + 1 := by rw [← hw1]; simp
  obtain ⟨w2, hw2⟩ : ∃ w2, w1.alloc (patO false none 0 0) = w2 := ⟨_, rfl⟩
  have b2 : Below w1.heap.size w1 w2 := by rw [← hw2]; exact (Below.refl _ _).alloc (Nat.le_refl _) _
  have r2 : w2.heap[w.heap.size + 1]? = some (patO false none 0 0) := by rw [← hw2, ← z1]; exact heap_alloc_new _ _
  have r1' := row_below r1 b2
  have B2 := b1.trans (b2.mono b1.size)
  obtain ⟨p0, p1⟩ := pat_cells r1'
  obtain ⟨t0, t1⟩ := pat_cells r2
  have f0 := frozen_of_row w2 (w.heap.size + 1) 0 _ _ r2
  have f1 := frozen_of_row w2 (w.heap.size + 1) 1 _ _ r2
  obtain ⟨r3, m3⟩ := two_set (.bool st) (.slice o k cap) r2
  obtain ⟨w3, hw3⟩ : ∃ w3, (w2.setCell ⟨w.heap.size + 1, 0, none⟩ (.bool st)).setCell ⟨w.heap.size + 1, 1, none⟩ (.slice o k cap) = w3 := ⟨_, rfl⟩
  rw [hw3] at r3 m3
  have HB := Lib.hid (Moves.below B2 B2.size m3.drew (fun k hk => by omega))
  have HW1 := Lib.hid hw1
  have HW2 := Lib.hid hw2
  have HW3 := Lib.hid hw3
  have HR3 := Lib.hid r3
  clear hw1 b1 r1 z1 hw2 b2 r2 r1' B2 r3 m3 hw3
  go_enter Tryz.func33, Tryz.ntmps33
  go_wp2_with fail
  rw [HW1.out, HW2.out]
  go_region
  all_goals
    go_wp2_with fail
    rw [HW3.out]
    exact bodyPost_ret (v := patV st o k cap) (results_cellF rfl _ _ (w.heap.size + 1) _ _ _ _ rfl (show w3.drew.heap[w.heap.size + 1]? = _ from HR3.out) Tryz.underlying35 rfl (by kernel_rfl)) rfl ⟨rfl, HB.out⟩
end Go.Proofs.YtnmhdcbpbaanoaaGreatDoor
