/- Shaken by bunq.py. -/
import Derived.Test.YtgcapoejieolnaaGreatDoorBuq4
import Derived.Test.YtgcapoejieolnaaGreatDoorBuq2
import Derived.StillTailTactics
import Derived.DeepKeys
namespace Go.Proofs.YtgcapoejieolnaaGreatDoor
open Go.RowKit Go.Shelf Go.Maps
attribute [local go_sem] Oper.semAt_some

def litsF (C : Fit) : List Lit := ((List.range 11).map fun i => .bool (C.1 i)) ++ ((List.range 10).map fun i => .bool (C.2 i))
theorem keyF (C : Fit) : Tryz.prog.keyLits 5 131 (fitC C) = some (litsF C) := by kernel_rfl
theorem keyTF : Tryz.prog.keyTypeAt 3 131 = true := by kernel_rfl
theorem formF (C : Fit) : (Value.agg (fitC C).toArray).formed Tryz.prog 131 = true := by kernel_rfl
theorem lits_dead (C : Fit) : litsF C = litsF zeroF ↔ deadF C = true := by
  rw [deadF_iff]
  unfold litsF
  constructor
  · intro h
    have hl : ((List.range 11).map fun i => Lit.bool (C.1 i)).length = ((List.range 11).map fun i => Lit.bool (zeroF.1 i)).length := by simp
    obtain ⟨h1, h2⟩ := List.append_inj h hl
    constructor
    · intro i hi
      have := congrArg (fun l => l[i]?) h1
      simp only [List.getElem?_map, List.getElem?_range (show i < 11 by omega), Option.map_some, Option.some.injEq, Lit.bool.injEq] at this
      exact this
    · intro i hi
      have := congrArg (fun l => l[i]?) h2
      simp only [List.getElem?_map, List.getElem?_range (show i < 10 by omega), Option.map_some, Option.some.injEq, Lit.bool.injEq] at this
      exact this
  · rintro ⟨h1, h2⟩
    congr 1
    · refine List.map_congr_left fun i hi => ?_
      rw [h1 i (by have := List.mem_range.1 hi; omega)]
      rfl
    · refine List.map_congr_left fun i hi => ?_
      rw [h2 i (List.mem_range.1 hi)]
      rfl
theorem eq_fit (C : Fit) (w : World) : (Op.equalIn 10000 131 (.agg (fitC C).toArray) zeroA).run Tryz.prog w = .ok (deadF C) w := by
  obtain ⟨r, hr, hi⟩ := run_equalIn_deep (P := Tryz.prog) 9997 3 131 keyTF w 5 5 (.agg (fitC C).toArray) zeroA (litsF C) (litsF zeroF) (formF C) (by rw [zeroA_eq]; exact formF zeroF) (keyF C) (by rw [zeroA_eq]; exact keyF zeroF)
  rw [hr]
  have : r = deadF C := by rw [Bool.eq_iff_iff, hi, lits_dead]
  rw [this]
attribute [local go_sem ↓] ld_hideQ
theorem eql_fit (C : Fit) (w : World) : (binOp .eql 131 (.agg (fitC C).toArray) (.agg #[.bool false, .bool false, .bool false, .bool false, .bool false, .bool false, .bool false, .bool false, .bool false, .bool false, .bool false, .bool false, .bool false, .bool false, .bool false, .bool false, .bool false, .bool false, .bool false, .bool false, .bool false])).run Tryz.prog w = .ok (.bool (deadF C)) w := by
  rw [run_eql_struct]
  have := eq_fit C w
  rw [show (Value.agg #[.bool false, .bool false, .bool false, .bool false, .bool false, .bool false, .bool false, .bool false, .bool false, .bool false, .bool false, .bool false, .bool false, .bool false, .bool false, .bool false, .bool false, .bool false, .bool false, .bool false, .bool false]) = zeroA from rfl, this]
  rfl
attribute [local go_sem high] eql_fit
theorem places_any (M : Nat) (w : World) : Calls Tryz.prog 92 #[mV M] w fun e w' => e = .returned (.func (.func 125) #[] #[.pointer (some ⟨w.heap.size, 0, none⟩)]) ∧ w.alloc (.cells #[mV M] 84) = w' := by
  go_enter Tryz.func92, Tryz.ntmps92
  go_wp2
  go_ret
  exact ⟨rfl, rfl⟩
theorem results_cellQ {P : Program} {fn : Func} {p : Tmp} {ty : TypeId} (h : fn.results = #[.cell p ty]) (tmps : Array Value) (w : World) (a : Addr) (d : TypeDesc) (v : Value)
    (hp : tmps.getD p undef = .pointer (some a)) (hu : P.underlying ty = some d) (hd : (match d with | .struct _ | .array _ _ => true | _ => false) = false) (hc : w.cell? a = some v) : (results fn tmps).run P w = .ok v w := by
  have hp' : tmps[p]?.getD undef = .pointer (some a) := by simpa using hp
  simp [results, h, hp', asAddr, loadVar, isAgg, run_underlying hu]
  cases d <;> simp_all
def FitsQ (whole : Bool) (xs : List ItemP) (T : List Int) (M : Nat) (w : World) (e : Ending) (w' : World) : Prop := e = .returned (.bool (fitsG whole xs T)) ∧ Moves (fun k => k = M) w w'
structure FitsI (w w2 : World) (M : Nat) (whole r : Bool) (X : Nat → Prop) (W : World) : Prop where
  far : ∀ k, X k → k = M ∨ w2.heap.size ≤ k
  kept : Moves (fun k => k = M) w W
  mb : Boxed W w.heap.size 84 (mV M)
  wb : Boxed W (w.heap.size + 1) 4 (.bool whole)
  rb : Boxed W (w.heap.size + 2) 4 (.bool r)
theorem FitsI.moves {w w2 A B : World} {M : Nat} {whole r : Bool} {X X' : Nat → Prop} (h : FitsI w w2 M whole r X A) (hM : M < w.heap.size) (hz : w2.heap.size = w.heap.size + 4) (hA : w2.heap.size ≤ A.heap.size) (hm : Moves X A B) (hX : ∀ k, X' k → (X k ∨ A.heap.size ≤ k) ∧ k < B.heap.size) : FitsI w w2 M whole r X' B := by
  have hn : ∀ k, w.heap.size ≤ k → k < w2.heap.size → ¬ X k := fun k h1 h2 hx => by rcases h.far k hx with h3 | h3 <;> omega
  refine ⟨fun k hk => ?_, ⟨hm.os.trans h.kept.os, hm.tape.trans h.kept.tape, hm.output.trans h.kept.output, Nat.le_trans h.kept.size hm.size, fun k hk hs => (hm.block k (by have := h.kept.size; omega) fun hx => by rcases h.far k hx with h3 | h3 <;> omega).trans (h.kept.block k hk hs)⟩, row_keep h.mb hm (hn _ (by omega) (by omega)), row_keep h.wb hm (hn _ (by omega) (by omega)), row_keep h.rb hm (hn _ (by omega) (by omega))⟩
  rcases (hX k hk).1 with h1 | h1
  · exact h.far k h1
  · exact .inr (by omega)
theorem moves_drewNQ (w : World) (q : Nat) : Moves (fun _ => False) w (w.drewN q) := by
  induction q with
  | zero => exact Moves.refl _ _
  | succ q ih => exact ih.drew
theorem FitsI.drewN {w w2 W : World} {M : Nat} {whole r : Bool} {X : Nat → Prop} (h : FitsI w w2 M whole r X W) (q : Nat) : FitsI w w2 M whole r X (W.drewN q) :=
  ⟨h.far, h.kept.trans ((moves_drewNQ W q).mono fun _ h => h.elim), row_keep h.mb (moves_drewNQ W q) id, row_keep h.wb (moves_drewNQ W q) id, row_keep h.rb (moves_drewNQ W q) id⟩
theorem FitsI.set {w w2 W : World} {M : Nat} {whole r : Bool} {X : Nat → Prop} (h : FitsI w w2 M whole r X W) (v : Bool) : FitsI w w2 M whole v X (W.setCell ⟨w.heap.size + 1 + 1, 0, none⟩ (.bool v)) := by
  have ms : Moves (fun k => k = w.heap.size + 2) W (W.setCell ⟨w.heap.size + 1 + 1, 0, none⟩ (.bool v)) := Moves.setCell rfl
  exact ⟨h.far, ⟨ms.os.trans h.kept.os, ms.tape.trans h.kept.tape, ms.output.trans h.kept.output, Nat.le_trans h.kept.size ms.size, fun k hk hs => (ms.block k (by have := h.kept.size; omega) (by omega)).trans (h.kept.block k hk hs)⟩, row_keep h.mb ms (by omega), row_keep h.wb ms (by omega), h.rb.set _⟩
theorem FitsI.ends {w w2 W : World} {M D : Nat} {whole r : Bool} {X : Nat → Prop} (h : FitsI w w2 M whole r X W) (hz : w2.heap.size = w.heap.size + 4) (hD : w2.heap.size ≤ D) : Moves (fun k => k = M) w (W.putObj D (.deferred none)) ∧ (W.putObj D (.deferred none)).cell? ⟨w.heap.size + 1 + 1, 0, none⟩ = some (.bool r) := by
  have mp : Moves (fun k => k = D) W (W.putObj D (.deferred none)) := Moves.putObj rfl
  refine ⟨⟨mp.os.trans h.kept.os, mp.tape.trans h.kept.tape, mp.output.trans h.kept.output, Nat.le_trans h.kept.size mp.size, fun k hk hs => ?_⟩, (show Boxed (W.putObj D (.deferred none)) (w.heap.size + 2) 4 (.bool r) from row_keep h.rb mp (by omega)).cell⟩
  have := h.kept.size
  exact (mp.block k (by omega) (by omega)).trans (h.kept.block k hk hs)
theorem range_pre {pre : List Nat} {k n : Nat} (h : pre ++ [k] <+: List.range n) : k = pre.length ∧ k < n := by
  have h1 : (List.range n)[pre.length]? = some k := by
    obtain ⟨r, hr⟩ := h
    rw [← hr, List.append_assoc]
    simp
  have hlt := (List.getElem?_eq_some_iff.1 h1).1
  rw [List.length_range] at hlt
  rw [List.getElem?_range hlt] at h1
  injection h1 with h1
  exact ⟨h1.symm, by omega⟩
set_option maxRecDepth 100000 in
set_option maxHeartbeats 4000000 in
theorem fits_any (b M cap lcap : Nat) (o lo : Option Addr) (back whole : Bool) (xs : List ItemP) (l : List Int) (A0 B0 : Fit) (w : World) (hn : xs.length ≤ 10) (hw : howP xs) (hl : l.length ≤ 1000000) (hA : AtI w o xs) (hL : NumsAt w lo l) (hF : FitMap w b M)
    (hbM : b ≠ M) (hneI : 0 < xs.length → ∀ k, inQ o k → k ≠ M) (hneL : 0 < l.length → ∀ k, inQ lo k → k ≠ M)
    (h : MatAt w M (.slice lo l.length lcap) back (.slice o xs.length cap) A0 B0 (.map (some b))) :
    Calls Tryz.prog 56 #[mV M, .bool whole] w (FitsQ whole xs (listN back l) M w) := by
  refine (callsIn_wide (n := 6)).1 ?_
  have h1 : 1 ≤ 6 := by omega
  refine callsIn_of_wp_marks Tryz.func56 rfl trivial ?_ rfl
  simp only [Tryz.ntmps56, List.size_toArray, List.length_cons, List.length_nil, Nat.reduceAdd, Nat.reduceSub, Array.replicate_succ, Array.replicate_zero, List.push_toArray, List.append_toArray, List.nil_append, List.cons_append]
  obtain ⟨T, hT⟩ : ∃ T, listN back l = T := ⟨_, rfl⟩
  have hTl : T.length = l.length := by rw [← hT]; exact listN_length back l
  obtain ⟨P, hP⟩ : ∃ P, FitsQ whole xs (listN back l) M w = P := ⟨_, rfl⟩
  rw [hT] at hP
  rw [show FitsQ whole xs (listN back l) M w = P from by rw [hT]; exact hP]
  have HP := Lib.hid hP
  have hMl := h.lt
  obtain ⟨w1, hw1⟩ : ∃ w1, ((w.alloc (.cells #[mV M] 84)).alloc (.cells #[.bool whole] 4)).alloc (.cells #[.bool false] 4) = w1 := ⟨_, rfl⟩
  have b1 : Below w.heap.size w w1 := by rw [← hw1]; exact (((Below.refl _ _).alloc (Nat.le_refl _) _).alloc (by simp) _).alloc (by simp; omega) _
  have z1 : w1.heap.size = w.heap.size + 3 := by rw [← hw1]; simp
  have m1 : Boxed w1 w.heap.size 84 (mV M) := by rw [← hw1]; exact ((Boxed.new _ _ _).alloc _).alloc _
  have e1 : Boxed w1 (w.heap.size + 1) 4 (.bool whole) := by
    rw [← hw1]
    have := (Boxed.new (w.alloc (.cells #[mV M] 84)) 4 (.bool whole)).alloc (.cells #[.bool false] 4)
    rwa [World.size_alloc] at this
  have r1 : Boxed w1 (w.heap.size + 2) 4 (.bool false) := by
    rw [← hw1]
    have := Boxed.new ((w.alloc (.cells #[mV M] 84)).alloc (.cells #[.bool whole] 4)) 4 (.bool false)
    simpa using this
  obtain ⟨w2, hw2⟩ : ∃ w2, w1.alloc (.cells #[mV M] 84) = w2 := ⟨_, rfl⟩
  have b2 : Below w1.heap.size w1 w2 := by rw [← hw2]; exact (Below.refl _ _).alloc (Nat.le_refl _) _
  have z2 : w2.heap.size = w.heap.size + 4 := by rw [← hw2]; simp; omega
  have p2 : w2.heap[w1.heap.size]? = some (.cells #[mV M] 84 (0, 0)) := by rw [← hw2]; exact heap_alloc_new _ _
  have b02 : Below w.heap.size w w2 := b1.trans (b2.mono b1.size)
  have D2 : PlDep w2 w1.heap.size b M o lo xs l := ⟨p2, hA.below b02, hL.below b02, hF.moves (Moves.of_below (S := fun _ => False) b02) id⟩
  have hMD : ¬ DepP w1.heap.size b o lo xs l M := by
    rintro (h | h | ⟨h0, h⟩ | ⟨h0, h⟩)
    · omega
    · exact hbM h.symm
    · exact hneI h0 _ h rfl
    · exact hneL h0 _ h rfl
  have DLT : Hid (∀ k, (k = w1.heap.size ∨ k = b ∨ (0 < xs.length ∧ inQ o k) ∨ (0 < l.length ∧ inQ lo k)) → k = w1.heap.size ∨ k < w.heap.size) := Lib.hid fun k hk => by
    rcases hk with h | rfl | ⟨h0, h⟩ | ⟨h0, h⟩
    · exact .inl h
    · exact .inr (World.ownsMap.lt hF)
    · exact .inr (hA.lt h0 h)
    · exact .inr (hL.ltQ h0 h)
  have HSEQ := Lib.hid (seqPlaces hn hw hl D2 hMD (h.below b02))
  have I2 : FitsI w w2 M whole false (fun k => k = M) w2 := ⟨fun k h => .inl h, Moves.of_below b02, row_below m1 b2, row_below e1 b2, row_below r1 b2⟩
  have HI2 := Lib.hid I2
  have HZ1 := Lib.hid z1
  have HZ2 := Lib.hid z2
  have HW1 := Lib.hid hw1
  have HW2 := Lib.hid hw2
  have HPL := Lib.hid (places_any M w1)
  have HTL := Lib.hid hTl
  have HW := Lib.hid hw
  have HN := Lib.hid hn
  have HML := Lib.hid hMl
  have HD2 := Lib.hid D2
  have HL := Lib.hid hl
  rw [hT] at HSEQ
  have c1 := m1.cell
  clear hT hTl hP hMl hw1 b1 z1 m1 e1 r1 hw2 b2 z2 p2 b02 D2 hMD I2 hn hw hl hA hL hF hbM hneI hneL h
  gi_wp2_with fail
  refine wpIn_wide.2 (wp_scope_straight ((wpIn_wide (n := 6)).1 ?_))
  gi_wp2_with fail
  rw [HW1.out]
  refine wpIn_label ?_
  gi_wp2_with fail
  refine ⟨trivial, (callsIn_wide.2 HPL.out).mono ?_⟩
  rintro e w2' ⟨rfl, hw2'⟩
  rw [HW2.out] at hw2'
  subst hw2'
  clear c1
  gi_wp2_with fail
  have hz2 := HZ2.out
  have hz1 := HZ1.out
  have hMlt := HML.out
  refine wpIn_seqT (n := 6) (Ow := fun k => k = M) (Dep := DepP w1.heap.size b o lo xs l) (encs := encPQ) (all := List.range (l.length + 1)) (St := fun _ k => StP M b (.slice lo l.length lcap) (.slice o xs.length cap) back xs T k) (by omega) rfl (enters_of Tryz.func125 (by kernel_rfl) rfl) (fun x => rfl) HSEQ.out
    (fun k h => by omega) (fun k h => HD2.out.lt h)
    (fun X pre W => FitsI w w2 M whole false X W ∧ w2.heap.size ≤ W.heap.size ∧ noAcc whole xs T pre.length)
    (fun c X pre W => w2.heap.size ≤ W.heap.size ∧ ((c = .ret ∧ FitsI w w2 M whole true X W ∧ fitsG whole xs T = true) ∨ (c = .exit 0 ∧ FitsI w w2 M whole false X W ∧ fitsG whole xs T = false))) ?hI ?hIx ?h0
    (fun _ k => { tmps := #[mV M, .bool whole, .pointer (some ⟨w.heap.size, 0, none⟩), .pointer (some ⟨w.heap.size + 1, 0, none⟩), .pointer (some ⟨w.heap.size + 1 + 1, 0, none⟩), .int .i64 (k : Nat), mV M, .func (.func 125) #[] #[.pointer (some ⟨w1.heap.size, 0, none⟩)], .int .i64 (k : Nat), undef, undef, undef, undef, undef, undef, undef, undef, undef, undef, undef, undef, undef, undef, undef, undef, undef, undef, undef, undef, undef, undef, undef, undef, undef, undef, undef, undef, undef, undef, undef, undef], defers := [] })
    (fun A _ B => A = B) (fun A x B h => by rw [h]; exact Moves.refl _ _) ?assign ?body ?done ?stop
  case hI =>
    rintro X X' ys A C ⟨h, hs, hf⟩ hm hX
    exact ⟨h.moves hMlt hz2 hs hm hX, Nat.le_trans hs hm.size, hf⟩
  case hIx =>
    rintro c X X' ys A C ⟨hs, (⟨rfl, h, hf⟩ | ⟨rfl, h, hf⟩)⟩ hm hX
    · exact ⟨Nat.le_trans hs hm.size, .inl ⟨rfl, h.moves hMlt hz2 hs hm hX, hf⟩⟩
    · exact ⟨Nat.le_trans hs hm.size, .inr ⟨rfl, h.moves hMlt hz2 hs hm hX, hf⟩⟩
  case h0 => exact ⟨HI2.out, Nat.le_refl _, noAcc_zero _ _ _⟩
  case assign =>
    rintro l2 x A K hK
    clear hz1 hz2
    gi_wp2
    rfl
  case body =>
    rintro lp X pre k A A' W1 hA hpx hAB hm hXn hXn1 hXlt ⟨hI, hs, hf⟩ ⟨A1, hmat⟩
    obtain ⟨hkp, hkl⟩ := range_pre hpx
    have hM1 : MatAt W1 M (.slice lo l.length lcap) back (.slice o xs.length cap) A1 (stF xs T k) (.map (some b)) := by
      rw [hAB] at hmat
      exact hmat.keep hm (by omega)
    have cm := hI.mb.cell
    have cw := hI.wb.cell
    have cr := hI.rb.cell
    have fr : W1.frozen? ⟨w.heap.size + 1 + 1, 0, none⟩ = false := hI.rb.frozen
    have hrl := hI.rb.lt
    have hld : (ldQ ⟨M, 24, none⟩).run Tryz.prog W1 = .ok (.agg (fitC (stF xs T k)).toArray) W1 := run_loadVar_mid W1 M 24 131 (fitC (stF xs T k)) _ hM1.rangeBehind Tryz.underlying131 rfl (by rw [infoFit]; kernel_rfl)
    obtain ⟨h0, h1, h2, _⟩ := hM1.head
    have hN := hM1.behindN (i := xs.length) HN.out
    rw [stF_end] at hN
    have hn10 := HN.out
    have HI := Lib.hid hI
    have HKP := Lib.hid hkp
    have HKL := Lib.hid hkl
    have HF : Hid (noAcc whole xs T k) := by rw [hkp]; exact Lib.hid hf
    have HS := Lib.hid hs
    have hnl : k ≤ T.length := by have := HTL.out; omega
    have HNL := Lib.hid hnl
    have NEXT : Hid (¬ (fitsB xs (T.take k) = true ∧ (whole = true → k = T.length)) → ∀ W2, Moves (fun k => ¬ X k ∧ ¬ DepP w1.heap.size b o lo xs l k) W1 W2 → FitsI w w2 M whole false X W2 → FitsI w w2 M whole false X W2 ∧ w2.heap.size ≤ W2.heap.size ∧ noAcc whole xs T (pre ++ [k]).length) := Lib.hid fun hno W2 hm2 hi2 =>
      ⟨hi2, Nat.le_trans HS.out hm2.size, by rw [List.length_append, ← HKP.out]; exact noAcc_more HF.out hno⟩
    have ACC : Hid (∀ W2, Moves (fun k => ¬ X k ∧ ¬ DepP w1.heap.size b o lo xs l k) W1 W2 → FitsI w w2 M whole false X W2 → Moves (fun k => ¬ X k ∧ ¬ DepP w1.heap.size b o lo xs l k) W1 (W2.setCell ⟨w.heap.size + 1 + 1, 0, none⟩ (.bool true)) ∧ w2.heap.size ≤ (W2.setCell ⟨w.heap.size + 1 + 1, 0, none⟩ (.bool true)).heap.size ∧ FitsI w w2 M whole true X (W2.setCell ⟨w.heap.size + 1 + 1, 0, none⟩ (.bool true))) := Lib.hid fun W2 hm2 hi2 => by
      have hz2 := HZ2.out
      have hz1 := HZ1.out
      have hMlt := HML.out
      have ms : Moves (fun k => k = w.heap.size + 2) W2 (W2.setCell ⟨w.heap.size + 1 + 1, 0, none⟩ (.bool true)) := Moves.setCell rfl
      refine ⟨hm2.trans (ms.mono fun k e => ?_), Nat.le_trans (Nat.le_trans HS.out hm2.size) ms.size, ⟨hi2.far, ⟨ms.os.trans hi2.kept.os, ms.tape.trans hi2.kept.tape, ms.output.trans hi2.kept.output, Nat.le_trans hi2.kept.size ms.size, fun k hk hs => (ms.block k (by have := hi2.kept.size; omega) (by omega)).trans (hi2.kept.block k hk hs)⟩, row_keep hi2.mb ms (by omega), row_keep hi2.wb ms (by omega), hi2.rb.set _⟩⟩
      subst e
      refine ⟨fun hx => ?_, fun hd => ?_⟩
      · rcases hi2.far _ hx with h3 | h3 <;> omega
      · rcases hd with h3 | h3 | ⟨h3, h4⟩ | ⟨h3, h4⟩
        · omega
        · have := DLT.out _ (.inr (.inl rfl)); omega
        · have := DLT.out _ (.inr (.inr (.inl ⟨h3, h4⟩))); omega
        · have := DLT.out _ (.inr (.inr (.inr ⟨h3, h4⟩))); omega
    obtain ⟨n, hnn⟩ : ∃ n, xs.length = n := ⟨_, rfl⟩
    rw [hnn] at h2 hN hn10
    clear hI hs hf hmat hpx hm hXn hXn1 hXlt hM1 hA hAB hz1 hz2 hMlt hkp hkl hnl
    cases hd : deadF (stF xs T k) with
    | true =>
      have hno := fits_dead HF.out HNL.out (stF_dead HW.out HN.out hd)
      have HNO := Lib.hid hno
      clear hno
      gi_wp2
      exact ⟨Moves.refl _ _, HS.out, .inr ⟨rfl, HI.out, HNO.out⟩⟩
    | false =>
      cases hb : fitsB xs (T.take k) with
      | false =>
        rw [hb] at hN NEXT
        clear hb
        gi_wp2_with fail
        refine wpIn_quiet_roundQ lp (by kernel_rfl) (by kernel_rfl) (by kernel_rfl) ?_
        repeat (gi_big_quiet_step (fail))
        refine BigFrame.wpQuietIn_skip (fun _ _ _ _ => trivial) (by kernel_rfl) ?_
        go_simp
        repeat (gi_big_quiet_step (fail))
        refine wpQuietIn_nil ?_
        intro nq
        have hm2 : Moves (fun k => ¬ X k ∧ ¬ DepP w1.heap.size b o lo xs l k) W1 (W1.drewN nq) := (moves_drewNQ _ _).mono fun _ h => h.elim
        have HQ := Lib.hid (NEXT.out (fun h => by cases h.1) _ hm2 (HI.out.drewN nq))
        have HM2 := Lib.hid hm2
        clear hm2
        gi_wp2
        exact ⟨HM2.out, HQ.out⟩
      | true =>
        cases whole with
        | false =>
          have HR : Hid (Moves (fun k => ¬ X k ∧ ¬ DepP w1.heap.size b o lo xs l k) W1 W1) := Lib.hid (Moves.refl _ _)
          rw [hb] at hN
          have hacc := Lib.hid (fits_acc (whole := false) HNL.out hb (fun h => by cases h))
          clear hb
          gi_wp2_with fail
          refine wpIn_quiet_roundQ lp (by kernel_rfl) (by kernel_rfl) (by kernel_rfl) ?_
          repeat (gi_big_quiet_step (fail))
          refine BigFrame.wpQuietIn_skip (fun _ _ _ _ => trivial) (by kernel_rfl) ?_
          go_simp
          repeat (gi_big_quiet_step (fail))
          refine wpQuietIn_nil ?_
          intro nq
          have i2 := HI.out.drewN nq
          have cr2 := i2.rb.cell
          have fr2 : (W1.drewN nq).frozen? ⟨w.heap.size + 1 + 1, 0, none⟩ = false := i2.rb.frozen
          have lr2 := i2.rb.lt
          have HQ := Lib.hid (ACC.out _ ((moves_drewNQ _ _).mono fun _ h => h.elim) i2)
          clear i2
          gi_wp2
          exact ⟨HQ.out.1, HQ.out.2.1, .inl ⟨rfl, HQ.out.2.2, hacc.out⟩⟩
        | true =>
          rw [hb] at hN NEXT
          obtain ⟨m, hm⟩ : ∃ m, l.length = m := ⟨_, rfl⟩
          rw [hm] at h0
          have HC := Lib.hid (numsSize_any lo m lcap (.bool back) W1.drew)
          have bd : Below W1.heap.size W1 (W1.drew.alloc (.cells #[.slice lo m lcap, .bool back] 127)) := (Below.refl _ _).drew.alloc (Nat.le_refl _) _
          have MV8 : Hid (Moves (fun k => ¬ X k ∧ ¬ DepP w1.heap.size b o lo xs l k) W1 (W1.drew.alloc (.cells #[.slice lo m lcap, .bool back] 127))) := Lib.hid (Moves.of_below bd)
          have FI8 : Hid (FitsI w w2 M true false X (W1.drew.alloc (.cells #[.slice lo m lcap, .bool back] 127))) := Lib.hid ⟨HI.out.far, HI.out.kept.trans (Moves.of_below bd), row_below HI.out.mb bd, row_below HI.out.wb bd, row_below HI.out.rb bd⟩
          clear bd
          have hTm : T.length = m := by rw [HTL.out, hm]
          gi_wp2_with fail
          have hn11 : n < 11 := by omega
          have hn12 : ((n : Nat) : Int) < 11 := by omega
          have hn13 : (0 : Int) ≤ ((n : Nat) : Int) := by omega
          have hn14 : ((n : Nat) : Int).toNat = n := by omega
          refine wpIn_region_any (by kernel_rfl) (wpAnyIn_roundQ lp (by intro o ho; exact List.all_eq_true.1 (show List.all _ noDeferQ = true by kernel_rfl) o ho) _ _ _ _ ?_)
          try (change wpAnyIn _ _ _ _ _ _ _ _ _ (World.drew _))
          refine wpAnyIn_ready (rs := [0, 1]) (by kernel_rfl) (by simp) ?_
          refine AllReadyIn.cons rfl (fun K hK => ?_) ?_
          focus
            go_simp
            refine hK _ _ ?_
            clear hK K
            refine wpAnyIn_take (i := 6) (v := ?_) rfl rfl (by kernel_rfl) (by kernel_rfl) (by kernel_rfl) (fun _ _ _ h => h) ⟨Or.inl ⟨by kernel_rfl, ?_⟩, by intro _; rfl⟩ ?_
            rotate_left 1
            · (intro w; first | (go_simp; done) | (go_simp; with_reducible rfl))
            change wpAnyIn _ _ _ _ _ _ _ _ (Act.put _ (some 23) _) _
            refine wpAnyIn_take (i := 7) (v := ?_) rfl rfl (by kernel_rfl) (by kernel_rfl) (by kernel_rfl) (fun _ _ _ h => h) ⟨Or.inl ⟨by kernel_rfl, ?_⟩, by intro _; rfl⟩ ?_
            rotate_left 1
            · (intro w; first | (go_simp; done) | (go_simp; with_reducible rfl))
            change wpAnyIn _ _ _ _ _ _ _ _ (Act.put _ (some 24) _) _
            refine wpAnyIn_take (i := 8) (v := ?_) rfl rfl (by kernel_rfl) (by kernel_rfl) (by kernel_rfl) (fun _ _ _ h => h) ⟨Or.inl ⟨by kernel_rfl, ?_⟩, by intro _; rfl⟩ ?_
            rotate_left 1
            · (intro w; first | (go_simp; done) | (go_simp; with_reducible rfl))
            change wpAnyIn _ _ _ _ _ _ _ _ (Act.put _ (some 25) _) _
            refine wpAnyIn_ready (rs := [1]) (by kernel_rfl) (by simp) ?_
            refine AllReadyIn.cons rfl (fun K hK => ?_) AllReadyIn.nil
            go_simp
            refine hK _ _ ?_
            clear hK K
            refine wpAnyIn_take (i := 2) (v := ?_) rfl rfl (by kernel_rfl) (by kernel_rfl) (by kernel_rfl) (fun _ _ _ h => h) ⟨Or.inl ⟨by kernel_rfl, ?_⟩, by intro _; rfl⟩ ?_
            rotate_left 1
            · (intro w; first | (go_simp; done) | (go_simp; with_reducible rfl))
            change wpAnyIn _ _ _ _ _ _ _ _ (Act.put _ (some 19) _) _
            refine wpAnyIn_take (i := 3) (v := ?_) rfl rfl (by kernel_rfl) (by kernel_rfl) (by kernel_rfl) (fun _ _ _ h => h) ⟨Or.inl ⟨by kernel_rfl, ?_⟩, by intro _; rfl⟩ ?_
            rotate_left 1
            · (intro w; first | (go_simp; done) | (go_simp; with_reducible rfl))
            change wpAnyIn _ _ _ _ _ _ _ _ (Act.put _ (some 20) _) _
            refine wpAnyIn_ready (rs := [4]) (by kernel_rfl) (by simp) ?_
            refine AllReadyIn.cons rfl (fun K hK => ?_) AllReadyIn.nil
            go_simp
            refine hK _ _ ?_
            clear hK K
            refine wpAnyIn_take (i := 5) (v := ?_) rfl rfl (by kernel_rfl) (by kernel_rfl) (by kernel_rfl) (fun _ _ _ h => h) ⟨Or.inl ⟨by kernel_rfl, ?_⟩, by intro _; rfl⟩ ?_
            rotate_left 1
            · (intro w; first | (go_simp; done) | (go_simp; with_reducible rfl))
            change wpAnyIn _ _ _ _ _ _ _ _ (Act.put _ (some 22) _) _
            refine wpAnyIn_take (i := 9) (v := ?_) rfl rfl (by kernel_rfl) (by kernel_rfl) (by kernel_rfl) (fun _ _ _ h => h) ⟨Or.inl ⟨by kernel_rfl, ?_⟩, by intro _; rfl⟩ ?_
            rotate_left 1
            · (intro w; first | (go_simp; done) | (go_simp; with_reducible rfl))
            change wpAnyIn _ _ _ _ _ _ _ _ (Act.put _ (some 26) _) _
            refine wpAnyIn_ready (rs := [10]) (by kernel_rfl) (by simp) ?_
            refine AllReadyIn.cons rfl (fun K hK => ?_) AllReadyIn.nil
            go_simp
            refine hK _ _ ?_
            clear hK K
            refine wpAnyIn_take (i := 11) (v := ?_) rfl rfl (by kernel_rfl) (by kernel_rfl) (by kernel_rfl) (fun _ _ _ h => h) ⟨Or.inl ⟨by kernel_rfl, ?_⟩, by intro _; rfl⟩ ?_
            rotate_left 1
            · (intro w; first | (go_simp; done) | (go_simp; with_reducible rfl))
            change wpAnyIn _ _ _ _ _ _ _ _ (Act.put _ (some 28) _) _
            refine wpAnyIn_ready (rs := [12]) (by kernel_rfl) (by simp) ?_
            refine AllReadyIn.cons rfl (fun K hK => ?_) AllReadyIn.nil
            go_simp
            refine hK _ _ ?_
            clear hK K
            refine wpAnyIn_take (i := 13) (v := ?_) rfl rfl (by kernel_rfl) (by kernel_rfl) (by kernel_rfl) (fun _ _ _ h => h) ⟨Or.inl ⟨by kernel_rfl, ?_⟩, by intro _; rfl⟩ ?_
            rotate_left 1
            · (intro w; first | (go_simp; done) | (go_simp; with_reducible rfl))
            change wpAnyIn _ _ _ _ _ _ _ _ (Act.put _ (some 30) _) _
            refine wpAnyIn_take (i := 14) (v := ?_) rfl rfl (by kernel_rfl) (by kernel_rfl) (by kernel_rfl) (fun _ _ _ h => h) ⟨Or.inl ⟨by kernel_rfl, ?_⟩, by intro _; rfl⟩ ?_
            rotate_left 1
            · (intro w; first | (go_simp; done) | (go_simp; with_reducible rfl))
            change wpAnyIn _ _ _ _ _ _ _ _ (Act.put _ (some 31) _) _
            refine wpAnyIn_take (i := 15) (v := ?_) rfl rfl (by kernel_rfl) (by kernel_rfl) (by kernel_rfl) (fun _ _ _ h => h) ⟨Or.inl ⟨by kernel_rfl, ?_⟩, by intro _; rfl⟩ ?_
            rotate_left 1
            · (intro w; first | (go_simp; done) | (go_simp; with_reducible rfl))
            change wpAnyIn _ _ _ _ _ _ _ _ (Act.put _ (some 32) _) _
            refine wpAnyIn_ready (rs := [16]) (by kernel_rfl) (by simp) ?_
            refine AllReadyIn.cons rfl (fun K hK => ?_) AllReadyIn.nil
            go_simp
            refine hK _ _ ?_
            clear hK K
            refine wpAnyIn_take (i := 17) (v := ?_) rfl rfl (by kernel_rfl) (by kernel_rfl) (by kernel_rfl) (fun _ _ _ h => h) ⟨Or.inl ⟨by kernel_rfl, ?_⟩, by intro _; rfl⟩ ?_
            rotate_left 1
            · (intro w; first | (go_simp; done) | (go_simp; with_reducible rfl))
            change wpAnyIn _ _ _ _ _ _ _ _ (Act.put _ (some 34) _) _
            refine wpAnyIn_take (i := 18) (v := ?_) rfl rfl (by kernel_rfl) (by kernel_rfl) (by kernel_rfl) (fun _ _ _ h => h) ⟨Or.inl ⟨by kernel_rfl, ?_⟩, by intro _; rfl⟩ ?_
            rotate_left 1
            · (intro w; first | (go_simp; done) | (go_simp; with_reducible rfl))
            change wpAnyIn _ _ _ _ _ _ _ _ (Act.put _ (some 35) _) _
            refine wpAnyIn_ready (rs := [19]) (by kernel_rfl) (by simp) ?_
            refine AllReadyIn.cons rfl (fun K hK => ?_) AllReadyIn.nil
            go_simp
            refine hK _ _ ?_
            clear hK K
            refine wpAnyIn_ready (rs := [20]) (by kernel_rfl) (by simp) ?_
            refine AllReadyIn.cons rfl (fun K hK => ?_) AllReadyIn.nil
            go_simp
            gi_wp2_with (refine ⟨trivial, (callsIn_wide.2 HC.out).mono ?_⟩; rintro e w8 ⟨rfl, hw8⟩)
            refine wpAnyIn_take (i := 21) (v := ?_) rfl rfl (by kernel_rfl) (by kernel_rfl) (by kernel_rfl) (fun _ _ _ h => h) ⟨Or.inl ⟨by kernel_rfl, ?_⟩, by intro _; rfl⟩ ?_
            rotate_left 1
            · (intro w; first | (go_simp; done) | (go_simp; with_reducible rfl))
            change wpAnyIn _ _ _ _ _ _ _ _ (Act.put _ (some 38) _) _
            refine wpAnyIn_take (i := 22) (v := ?_) rfl rfl (by kernel_rfl) (by kernel_rfl) (by kernel_rfl) (fun _ _ _ h => h) ⟨Or.inl ⟨by kernel_rfl, ?_⟩, by intro _; rfl⟩ ?_
            rotate_left 1
            · (intro w; first | (go_simp; done) | (go_simp; with_reducible rfl))
            change wpAnyIn _ _ _ _ _ _ _ _ (Act.put _ (some 39) _) _
            refine wpAnyIn_take (i := 23) (v := ?_) rfl rfl (by kernel_rfl) (by kernel_rfl) (by kernel_rfl) (fun _ _ _ h => h) ⟨Or.inl ⟨by kernel_rfl, ?_⟩, by intro _; rfl⟩ ?_
            rotate_left 1
            · (intro w; first | (go_simp; done) | (go_simp; with_reducible rfl))
            change wpAnyIn _ _ _ _ _ _ _ _ (Act.put _ (some 40) _) _
            refine wpAnyIn_take (i := 24) (v := ?_) rfl rfl (by kernel_rfl) (by kernel_rfl) (by kernel_rfl) (fun _ _ _ h => h) ⟨Or.inl ⟨by kernel_rfl, ?_⟩, by intro _; rfl⟩ ?_
            rotate_left 1
            · (intro w; first | (go_simp; done) | (go_simp; with_reducible rfl))
            change wpAnyIn _ _ _ _ _ _ _ _ (Act.put _ (some 16) _) _
            refine wpAnyIn_done (by kernel_rfl) ?_ _
            go_simp
            have HW8 := Lib.hid hw8
            have cr8 : w8.cell? ⟨w.heap.size + 2, 0, none⟩ = some (.bool false) := by rw [← hw8]; exact FI8.out.rb.cell
            have fr8 : w8.frozen? ⟨w.heap.size + 1 + 1, 0, none⟩ = false := by rw [← hw8]; exact FI8.out.rb.frozen
            have lr8 : w.heap.size + 2 < w8.heap.size := by rw [← hw8]; exact FI8.out.rb.lt
            clear hw8
            by_cases hkm : k = m
            · have HA8 := Lib.hid (ACC.out w8 (by rw [← HW8.out]; exact MV8.out) (by rw [← HW8.out]; exact FI8.out))
              have hacc := Lib.hid (fits_acc (whole := true) HNL.out hb (fun _ => by rw [hTm]; exact hkm))
              gi_wp2
              exact ⟨HA8.out.1, HA8.out.2.1, .inl ⟨rfl, HA8.out.2.2, hacc.out⟩⟩
            · have HN8 := Lib.hid (NEXT.out (by first | exact fun h => hkm ((h.2 rfl).trans hTm) | exact fun h => hkm ((h.2 trivial).trans hTm)) w8 (by rw [← HW8.out]; exact MV8.out) (by rw [← HW8.out]; exact FI8.out))
              have HM8 : Hid (Moves (fun k => ¬ X k ∧ ¬ DepP w1.heap.size b o lo xs l k) W1 w8) := by rw [← HW8.out]; exact MV8
              gi_wp2
              exact ⟨HM8.out, HN8.out⟩
          refine AllReadyIn.cons rfl (fun K hK => ?_) AllReadyIn.nil
          go_simp
          refine hK _ _ ?_
          clear hK K
          refine wpAnyIn_take (i := 2) (v := ?_) rfl rfl (by kernel_rfl) (by kernel_rfl) (by kernel_rfl) (fun _ _ _ h => h) ⟨Or.inl ⟨by kernel_rfl, ?_⟩, by intro _; rfl⟩ ?_
          rotate_left 1
          · (intro w; first | (go_simp; done) | (go_simp; with_reducible rfl))
          change wpAnyIn _ _ _ _ _ _ _ _ (Act.put _ (some 19) _) _
          refine wpAnyIn_take (i := 3) (v := ?_) rfl rfl (by kernel_rfl) (by kernel_rfl) (by kernel_rfl) (fun _ _ _ h => h) ⟨Or.inl ⟨by kernel_rfl, ?_⟩, by intro _; rfl⟩ ?_
          rotate_left 1
          · (intro w; first | (go_simp; done) | (go_simp; with_reducible rfl))
          change wpAnyIn _ _ _ _ _ _ _ _ (Act.put _ (some 20) _) _
          refine wpAnyIn_ready (rs := [0, 4]) (by kernel_rfl) (by simp) ?_
          refine AllReadyIn.cons rfl (fun K hK => ?_) ?_
          focus
            go_simp
            refine hK _ _ ?_
            clear hK K
            refine wpAnyIn_take (i := 6) (v := ?_) rfl rfl (by kernel_rfl) (by kernel_rfl) (by kernel_rfl) (fun _ _ _ h => h) ⟨Or.inl ⟨by kernel_rfl, ?_⟩, by intro _; rfl⟩ ?_
            rotate_left 1
            · (intro w; first | (go_simp; done) | (go_simp; with_reducible rfl))
            change wpAnyIn _ _ _ _ _ _ _ _ (Act.put _ (some 23) _) _
            refine wpAnyIn_take (i := 7) (v := ?_) rfl rfl (by kernel_rfl) (by kernel_rfl) (by kernel_rfl) (fun _ _ _ h => h) ⟨Or.inl ⟨by kernel_rfl, ?_⟩, by intro _; rfl⟩ ?_
            rotate_left 1
            · (intro w; first | (go_simp; done) | (go_simp; with_reducible rfl))
            change wpAnyIn _ _ _ _ _ _ _ _ (Act.put _ (some 24) _) _
            refine wpAnyIn_take (i := 8) (v := ?_) rfl rfl (by kernel_rfl) (by kernel_rfl) (by kernel_rfl) (fun _ _ _ h => h) ⟨Or.inl ⟨by kernel_rfl, ?_⟩, by intro _; rfl⟩ ?_
            rotate_left 1
            · (intro w; first | (go_simp; done) | (go_simp; with_reducible rfl))
            change wpAnyIn _ _ _ _ _ _ _ _ (Act.put _ (some 25) _) _
            refine wpAnyIn_ready (rs := [4]) (by kernel_rfl) (by simp) ?_
            refine AllReadyIn.cons rfl (fun K hK => ?_) AllReadyIn.nil
            go_simp
            refine hK _ _ ?_
            clear hK K
            refine wpAnyIn_take (i := 5) (v := ?_) rfl rfl (by kernel_rfl) (by kernel_rfl) (by kernel_rfl) (fun _ _ _ h => h) ⟨Or.inl ⟨by kernel_rfl, ?_⟩, by intro _; rfl⟩ ?_
            rotate_left 1
            · (intro w; first | (go_simp; done) | (go_simp; with_reducible rfl))
            change wpAnyIn _ _ _ _ _ _ _ _ (Act.put _ (some 22) _) _
            refine wpAnyIn_take (i := 9) (v := ?_) rfl rfl (by kernel_rfl) (by kernel_rfl) (by kernel_rfl) (fun _ _ _ h => h) ⟨Or.inl ⟨by kernel_rfl, ?_⟩, by intro _; rfl⟩ ?_
            rotate_left 1
            · (intro w; first | (go_simp; done) | (go_simp; with_reducible rfl))
            change wpAnyIn _ _ _ _ _ _ _ _ (Act.put _ (some 26) _) _
            refine wpAnyIn_ready (rs := [10]) (by kernel_rfl) (by simp) ?_
            refine AllReadyIn.cons rfl (fun K hK => ?_) AllReadyIn.nil
            go_simp
            refine hK _ _ ?_
            clear hK K
            refine wpAnyIn_take (i := 11) (v := ?_) rfl rfl (by kernel_rfl) (by kernel_rfl) (by kernel_rfl) (fun _ _ _ h => h) ⟨Or.inl ⟨by kernel_rfl, ?_⟩, by intro _; rfl⟩ ?_
            rotate_left 1
            · (intro w; first | (go_simp; done) | (go_simp; with_reducible rfl))
            change wpAnyIn _ _ _ _ _ _ _ _ (Act.put _ (some 28) _) _
            refine wpAnyIn_ready (rs := [12]) (by kernel_rfl) (by simp) ?_
            refine AllReadyIn.cons rfl (fun K hK => ?_) AllReadyIn.nil
            go_simp
            refine hK _ _ ?_
            clear hK K
            refine wpAnyIn_take (i := 13) (v := ?_) rfl rfl (by kernel_rfl) (by kernel_rfl) (by kernel_rfl) (fun _ _ _ h => h) ⟨Or.inl ⟨by kernel_rfl, ?_⟩, by intro _; rfl⟩ ?_
            rotate_left 1
            · (intro w; first | (go_simp; done) | (go_simp; with_reducible rfl))
            change wpAnyIn _ _ _ _ _ _ _ _ (Act.put _ (some 30) _) _
            refine wpAnyIn_take (i := 14) (v := ?_) rfl rfl (by kernel_rfl) (by kernel_rfl) (by kernel_rfl) (fun _ _ _ h => h) ⟨Or.inl ⟨by kernel_rfl, ?_⟩, by intro _; rfl⟩ ?_
            rotate_left 1
            · (intro w; first | (go_simp; done) | (go_simp; with_reducible rfl))
            change wpAnyIn _ _ _ _ _ _ _ _ (Act.put _ (some 31) _) _
            refine wpAnyIn_take (i := 15) (v := ?_) rfl rfl (by kernel_rfl) (by kernel_rfl) (by kernel_rfl) (fun _ _ _ h => h) ⟨Or.inl ⟨by kernel_rfl, ?_⟩, by intro _; rfl⟩ ?_
            rotate_left 1
            · (intro w; first | (go_simp; done) | (go_simp; with_reducible rfl))
            change wpAnyIn _ _ _ _ _ _ _ _ (Act.put _ (some 32) _) _
            refine wpAnyIn_ready (rs := [16]) (by kernel_rfl) (by simp) ?_
            refine AllReadyIn.cons rfl (fun K hK => ?_) AllReadyIn.nil
            go_simp
            refine hK _ _ ?_
            clear hK K
            refine wpAnyIn_take (i := 17) (v := ?_) rfl rfl (by kernel_rfl) (by kernel_rfl) (by kernel_rfl) (fun _ _ _ h => h) ⟨Or.inl ⟨by kernel_rfl, ?_⟩, by intro _; rfl⟩ ?_
            rotate_left 1
            · (intro w; first | (go_simp; done) | (go_simp; with_reducible rfl))
            change wpAnyIn _ _ _ _ _ _ _ _ (Act.put _ (some 34) _) _
            refine wpAnyIn_take (i := 18) (v := ?_) rfl rfl (by kernel_rfl) (by kernel_rfl) (by kernel_rfl) (fun _ _ _ h => h) ⟨Or.inl ⟨by kernel_rfl, ?_⟩, by intro _; rfl⟩ ?_
            rotate_left 1
            · (intro w; first | (go_simp; done) | (go_simp; with_reducible rfl))
            change wpAnyIn _ _ _ _ _ _ _ _ (Act.put _ (some 35) _) _
            refine wpAnyIn_ready (rs := [19]) (by kernel_rfl) (by simp) ?_
            refine AllReadyIn.cons rfl (fun K hK => ?_) AllReadyIn.nil
            go_simp
            refine hK _ _ ?_
            clear hK K
            refine wpAnyIn_ready (rs := [20]) (by kernel_rfl) (by simp) ?_
            refine AllReadyIn.cons rfl (fun K hK => ?_) AllReadyIn.nil
            go_simp
            gi_wp2_with (refine ⟨trivial, (callsIn_wide.2 HC.out).mono ?_⟩; rintro e w8 ⟨rfl, hw8⟩)
            refine wpAnyIn_take (i := 21) (v := ?_) rfl rfl (by kernel_rfl) (by kernel_rfl) (by kernel_rfl) (fun _ _ _ h => h) ⟨Or.inl ⟨by kernel_rfl, ?_⟩, by intro _; rfl⟩ ?_
            rotate_left 1
            · (intro w; first | (go_simp; done) | (go_simp; with_reducible rfl))
            change wpAnyIn _ _ _ _ _ _ _ _ (Act.put _ (some 38) _) _
            refine wpAnyIn_take (i := 22) (v := ?_) rfl rfl (by kernel_rfl) (by kernel_rfl) (by kernel_rfl) (fun _ _ _ h => h) ⟨Or.inl ⟨by kernel_rfl, ?_⟩, by intro _; rfl⟩ ?_
            rotate_left 1
            · (intro w; first | (go_simp; done) | (go_simp; with_reducible rfl))
            change wpAnyIn _ _ _ _ _ _ _ _ (Act.put _ (some 39) _) _
            refine wpAnyIn_take (i := 23) (v := ?_) rfl rfl (by kernel_rfl) (by kernel_rfl) (by kernel_rfl) (fun _ _ _ h => h) ⟨Or.inl ⟨by kernel_rfl, ?_⟩, by intro _; rfl⟩ ?_
            rotate_left 1
            · (intro w; first | (go_simp; done) | (go_simp; with_reducible rfl))
            change wpAnyIn _ _ _ _ _ _ _ _ (Act.put _ (some 40) _) _
            refine wpAnyIn_take (i := 24) (v := ?_) rfl rfl (by kernel_rfl) (by kernel_rfl) (by kernel_rfl) (fun _ _ _ h => h) ⟨Or.inl ⟨by kernel_rfl, ?_⟩, by intro _; rfl⟩ ?_
            rotate_left 1
            · (intro w; first | (go_simp; done) | (go_simp; with_reducible rfl))
            change wpAnyIn _ _ _ _ _ _ _ _ (Act.put _ (some 16) _) _
            refine wpAnyIn_done (by kernel_rfl) ?_ _
            go_simp
            have HW8 := Lib.hid hw8
            have cr8 : w8.cell? ⟨w.heap.size + 2, 0, none⟩ = some (.bool false) := by rw [← hw8]; exact FI8.out.rb.cell
            have fr8 : w8.frozen? ⟨w.heap.size + 1 + 1, 0, none⟩ = false := by rw [← hw8]; exact FI8.out.rb.frozen
            have lr8 : w.heap.size + 2 < w8.heap.size := by rw [← hw8]; exact FI8.out.rb.lt
            clear hw8
            by_cases hkm : k = m
            · have HA8 := Lib.hid (ACC.out w8 (by rw [← HW8.out]; exact MV8.out) (by rw [← HW8.out]; exact FI8.out))
              have hacc := Lib.hid (fits_acc (whole := true) HNL.out hb (fun _ => by rw [hTm]; exact hkm))
              gi_wp2
              exact ⟨HA8.out.1, HA8.out.2.1, .inl ⟨rfl, HA8.out.2.2, hacc.out⟩⟩
            · have HN8 := Lib.hid (NEXT.out (by first | exact fun h => hkm ((h.2 rfl).trans hTm) | exact fun h => hkm ((h.2 trivial).trans hTm)) w8 (by rw [← HW8.out]; exact MV8.out) (by rw [← HW8.out]; exact FI8.out))
              have HM8 : Hid (Moves (fun k => ¬ X k ∧ ¬ DepP w1.heap.size b o lo xs l k) W1 w8) := by rw [← HW8.out]; exact MV8
              gi_wp2
              exact ⟨HM8.out, HN8.out⟩
          refine AllReadyIn.cons rfl (fun K hK => ?_) AllReadyIn.nil
          go_simp
          refine hK _ _ ?_
          clear hK K
          refine wpAnyIn_take (i := 5) (v := ?_) rfl rfl (by kernel_rfl) (by kernel_rfl) (by kernel_rfl) (fun _ _ _ h => h) ⟨Or.inl ⟨by kernel_rfl, ?_⟩, by intro _; rfl⟩ ?_
          rotate_left 1
          · (intro w; first | (go_simp; done) | (go_simp; with_reducible rfl))
          change wpAnyIn _ _ _ _ _ _ _ _ (Act.put _ (some 22) _) _
          refine wpAnyIn_ready (rs := [0]) (by kernel_rfl) (by simp) ?_
          refine AllReadyIn.cons rfl (fun K hK => ?_) AllReadyIn.nil
          go_simp
          refine hK _ _ ?_
          clear hK K
          refine wpAnyIn_take (i := 6) (v := ?_) rfl rfl (by kernel_rfl) (by kernel_rfl) (by kernel_rfl) (fun _ _ _ h => h) ⟨Or.inl ⟨by kernel_rfl, ?_⟩, by intro _; rfl⟩ ?_
          rotate_left 1
          · (intro w; first | (go_simp; done) | (go_simp; with_reducible rfl))
          change wpAnyIn _ _ _ _ _ _ _ _ (Act.put _ (some 23) _) _
          refine wpAnyIn_take (i := 7) (v := ?_) rfl rfl (by kernel_rfl) (by kernel_rfl) (by kernel_rfl) (fun _ _ _ h => h) ⟨Or.inl ⟨by kernel_rfl, ?_⟩, by intro _; rfl⟩ ?_
          rotate_left 1
          · (intro w; first | (go_simp; done) | (go_simp; with_reducible rfl))
          change wpAnyIn _ _ _ _ _ _ _ _ (Act.put _ (some 24) _) _
          refine wpAnyIn_take (i := 8) (v := ?_) rfl rfl (by kernel_rfl) (by kernel_rfl) (by kernel_rfl) (fun _ _ _ h => h) ⟨Or.inl ⟨by kernel_rfl, ?_⟩, by intro _; rfl⟩ ?_
          rotate_left 1
          · (intro w; first | (go_simp; done) | (go_simp; with_reducible rfl))
          change wpAnyIn _ _ _ _ _ _ _ _ (Act.put _ (some 25) _) _
          refine wpAnyIn_take (i := 9) (v := ?_) rfl rfl (by kernel_rfl) (by kernel_rfl) (by kernel_rfl) (fun _ _ _ h => h) ⟨Or.inl ⟨by kernel_rfl, ?_⟩, by intro _; rfl⟩ ?_
          rotate_left 1
          · (intro w; first | (go_simp; done) | (go_simp; with_reducible rfl))
          change wpAnyIn _ _ _ _ _ _ _ _ (Act.put _ (some 26) _) _
          refine wpAnyIn_ready (rs := [10]) (by kernel_rfl) (by simp) ?_
          refine AllReadyIn.cons rfl (fun K hK => ?_) AllReadyIn.nil
          go_simp
          refine hK _ _ ?_
          clear hK K
          refine wpAnyIn_take (i := 11) (v := ?_) rfl rfl (by kernel_rfl) (by kernel_rfl) (by kernel_rfl) (fun _ _ _ h => h) ⟨Or.inl ⟨by kernel_rfl, ?_⟩, by intro _; rfl⟩ ?_
          rotate_left 1
          · (intro w; first | (go_simp; done) | (go_simp; with_reducible rfl))
          change wpAnyIn _ _ _ _ _ _ _ _ (Act.put _ (some 28) _) _
          refine wpAnyIn_ready (rs := [12]) (by kernel_rfl) (by simp) ?_
          refine AllReadyIn.cons rfl (fun K hK => ?_) AllReadyIn.nil
          go_simp
          refine hK _ _ ?_
          clear hK K
          refine wpAnyIn_take (i := 13) (v := ?_) rfl rfl (by kernel_rfl) (by kernel_rfl) (by kernel_rfl) (fun _ _ _ h => h) ⟨Or.inl ⟨by kernel_rfl, ?_⟩, by intro _; rfl⟩ ?_
          rotate_left 1
          · (intro w; first | (go_simp; done) | (go_simp; with_reducible rfl))
          change wpAnyIn _ _ _ _ _ _ _ _ (Act.put _ (some 30) _) _
          refine wpAnyIn_take (i := 14) (v := ?_) rfl rfl (by kernel_rfl) (by kernel_rfl) (by kernel_rfl) (fun _ _ _ h => h) ⟨Or.inl ⟨by kernel_rfl, ?_⟩, by intro _; rfl⟩ ?_
          rotate_left 1
          · (intro w; first | (go_simp; done) | (go_simp; with_reducible rfl))
          change wpAnyIn _ _ _ _ _ _ _ _ (Act.put _ (some 31) _) _
          refine wpAnyIn_take (i := 15) (v := ?_) rfl rfl (by kernel_rfl) (by kernel_rfl) (by kernel_rfl) (fun _ _ _ h => h) ⟨Or.inl ⟨by kernel_rfl, ?_⟩, by intro _; rfl⟩ ?_
          rotate_left 1
          · (intro w; first | (go_simp; done) | (go_simp; with_reducible rfl))
          change wpAnyIn _ _ _ _ _ _ _ _ (Act.put _ (some 32) _) _
          refine wpAnyIn_ready (rs := [16]) (by kernel_rfl) (by simp) ?_
          refine AllReadyIn.cons rfl (fun K hK => ?_) AllReadyIn.nil
          go_simp
          refine hK _ _ ?_
          clear hK K
          refine wpAnyIn_take (i := 17) (v := ?_) rfl rfl (by kernel_rfl) (by kernel_rfl) (by kernel_rfl) (fun _ _ _ h => h) ⟨Or.inl ⟨by kernel_rfl, ?_⟩, by intro _; rfl⟩ ?_
          rotate_left 1
          · (intro w; first | (go_simp; done) | (go_simp; with_reducible rfl))
          change wpAnyIn _ _ _ _ _ _ _ _ (Act.put _ (some 34) _) _
          refine wpAnyIn_take (i := 18) (v := ?_) rfl rfl (by kernel_rfl) (by kernel_rfl) (by kernel_rfl) (fun _ _ _ h => h) ⟨Or.inl ⟨by kernel_rfl, ?_⟩, by intro _; rfl⟩ ?_
          rotate_left 1
          · (intro w; first | (go_simp; done) | (go_simp; with_reducible rfl))
          change wpAnyIn _ _ _ _ _ _ _ _ (Act.put _ (some 35) _) _
          refine wpAnyIn_ready (rs := [19]) (by kernel_rfl) (by simp) ?_
          refine AllReadyIn.cons rfl (fun K hK => ?_) AllReadyIn.nil
          go_simp
          refine hK _ _ ?_
          clear hK K
          refine wpAnyIn_ready (rs := [20]) (by kernel_rfl) (by simp) ?_
          refine AllReadyIn.cons rfl (fun K hK => ?_) AllReadyIn.nil
          go_simp
          gi_wp2_with (refine ⟨trivial, (callsIn_wide.2 HC.out).mono ?_⟩; rintro e w8 ⟨rfl, hw8⟩)
          refine wpAnyIn_take (i := 21) (v := ?_) rfl rfl (by kernel_rfl) (by kernel_rfl) (by kernel_rfl) (fun _ _ _ h => h) ⟨Or.inl ⟨by kernel_rfl, ?_⟩, by intro _; rfl⟩ ?_
          rotate_left 1
          · (intro w; first | (go_simp; done) | (go_simp; with_reducible rfl))
          change wpAnyIn _ _ _ _ _ _ _ _ (Act.put _ (some 38) _) _
          refine wpAnyIn_take (i := 22) (v := ?_) rfl rfl (by kernel_rfl) (by kernel_rfl) (by kernel_rfl) (fun _ _ _ h => h) ⟨Or.inl ⟨by kernel_rfl, ?_⟩, by intro _; rfl⟩ ?_
          rotate_left 1
          · (intro w; first | (go_simp; done) | (go_simp; with_reducible rfl))
          change wpAnyIn _ _ _ _ _ _ _ _ (Act.put _ (some 39) _) _
          refine wpAnyIn_take (i := 23) (v := ?_) rfl rfl (by kernel_rfl) (by kernel_rfl) (by kernel_rfl) (fun _ _ _ h => h) ⟨Or.inl ⟨by kernel_rfl, ?_⟩, by intro _; rfl⟩ ?_
          rotate_left 1
          · (intro w; first | (go_simp; done) | (go_simp; with_reducible rfl))
          change wpAnyIn _ _ _ _ _ _ _ _ (Act.put _ (some 40) _) _
          refine wpAnyIn_take (i := 24) (v := ?_) rfl rfl (by kernel_rfl) (by kernel_rfl) (by kernel_rfl) (fun _ _ _ h => h) ⟨Or.inl ⟨by kernel_rfl, ?_⟩, by intro _; rfl⟩ ?_
          rotate_left 1
          · (intro w; first | (go_simp; done) | (go_simp; with_reducible rfl))
          change wpAnyIn _ _ _ _ _ _ _ _ (Act.put _ (some 16) _) _
          refine wpAnyIn_done (by kernel_rfl) ?_ _
          go_simp
          have HW8 := Lib.hid hw8
          have cr8 : w8.cell? ⟨w.heap.size + 2, 0, none⟩ = some (.bool false) := by rw [← hw8]; exact FI8.out.rb.cell
          have fr8 : w8.frozen? ⟨w.heap.size + 1 + 1, 0, none⟩ = false := by rw [← hw8]; exact FI8.out.rb.frozen
          have lr8 : w.heap.size + 2 < w8.heap.size := by rw [← hw8]; exact FI8.out.rb.lt
          clear hw8
          by_cases hkm : k = m
          · have HA8 := Lib.hid (ACC.out w8 (by rw [← HW8.out]; exact MV8.out) (by rw [← HW8.out]; exact FI8.out))
            have hacc := Lib.hid (fits_acc (whole := true) HNL.out hb (fun _ => by rw [hTm]; exact hkm))
            gi_wp2
            exact ⟨HA8.out.1, HA8.out.2.1, .inl ⟨rfl, HA8.out.2.2, hacc.out⟩⟩
          · have HN8 := Lib.hid (NEXT.out (by first | exact fun h => hkm ((h.2 rfl).trans hTm) | exact fun h => hkm ((h.2 trivial).trans hTm)) w8 (by rw [← HW8.out]; exact MV8.out) (by rw [← HW8.out]; exact FI8.out))
            have HM8 : Hid (Moves (fun k => ¬ X k ∧ ¬ DepP w1.heap.size b o lo xs l k) W1 w8) := by rw [← HW8.out]; exact MV8
            gi_wp2
            exact ⟨HM8.out, HN8.out⟩
  case done =>
    rintro X D W hD hXD ⟨hI, hs, hf⟩ hX hK
    have hfol : Tryz.prog.follows .mixedOrders = true := by kernel_rfl
    have hno : fitsG whole xs T = false := by
      refine fits_end ?_
      rw [List.length_range, ← HTL.out] at hf
      exact hf
    have cr := hI.rb.cell
    have fr : W.frozen? ⟨w.heap.size + 1 + 1, 0, none⟩ = false := hI.rb.frozen
    have lr := hI.rb.lt
    have i2 := hI.set false
    obtain ⟨e1, e2⟩ := i2.ends hz2 hD
    have hK2 := row_keep hK (Moves.setCell (S := fun k => k = w.heap.size + 2) (w := W) (a := ⟨w.heap.size + 1 + 1, 0, none⟩) (v := .bool false) rfl) (by omega)
    have HPP : Hid (P (.returned (.bool false)) ((W.setCell ⟨w.heap.size + 1 + 1, 0, none⟩ (.bool false)).putObj D (.deferred none))) := by
      rw [← HP.out]
      exact Lib.hid ⟨by rw [hno], e1⟩
    clear hno hI hf hX hK hz1 hz2 i2 e1
    gi_wp2
    rw [Exit.noGoto_ret]
    refine ⟨by simp, .inl ⟨_, _, rfl, run_takeDeferred hK2, ?_⟩⟩
    exact ⟨_, results_cellQ rfl _ _ _ _ _ rfl Tryz.underlying4 rfl e2, HPP.out⟩
  case stop =>
    rintro X D c pre W hD hXD hpre ⟨hs, (⟨rfl, hI, hf⟩ | ⟨rfl, hI, hf⟩)⟩ hX hK
    · have cr := hI.rb.cell
      obtain ⟨e1, e2⟩ := hI.ends hz2 hD
      have HPP : Hid (P (.returned (.bool true)) (W.putObj D (.deferred none))) := by
        rw [← HP.out]
        exact Lib.hid ⟨by rw [hf], e1⟩
      clear hI hf hX hz1 hz2 e1
      gi_wp2
      rw [Exit.noGoto_ret]
      refine ⟨by simp, .inl ⟨_, _, rfl, run_takeDeferred hK, ?_⟩⟩
      exact ⟨_, results_cellQ rfl _ _ _ _ _ rfl Tryz.underlying4 rfl e2, HPP.out⟩
    · have cr := hI.rb.cell
      have fr : W.frozen? ⟨w.heap.size + 1 + 1, 0, none⟩ = false := hI.rb.frozen
      have lr := hI.rb.lt
      have i2 := hI.set false
      obtain ⟨e1, e2⟩ := i2.ends hz2 hD
      have hK2 := row_keep hK (Moves.setCell (S := fun k => k = w.heap.size + 2) (w := W) (a := ⟨w.heap.size + 1 + 1, 0, none⟩) (v := .bool false) rfl) (by omega)
      have HPP : Hid (P (.returned (.bool false)) ((W.setCell ⟨w.heap.size + 1 + 1, 0, none⟩ (.bool false)).putObj D (.deferred none))) := by
        rw [← HP.out]
        exact Lib.hid ⟨by rw [hf], e1⟩
      clear hI hf hX hK hz1 hz2 i2 e1
      gi_wp2
      rw [Exit.noGoto_ret]
      refine ⟨by simp, .inl ⟨_, _, rfl, run_takeDeferred hK2, ?_⟩⟩
      exact ⟨_, results_cellQ rfl _ _ _ _ _ rfl Tryz.underlying4 rfl e2, HPP.out⟩
end Go.Proofs.YtgcapoejieolnaaGreatDoor
namespace Go.Proofs.YtgcapoejieolnaaGreatDoor
open Go.RowKit Go.Shelf Go.Maps
attribute [local go_sem] Oper.semAt_some

section
variable {P : Program} (w : World) (a : Addr) (m : Mode)
@[local go_sem] theorem run_store_mapQ (x : Option Nat) : (store a (.map x) m).run P w = stored P w a (.map x) m := run_store P w a _ m rfl
end
theorem moves_grownQ {a b : World} {row : Option Nat} (h : a.grownBy b row) : Moves (fun k => row = some k) a b := ⟨h.os, h.tape, h.output, h.size, fun k hk hr => h.block k hk (fun e => hr e.symm)⟩
abbrev newA (lv : Value) (back : Bool) (iv : Value) : Array Value := #[lv, .bool back, iv, .bool false, .bool false, .bool false, .bool false, .bool false, .bool false, .bool false, .bool false, .bool false, .bool false, .bool false, .bool false, .bool false, .bool false, .bool false, .bool false, .bool false, .bool false, .bool false, .bool false, .bool false, .bool false, .bool false, .bool false, .bool false, .bool false, .bool false, .bool false, .bool false, .bool false, .bool false, .bool false, .bool false, .bool false, .bool false, .bool false, .bool false, .bool false, .bool false, .bool false, .bool false, .bool false, .map none]
theorem newA_eq (lv : Value) (back : Bool) (iv : Value) : newA lv back iv = (matL lv back iv zeroF zeroF (.map none)).toArray := by kernel_rfl
theorem MatAt.setMap {w : World} {M : Nat} {lv iv mp : Value} {back : Bool} {A B : Fit} (h : MatAt w M lv back iv A B mp) (v : Value) : MatAt (w.setCell ⟨M, 45, none⟩ v) M lv back iv A B v := by
  unfold MatAt at h ⊢
  rw [heap_setCell_same _ _ 45 _ _ _ h]
  kernel_rfl
def OfQ (lv : Value) (back : Bool) (iv : Value) (w : World) (e : Ending) (w' : World) : Prop := ∃ M b, w.heap.size ≤ M ∧ w.heap.size ≤ b ∧ b ≠ M ∧ e = .returned (mV M) ∧ MatAt w' M lv back iv zeroF zeroF (.map (some b)) ∧ FitMap w' b M ∧ Below w.heap.size w w'
set_option maxRecDepth 100000 in
set_option maxHeartbeats 4000000 in
theorem matcherOf_any (lo : Option Addr) (ln lcap : Nat) (back : Bool) (o : Option Addr) (n cap : Nat) (w : World) :
    Calls Tryz.prog 91 #[.agg #[.slice lo ln lcap, .bool back], .slice o n cap] w (OfQ (.slice lo ln lcap) back (.slice o n cap) w) := by
  obtain ⟨lv, hlv⟩ : ∃ lv, Value.slice lo ln lcap = lv := ⟨_, rfl⟩
  have l1 : lv.oneCell' = true := by rw [← hlv]; rfl
  obtain ⟨iv, hiv⟩ : ∃ iv, Value.slice o n cap = iv := ⟨_, rfl⟩
  have i1 : iv.oneCell' = true := by rw [← hiv]; rfl
  have hmm := @run_makeMap Tryz.prog
  obtain ⟨Y, hY⟩ : ∃ Y, ((w.alloc (.cells #[.slice lo ln lcap, .bool back] 127)).alloc (.cells (newA (.slice lo ln lcap) back (.slice o n cap)) 134)) = Y := ⟨_, rfl⟩
  have bY : Below w.heap.size w Y := by rw [← hY]; exact ((Below.refl _ _).alloc (Nat.le_refl _) _).alloc (by simp) _
  have zY : Y.heap.size = w.heap.size + 2 := by rw [← hY]; simp
  have mY : MatAt Y (w.heap.size + 1) (.slice lo ln lcap) back (.slice o n cap) zeroF zeroF (.map none) := by
    unfold MatAt
    rw [← hY, ← newA_eq]
    have := heap_alloc_new (w.alloc (.cells #[.slice lo ln lcap, .bool back] 127)) (.cells (newA (.slice lo ln lcap) back (.slice o n cap)) 134)
    rwa [World.size_alloc] at this
  have o1 : (Y.alloc (.map #[] 0)).ownsMap Tryz.prog 3 heldQ Y.heap.size 0 (.map []) := World.ownsMap_made _ _ _ _
  obtain ⟨w2, r2, o2, g2⟩ := o1.update keyInt Tryz.underlying132 (by unfold maxLen; omega) (val := fnV 122 (w.heap.size + 1)) (keyOf_int_mk Tryz.underlying3 (wf3 (.inl rfl))) (show heldQ _ = _ from rfl)
  obtain ⟨w3, r3, o3, g3⟩ := o2.update keyInt Tryz.underlying132 (by unfold maxLen; omega) (val := fnV 123 (w.heap.size + 1)) (keyOf_int_mk Tryz.underlying3 (wf3 (.inr (.inl rfl)))) (show heldQ _ = _ from rfl)
  obtain ⟨w4, r4, o4, g4⟩ := o3.update keyInt Tryz.underlying132 (by unfold maxLen; omega) (val := fnV 124 (w.heap.size + 1)) (keyOf_int_mk Tryz.underlying3 (wf3 (.inr (.inr rfl)))) (show heldQ _ = _ from rfl)
  have b1 : Below Y.heap.size Y (Y.alloc (.map #[] 0)) := (Below.refl _ _).alloc (Nat.le_refl _) _
  have m4 : Moves (fun k => k = Y.heap.size) Y w4 := (Moves.of_below b1).trans (((moves_grownQ g2).mono fun k e => (Option.some.inj e).symm).trans (((moves_grownQ g3).mono fun k e => (Option.some.inj e).symm).trans ((moves_grownQ g4).mono fun k e => (Option.some.inj e).symm)))
  have M4 := mY.keep m4 (by omega)
  have c4 := M4.head.2.2.2
  have f4 := M4.frozen 45
  have lM := M4.lt
  have s4 := m4.size
  have M5 := M4.setMap (.map (some Y.heap.size))
  have ms : Moves (fun k => k = w.heap.size + 1) w4 (w4.setCell ⟨w.heap.size + 1, 45, none⟩ (.map (some Y.heap.size))) := Moves.setCell rfl
  have F4 : FitMap w4 Y.heap.size (w.heap.size + 1) := o4
  have F5 := F4.moves ms (by omega)
  have HQ : Hid (OfQ (.slice lo ln lcap) back (.slice o n cap) w (.returned (mV (w.heap.size + 1))) (w4.setCell ⟨w.heap.size + 1, 45, none⟩ (.map (some Y.heap.size)))) := Lib.hid ⟨w.heap.size + 1, Y.heap.size, by omega, by omega, by omega, rfl, M5, F5, Moves.below (Moves.below bY bY.size m4 (fun k e => by omega)) (by omega) ms (fun k e => by omega)⟩
  rw [zY] at r2 r3 r4 HQ
  have HY := Lib.hid hY
  rw [← hY] at r2
  clear hlv hiv l1 i1 lv iv mY o1 o2 o3 o4 g2 g3 g4 b1 m4 M4 M5 ms F4 F5 bY zY hY s4
  go_enter Tryz.func91, Tryz.ntmps91
  go_wp2
  go_ret
  exact HQ.out
end Go.Proofs.YtgcapoejieolnaaGreatDoor
