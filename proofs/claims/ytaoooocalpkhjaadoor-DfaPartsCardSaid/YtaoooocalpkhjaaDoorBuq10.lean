/- Shaken by bunq.py. -/
import Derived.Test.YtaoooocalpkhjaaDoorBuq9
namespace Go.Proofs.YtaoooocalpkhjaaDoor
open Go.RowKit Go.Shelf Go.Maps
attribute [local go_sem] Oper.semAt_some
attribute [local go_sem ↓] app_hide cop_hideD ld_hideD st_hideD lk_hideD mu_hideD bs_hideD

set_option maxRecDepth 100000 in
set_option maxHeartbeats 8000000 in
theorem build_any (w0 : World) (G M N : Nat) (o : Option Addr) (l : List RulX) (cap : Nat) (nx : Value) (b0 : BldS) (Y0 : Nat → Prop) (w : World) (aP aS : Addr) (hQ : GlobH w0 aP aS) (hR : RulesD w0 o l) (hN : N ≤ 32) (hI : BldI w0 G M N (.slice o l.length cap) nx b0 Y0 w) (hA : b0.A = [firstD (l.map leftX)]) (hf : b0.fl = []) (hw : b0.wl = []) :
    Calls Tryd.prog 57 #[.pointer (some ⟨G, 0, none⟩)] w (BuildR w0 w (l.map leftX) G M N (.slice o l.length cap) nx Y0) := by
  refine (callsIn_wide (n := 6)).1 ?_
  have h1 : 1 ≤ 6 := by omega
  refine callsIn_of_wp_marks Tryd.func57 rfl trivial ?_ rfl
  simp only [Tryd.ntmps57, List.size_toArray, List.length_cons, List.length_nil, Nat.reduceAdd, Nat.reduceSub, Array.replicate_succ, Array.replicate_zero, List.push_toArray, List.append_toArray, List.nil_append, List.cons_append]
  obtain ⟨R, hRR⟩ : ∃ R, l.map leftX = R := ⟨_, rfl⟩
  obtain ⟨P, hP⟩ : ∃ P, BuildR w0 w (l.map leftX) G M N (.slice o l.length cap) nx Y0 = P := ⟨_, rfl⟩
  have HP := Lib.hid hP
  rw [hP]
  have hz0 := hI.bel.size
  obtain ⟨lG, lM, _⟩ := hI.lts
  have hRt : rightsL l := hR.right
  have hl40 := hR.len
  obtain ⟨w1, hw1⟩ : ∃ w1, w.alloc (.cells #[.pointer (some ⟨G, 0, none⟩)] 122) = w1 := ⟨_, rfl⟩
  have b1 : Below w.heap.size w w1 := by rw [← hw1]; exact (Below.refl _ _).alloc (Nat.le_refl _) _
  have z1 : w1.heap.size = w.heap.size + 1 := by rw [← hw1]; simp
  have f1 : Boxed w1 w.heap.size 122 (.pointer (some ⟨G, 0, none⟩)) := by rw [← hw1]; exact Boxed.new _ _ _
  obtain ⟨w2, hw2⟩ : ∃ w2, w1.alloc (.cells #[.pointer (some ⟨G, 4, none⟩)] 159) = w2 := ⟨_, rfl⟩
  have b2 : Below w1.heap.size w1 w2 := by rw [← hw2]; exact (Below.refl _ _).alloc (Nat.le_refl _) _
  have z2 : w2.heap.size = w.heap.size + 2 := by rw [← hw2]; simp; omega
  have e2 : w2.heap[w.heap.size + 1]? = some (.cells #[.pointer (some ⟨G, 4, none⟩)] 159 (0, 0)) := by rw [← hw2, ← z1]; exact heap_alloc_new _ _
  have b12 := b1.trans (b2.mono b1.size)
  have HQ2 : Hid (BldP w0 w (l.map leftX) G M N (.slice o l.length cap) nx Y0 w.heap.size (w.heap.size + 1) (fun _ => False) [] b0 w2) := Lib.hid (by
    have hI2 : BldI w0 G M N (.slice o l.length cap) nx b0 (fun k => Y0 k ∨ k = w.heap.size ∨ k = w.heap.size + 1 ∨ False) w2 := hI.moves (Moves.of_below (S := fun _ => False) b12) (fun _ h => h.elim) (fun k hk => by
      rcases hk with hk | hk | hk | hk
      · exact ⟨.inl hk, by have := hI.ltY k hk; omega⟩
      · exact ⟨.inr (by omega), by omega⟩
      · exact ⟨.inr (by omega), by omega⟩
      · exact hk.elim)
    refine ⟨⟨hI2, row_below f1 b2, e2, ⟨id, id⟩, fun _ h => h.elim, ⟨hI.ltY, Nat.le_refl _, by omega⟩, Moves.of_below b12⟩, ?_, ?_, ?_, ?_, ?_, ?_⟩
    · rw [hA]; simp [runD]
    · rw [hw]; simp [runD]
    · rw [hf]; rfl
    · rw [hA]; simp
    · exact Nat.zero_le _
    · exact List.nil_prefix)
  have hall : (finD (l.map leftX) N).1.length ≤ 100000 := by
    have := run_len_le (l.map leftX) N (300 * (N + 1))
    have h2 : 300 * (N + 1) ≤ 300 * 33 := Nat.mul_le_mul_left _ (by omega)
    show (runD (l.map leftX) N (300 * (N + 1))).1.length ≤ _
    omega
  have HSQ := Lib.hid (seqV_enc (encs' := fun S : List Nat => #[setsV (cutD S)]) (seqStatesD (cb := w.heap.size + 1) (G := G) (all := (finD (l.map leftX) N).1) hall e2) (fun x hx => by
    rw [cutD_is]
    rw [(know_run hRt N _ x hx).1]
    exact hl40))
  have HEA := Lib.hid (eachD_any G w1)
  have HQW := Lib.hid hQ
  have HRW := Lib.hid hR
  have HW1 := Lib.hid hw1
  have HW2 := Lib.hid hw2
  have HZ2 := Lib.hid z2
  have HN := Lib.hid hN
  have c0 := f1.cell
  have lz1 : w.heap.size < w1.heap.size := by omega
  clear hP hw1 b1 z1 f1 hw2 b2 z2 e2 b12 hI hA hf hw hQ hR hz0 lG lM hall hRt hl40 hRR
  gi_wp2_with fail
  refine wpIn_wide.2 (wp_scope_straight ((wpIn_wide (n := 6)).1 ?_))
  gi_wp2_with fail
  rw [HW1.out]
  refine wpIn_label ?_
  gi_wp2_with fail
  refine ⟨trivial, (callsIn_wide.2 HEA.out).mono ?_⟩
  rintro e w5' ⟨rfl, hw5'⟩
  rw [HW2.out] at hw5'
  subst hw5'
  clear c0
  gi_wp2_with fail
  have hz2 := HZ2.out
  have hW1 : w1.heap.size = w.heap.size + 1 := by rw [← HW1.out]; simp
  have HR1 := Lib.hid hW1
  refine wpIn_seqV (n := 6) (Ow := fun _ => False) (Dep := fun k => k = w.heap.size + 1) (encs := fun S : List Nat => #[setsV (cutD S)]) (all := (finD (l.map leftX) N).1) (by omega) (by rw [hW1]; rfl) (enters_of Tryd.func95 (by kernel_rfl) rfl) (fun x => rfl) HSQ.out
    (fun k h => h.elim) (fun k h => by omega)
    (fun X pre W => ∃ b, BldP w0 w (l.map leftX) G M N (.slice o l.length cap) nx Y0 w.heap.size (w.heap.size + 1) X pre b W) (fun X xs A ⟨b, hb⟩ => hb.view HRW.out.right HRW.out.len)
    (fun c X pre W => c = .exit 0 ∧ BldX w0 w (l.map leftX) G M N (.slice o l.length cap) nx Y0 w.heap.size (w.heap.size + 1) X W) ?hI ?hIx ⟨_, HQ2.out⟩
    (fun k x => { tmps := #[.pointer (some ⟨G, 0, none⟩), .pointer (some ⟨w.heap.size, 0, none⟩), .bool false, .pointer (some ⟨k, 0, none⟩), undef, undef, .pointer (some ⟨G, 0, none⟩), .pointer (some ⟨G, 0, none⟩), .pointer (some ⟨G, 4, none⟩), .func (.func 95) #[] #[.pointer (some ⟨w1.heap.size, 0, none⟩)], setsV (cutD x), undef, undef, undef, undef, undef, undef, undef, undef, undef, undef, undef, undef, undef, undef, undef, undef, undef, undef, undef, undef, undef, undef, undef, undef, undef, undef, undef, undef, undef, undef, undef, undef, undef, undef, undef, undef, undef, undef, undef, undef, undef, undef, undef, undef, undef, undef, undef], defers := [] })
    (fun A x B => B.heap[A.heap.size]? = some (setsO (cutD x)) ∧ Moves (fun _ => False) A B) (fun A x B h => h.2) ?assign ?body ?done ?stop
  case hI =>
    rintro X X' ys A B ⟨b, h⟩ hm hX
    exact ⟨b, h.q.moves hm hX, h.a, h.w, h.f, h.le, h.ge, h.px⟩
  case hIx =>
    rintro c X X' ys A B ⟨rfl, b, h, h2, h3⟩ hm hX
    exact ⟨rfl, b, h.moves hm hX, h2, h3⟩
  case assign =>
    rintro lp x A K hK
    have rA : (A.alloc (setsO (padD []))).heap[A.heap.size]? = some (setsO (padD [])) := heap_alloc_new _ _
    obtain ⟨wa, hst, r4, m4⟩ := store_setsD (c := cutD x) (cutD_len x) (padD_len (S := []) (by simp)) rA
    have hG : wa.heap[A.heap.size]? = some (setsO (cutD x)) ∧ Moves (fun _ => False) A wa := by
      have a0 : Below A.heap.size A (A.alloc (setsO (padD []))) := (Below.refl _ _).alloc (Nat.le_refl _) _
      have bb := Moves.below a0 a0.size m4 (fun k hk => by omega)
      exact ⟨r4, Moves.of_below bb⟩
    have HG := Lib.hid hG
    rw [← zerosOD] at hst
    clear rA r4 m4 hG hz2 hW1
    gi_wp2_with fail
    first | exact hK _ HG.out | exact HG.out
  case body =>
    rintro lp X pre x Aw A' W1 hA1 hpx ⟨rA, mA⟩ hm hXn hXn1 hXlt ⟨b0', hI⟩ _
    have hm1 : Moves X Aw W1 := (mA.mono fun k h => h.elim).trans (hm.mono fun k hk => by rw [hk]; exact hXn1)
    have hz1 := hm1.size
    obtain ⟨ab, hab⟩ : ∃ ab, Aw.heap.size = ab := ⟨_, rfl⟩
    rw [hab] at rA hA1 hXlt
    have lA := (Array.getElem?_eq_some_iff.1 rA).1
    have hxT : x ∈ (finD (l.map leftX) N).1 := hpx.subset (List.mem_append_right _ (List.mem_singleton.2 rfl))
    have hkx := know_run HRW.out.right N _ x hxT
    have hx40 : x.length ≤ 40 := by rw [hkx.1]; exact HRW.out.len
    have hp40 := padD_len hx40
    rw [cutD_is hx40] at rA
    have rW : W1.heap[ab]? = some (setsO (padD x)) := row_keep rA hm (by omega)
    have lW := (Array.getElem?_eq_some_iff.1 rW).1
    obtain ⟨i, hi⟩ : ∃ i, pre.length = i := ⟨_, rfl⟩
    have hIle := hI.le
    have hIge := hI.ge
    have hIa := hI.a
    have hIw := hI.w
    rw [hi] at hIge hIa hIw
    obtain ⟨hat, hiA⟩ := view_at hpx hi (by omega) (by rw [← hIa]; exact hIge)
    have Q1 : BldQ w0 w G M N (.slice o l.length cap) nx Y0 w.heap.size (w.heap.size + 1) b0' (fun k => X k ∨ k = ab) W1 := hI.q.moves hm1 (fun k hk => by
      rcases hk with hk | hk
      · exact ⟨.inl hk, by have := hXlt k hk; omega⟩
      · exact ⟨.inr (by omega), by omega⟩)
    obtain ⟨W2, hW2⟩ : ∃ W2, W1.alloc (.cells #[.pointer (some ⟨G, 0, none⟩)] 122) = W2 := ⟨_, rfl⟩
    have bb2 : Below W1.heap.size W1 W2 := by rw [← hW2]; exact (Below.refl _ _).alloc (Nat.le_refl _) _
    have zz2 : W2.heap.size = W1.heap.size + 1 := by rw [← hW2]; simp
    have rc2 : W2.heap[W1.heap.size]? = some (.cells #[.pointer (some ⟨G, 0, none⟩)] 122 (0, 0)) := by rw [← hW2]; exact heap_alloc_new _ _
    obtain ⟨W4, hW4⟩ : ∃ W4, W2.alloc (setsO (padD x)) = W4 := ⟨_, rfl⟩
    have bb4 : Below W2.heap.size W2 W4 := by rw [← hW4]; exact (Below.refl _ _).alloc (Nat.le_refl _) _
    have zz4 : W4.heap.size = W1.heap.size + 2 := by rw [← hW4]; simp; omega
    have rd4 : W4.heap[W1.heap.size + 1]? = some (setsO (padD x)) := by rw [← hW4, ← zz2]; exact heap_alloc_new _ _
    have rc4 := row_below rc2 bb4
    have b14 := bb2.trans (bb4.mono bb2.size)
    have ra4 := row_below rW b14
    obtain ⟨X3, hX3⟩ : ∃ X3 : Nat → Prop, X3 = fun k => X k ∨ k = ab ∨ k = W1.heap.size ∨ k = W1.heap.size + 1 := ⟨_, rfl⟩
    have n3 : X3 ab ∧ X3 W1.heap.size ∧ X3 (W1.heap.size + 1) ∧ ∀ k, X k → X3 k := by
      rw [hX3]
      exact ⟨.inr (.inl rfl), .inr (.inr (.inl rfl)), .inr (.inr (.inr rfl)), fun k hk => .inl hk⟩
    have Q4 : BldQ w0 w G M N (.slice o l.length cap) nx Y0 w.heap.size (w.heap.size + 1) b0' X3 W4 := Q1.moves (Moves.of_below b14) (fun k hk => by
      rw [hX3] at hk
      rcases hk with hk | hk | hk | hk
      · exact ⟨.inl (.inl hk), by have := hXlt k hk; omega⟩
      · exact ⟨.inl (.inr hk), by omega⟩
      · exact ⟨.inr (by omega), by omega⟩
      · exact ⟨.inr (by omega), by omega⟩)
    obtain ⟨q0, hq0⟩ : ∃ q0, i * (N + 1) = q0 := ⟨_, rfl⟩
    have hi300 : i < 300 := by
      have := hIle
      rw [hIa] at this
      omega
    have hq99 : q0 + (N + 1) ≤ 300 * (N + 1) := by
      have : (i + 1) * (N + 1) ≤ 300 * (N + 1) := Nat.mul_le_mul_right _ (by omega)
      rw [Nat.succ_mul, hq0] at this
      exact this
    have hq9 : q0 + (N + 1) ≤ 9900 := by have := HN.out; omega
    rw [hq0] at hIa hIw hat
    have L0 : BldL w0 w W4 (l.map leftX) G M N (.slice o l.length cap) nx Y0 w.heap.size (w.heap.size + 1) X3 (pre.map (doneD (l.map leftX))) q0 b0' W4 := ⟨Q4, hIa, hIw, hI.f, Moves.refl _ _⟩
    have HX3 := Lib.hid n3
    have HL0 : Hid (BldL w0 w W4 (l.map leftX) G M N (.slice o l.length cap) nx Y0 w.heap.size (w.heap.size + 1) X3 (pre.map (doneD (l.map leftX))) q0 b0' W4 ∧ (runD (l.map leftX) N q0).1.length ≤ 300) := Lib.hid ⟨L0, by rw [← hIa]; exact hIle⟩
    have HMV : Hid (∀ w7, Moves (fun k => ¬ (Y0 k ∨ k = w.heap.size ∨ k = w.heap.size + 1 ∨ X3 k)) W4 w7 → Moves (fun k => ¬ X k ∧ ¬ k = w.heap.size + 1) W1 w7) := Lib.hid fun w7 h7 => (Moves.of_below b14).trans (h7.mono fun k hk => ⟨fun hx => hk (.inr (.inr (.inr (n3.2.2.2 k hx)))), fun he => hk (.inr (.inr (.inl he)))⟩)
    have HXQ : Hid (∀ b7 w7, BldQ w0 w G M N (.slice o l.length cap) nx Y0 w.heap.size (w.heap.size + 1) b7 X3 w7 → BldQ w0 w G M N (.slice o l.length cap) nx Y0 w.heap.size (w.heap.size + 1) b7 X w7) := Lib.hid fun b7 w7 h7 => h7.moves (Moves.refl _ _) (fun k hk => ⟨.inl (n3.2.2.2 k hk), h7.bi.ltY k (.inr (.inr (.inr (n3.2.2.2 k hk))))⟩)
    have HSTOP : Hid (∀ (c : Nat) b7 w7, c < N + 1 → BldL w0 w W4 (l.map leftX) G M N (.slice o l.length cap) nx Y0 w.heap.size (w.heap.size + 1) X3 (pre.map (doneD (l.map leftX))) (q0 + c + 1) b7 w7 → 300 < b7.A.length → Moves (fun k => ¬ X k ∧ ¬ k = w.heap.size + 1) W1 w7 ∧ BldX w0 w (l.map leftX) G M N (.slice o l.length cap) nx Y0 w.heap.size (w.heap.size + 1) X w7) := Lib.hid fun c b7 w7 hc h7 hov => ⟨HMV.out w7 h7.mv, b7, HXQ.out b7 w7 h7.bq, hov, by
      rw [h7.a] at hov
      have := run_len (l.map leftX) N (show q0 + c + 1 ≤ 300 * (N + 1) by omega)
      show 300 < (runD (l.map leftX) N (300 * (N + 1))).1.length
      omega⟩
    have HGO : Hid (∀ (c : Nat) b7 w7, BldL w0 w W4 (l.map leftX) G M N (.slice o l.length cap) nx Y0 w.heap.size (w.heap.size + 1) X3 (pre.map (doneD (l.map leftX))) (q0 + c + 1) b7 w7 → ¬ 300 < b7.A.length → BldL w0 w W4 (l.map leftX) G M N (.slice o l.length cap) nx Y0 w.heap.size (w.heap.size + 1) X3 (pre.map (doneD (l.map leftX))) (q0 + (c + 1)) b7 w7 ∧ (runD (l.map leftX) N (q0 + (c + 1))).1.length ≤ 300) := Lib.hid fun c b7 w7 h7 hov => ⟨h7, by
      have ha := h7.a
      rw [show q0 + (c + 1) = q0 + c + 1 by omega, ← ha]
      omega⟩
    have HNEXT : Hid (∀ b7 w7, (runD (l.map leftX) N (q0 + (N + 1))).1.length ≤ 300 → BldL w0 w W4 (l.map leftX) G M N (.slice o l.length cap) nx Y0 w.heap.size (w.heap.size + 1) X3 (pre.map (doneD (l.map leftX)) ++ [doneD (l.map leftX) x]) (q0 + (N + 1)) b7 w7 → Moves (fun k => ¬ X k ∧ ¬ k = w.heap.size + 1) W1 w7 ∧ ∃ b, BldP w0 w (l.map leftX) G M N (.slice o l.length cap) nx Y0 w.heap.size (w.heap.size + 1) X (pre ++ [x]) b w7) := Lib.hid fun b7 w7 hle h7 => ⟨HMV.out w7 h7.mv, b7, by
      have hln : (pre ++ [x]).length * (N + 1) = q0 + (N + 1) := by rw [List.length_append, List.length_singleton, hi, Nat.succ_mul, hq0]
      have ha := h7.a
      have hmono := run_len (l.map leftX) N (show q0 ≤ q0 + (N + 1) by omega)
      refine ⟨HXQ.out b7 w7 h7.bq, by rw [hln]; exact ha, by rw [hln]; exact h7.w, ?_, by rw [ha]; exact hle, ?_, hpx⟩
      · rw [h7.f, List.map_append]; rfl
      · rw [List.length_append, List.length_singleton, hi, ha]
        rw [hq0] at hiA
        omega⟩
    have hSx : ∀ c : Nat, c < N + 1 → (runD (l.map leftX) N (q0 + c)).1[(q0 + c) / (N + 1)]? = some x ∧ (q0 + c) % (N + 1) = c := fun c hc => by
      obtain ⟨d1, d2⟩ := place_div (n := N) (i := i) (c := c) (by omega)
      rw [hq0] at d1 d2
      rw [d1]
      exact ⟨prefix_get (run_prefix (l.map leftX) N (by omega)) hat, d2⟩
    have HSX := Lib.hid hSx
    have HST := Lib.hid (steps_anyD G x W1)
    have HW4 : Hid ((W1.alloc (.cells #[.pointer (some ⟨G, 0, none⟩)] 122)).alloc (setsO (padD x)) = W4) := Lib.hid (by rw [hW2, hW4])
    have HROW : Hid (W4.heap[ab]? = some (setsO (padD x)) ∧ W4.heap[W1.heap.size]? = some (.cells #[.pointer (some ⟨G, 0, none⟩)] 122 (0, 0)) ∧ W4.heap[W1.heap.size + 1]? = some (setsO (padD x))) := Lib.hid ⟨ra4, rc4, rd4⟩
    have hld : (ldD ⟨ab, 0, none⟩).run Tryd.prog W1 = .ok (setsV (padD x)) W1 := run_ldD hp40 rW
    have bx1 := Q1.box.cell
    have lgb := World.block_lt_of_cell? W1 _ bx1
    have HKX := Lib.hid hkx
    have HP40 := Lib.hid hp40
    have HPL : Hid (pre.length ≤ 300) := Lib.hid (by omega)
    have HQ9 := Lib.hid hq9
    have bx4 := Q4.box.cell
    have g34 := (bldD_cells Q4.bi.rowG).2.2.2.1
    have lgb4 := World.block_lt_of_cell? W4 _ bx4
    have lG4 := World.block_lt_of_cell? W4 _ g34
    have hn1 : wrap64 (((N : Nat) : Int) + 1) = ((N : Nat) : Int) + 1 := by have := HN.out; unfold wrap64; omega
    have hfol : Tryd.prog.follows .mixedOrders = true := by kernel_rfl
    rw [hab, cutD_is hx40]
    clear rA mA hm hXn hXn1 hXlt hI hm1 hz1 hab lA hxT hkx hx40 hp40 rW hi hIle hIge hIa hIw hat hiA Q1 hW2 bb2 zz2 rc2 hW4 bb4 zz4 rd4 rc4 b14 ra4 hX3 n3 Q4 hq0 hi300 hq99 hq9 L0 hSx hpx hA1 hz2 hW1 HSQ HQ2
    gi_wp2_with fail
    refine ⟨trivial, CallsIn.inRound lp ((callsIn_wide.2 HST.out).mono ?_)⟩
    rintro e W5 ⟨rfl, hW5⟩
    rw [HW4.out] at hW5
    subst hW5
    clear hld bx1 lgb
    gi_wp2_with fail
    clear bx4 g34
    gi_loopg [19] (N + 1) (fun k v wr => ∃ (c : Nat) (b : BldS), v = .int .i64 (c : Nat) ∧ c ≤ N + 1 ∧ k = N + 1 - c ∧ Hid (BldL w0 w W4 (l.map leftX) G M N (.slice o l.length cap) nx Y0 w.heap.size (w.heap.size + 1) X3 (pre.map (doneD (l.map leftX))) (q0 + c) b wr ∧ (runD (l.map leftX) N (q0 + c)).1.length ≤ 300))
    case atStart => exact ⟨0, b0', rfl, Nat.zero_le _, rfl, HL0⟩
    case round =>
      obtain ⟨c, b, rfl, hc, rfl, HL⟩ := hrel
      have hL := HL.out.1
      have hmv := hL.mv
      have ra := row_keep HROW.out.1 hmv (fun hn => hn (.inr (.inr (.inr HX3.out.1))))
      have rc := row_keep HROW.out.2.1 hmv (fun hn => hn (.inr (.inr (.inr HX3.out.2.1))))
      have rd := row_keep HROW.out.2.2 hmv (fun hn => hn (.inr (.inr (.inr HX3.out.2.2.1))))
      have bx := hL.bq.box.cell
      have gc := bldD_cells hL.bq.bi.rowG
      have lgbr := World.block_lt_of_cell? wr _ bx
      have hbel := hL.bq.bi.bel
      rcases Nat.lt_or_ge c (N + 1) with hlt | hge
      · have d1 : decide (((c : Nat) : Int) < ((N : Nat) : Int) + 1) = true := decide_eq_true (by omega)
        obtain ⟨s1, s2⟩ := HSX.out c hlt
        have hqc : q0 + c ≤ 99999 := by have := HQ9.out; omega
        have hwy := gc.2.2.2.2.2.2
        obtain ⟨V, hV⟩ : ∃ V, setsV (padD (stepD (l.map leftX) x ((c : Nat) : Int))) = V := ⟨_, rfl⟩
        obtain ⟨wy, hwy2⟩ : ∃ wy, b.wv = wy := ⟨_, rfl⟩
        rw [hwy2] at hwy
        have lGr := World.block_lt_of_cell? wr _ hwy
        obtain ⟨n1, hn1'⟩ : ∃ n1, b.wl.length = n1 := ⟨_, rfl⟩
        have CON : Hid (Calls Tryd.prog 96 #[.int .i64 ((c : Nat) : Int), .pointer (some ⟨W1.heap.size, 0, none⟩), .pointer (some ⟨W1.heap.size + 1, 0, none⟩)] wr.drew fun e W2 => e = .returned V ∧ Hid (W2.cell? ⟨w.heap.size, 0, none⟩ = some (.pointer (some ⟨G, 0, none⟩))) ∧ W2.cell? ⟨G, 6, none⟩ = some wy ∧ G < W2.heap.size ∧ Hid (Calls Tryd.prog 77 #[.pointer (some ⟨G, 4, none⟩), V] W2 fun e W3 => ∃ i2, e = .returned (.int .i64 ((i2 : Nat) : Int)) ∧ Hid (W3.cell? ⟨w.heap.size, 0, none⟩ = some (.pointer (some ⟨G, 0, none⟩))) ∧ W3.cell? ⟨G, 6, none⟩ = some wy ∧ G < W3.heap.size ∧
            ∃ g cp w6, (appSem #[26, 26] 26 #[wy, .slice (some ⟨W3.heap.size, 0, none⟩) 1 1]).run Tryd.prog (W3.alloc (.cells #[.int .i64 ((i2 : Nat) : Int)] 3)) = .ok (.slice (some ⟨g, 0, none⟩) (n1 + 1) cp) w6 ∧ Hid ((W3.alloc (.cells #[.int .i64 ((i2 : Nat) : Int)] 3)).cell? ⟨w.heap.size, 0, none⟩ = some (.pointer (some ⟨G, 0, none⟩))) ∧ Hid (w6.cell? ⟨w.heap.size, 0, none⟩ = some (.pointer (some ⟨G, 0, none⟩))) ∧ w6.cell? ⟨G, 6, none⟩ = some wy ∧ w6.frozen? ⟨G, 6, none⟩ = false ∧ G < w6.heap.size ∧
            ∃ w7, w6.setCell ⟨G, 6, none⟩ (.slice (some ⟨g, 0, none⟩) (n1 + 1) cp) = w7 ∧ Hid (w7.cell? ⟨w.heap.size, 0, none⟩ = some (.pointer (some ⟨G, 0, none⟩))) ∧ Hid (∃ b7, BldL w0 w W4 (l.map leftX) G M N (.slice o l.length cap) nx Y0 w.heap.size (w.heap.size + 1) X3 (pre.map (doneD (l.map leftX))) (q0 + c + 1) b7 w7))) := Lib.hid (by
          have hs := steps1_any G W1.heap.size (W1.heap.size + 1) o l cap x ((c : Nat) : Int) wr.drew aP aS (HQW.out.below hbel.drew) (HRW.out.below hbel.drew) HKX.out rc rd gc.2.2.1
          rw [hV] at hs
          refine hs.mono ?_
          rintro e W2 ⟨rfl, b2⟩
          have hL2 := hL.below (show Below wr.heap.size wr W2 from ((Below.refl wr.heap.size wr).drew).trans b2)
          have g6 := (bldD_cells hL2.bq.bi.rowG).2.2.2.2.2.2
          rw [hwy2] at g6
          refine ⟨rfl, Lib.hid hL2.bq.box.cell, g6, World.block_lt_of_cell? W2 _ g6, Lib.hid ?_⟩
          have hn := hL2.way HRW.out.right HRW.out.len hqc s1
          rw [s2, hV, hwy2, hn1'] at hn
          refine hn.mono ?_
          rintro e W3 ⟨i2, rfl, k1, k2, k3, k4, g, cp, w6, k5, k6, k7, k8, k9, w7, k10, b7, k11⟩
          have ba : Below W3.heap.size W3 (W3.alloc (.cells #[.int .i64 ((i2 : Nat) : Int)] 3)) := (Below.refl _ _).alloc (Nat.le_refl _) _
          exact ⟨i2, rfl, Lib.hid k1.cell, k2, k3, g, cp, w6, k5, Lib.hid (cell_keepQ ba k1.cell), Lib.hid k6.cell, k7, k8, k9, w7, k10, Lib.hid k11.bq.box.cell, Lib.hid ⟨b7, k11⟩⟩)
        have hcm : c < 1000000 := by omega
        clear hL hmv ra rc rd gc hbel s1 s2 hqc hV hwy2 hn1' HL
        gi_wp2_with fail
        refine wpIn_region_heldQ lp (fun W => W.cell? ⟨w.heap.size, 0, none⟩ = some (.pointer (some ⟨G, 0, none⟩))) (fun ⟨_, _, h⟩ => h) rfl hfol bx (fun hHeld => ?_)
        refine wpT (i := 0) (v := ?_) rfl (Or.inl ⟨by rfl, ?_⟩) hHeld ?_
        rotate_left 1
        · (intro w' hSw; (try dsimp only at hSw); first | (go_simp; done) | (go_simp; with_reducible rfl))
        change wpAnyH _ _ _ _ _ _ _ (Act.put _ (some 22) _) _
        simp only [Act.put, lsA, lsB, lsC]
        refine wpT (i := 1) (v := ?_) rfl (Or.inl ⟨by rfl, ?_⟩) hHeld ?_
        rotate_left 1
        · (intro w' hSw; (try dsimp only at hSw); first | (go_simp; done) | (go_simp; with_reducible rfl))
        change wpAnyH _ _ _ _ _ _ _ (Act.put _ (some 23) _) _
        simp only [Act.put, lsA, lsB, lsC]
        refine wpT (i := 2) (v := ?_) rfl (Or.inl ⟨by rfl, ?_⟩) hHeld ?_
        rotate_left 1
        · (intro w' hSw; (try dsimp only at hSw); first | (go_simp; done) | (go_simp; with_reducible rfl))
        change wpAnyH _ _ _ _ _ _ _ (Act.put _ (some 24) _) _
        simp only [Act.put, lsA, lsB, lsC]
        refine wpT (i := 3) (v := ?_) rfl (Or.inl ⟨by rfl, ?_⟩) hHeld ?_
        rotate_left 1
        · (intro w' hSw; (try dsimp only at hSw); first | (go_simp; done) | (go_simp; with_reducible rfl))
        change wpAnyH _ _ _ _ _ _ _ (Act.put _ (some 25) _) _
        simp only [Act.put, lsA, lsB, lsC]
        refine wpT (i := 5) (v := ?_) rfl (Or.inl ⟨by rfl, ?_⟩) hHeld ?_
        rotate_left 1
        · (intro w' hSw; (try dsimp only at hSw); first | (go_simp; done) | (go_simp; with_reducible rfl))
        change wpAnyH _ _ _ _ _ _ _ (Act.put _ (some 27) _) _
        simp only [Act.put, lsA, lsB, lsC]
        refine wpT (i := 6) (v := ?_) rfl (Or.inl ⟨by rfl, ?_⟩) hHeld ?_
        rotate_left 1
        · (intro w' hSw; (try dsimp only at hSw); first | (go_simp; done) | (go_simp; with_reducible rfl))
        change wpAnyH _ _ _ _ _ _ _ (Act.put _ (some 28) _) _
        simp only [Act.put, lsA, lsB, lsC]
        refine wpT (i := 7) (v := ?_) rfl (Or.inl ⟨by rfl, ?_⟩) hHeld ?_
        rotate_left 1
        · (intro w' hSw; (try dsimp only at hSw); first | (go_simp; done) | (go_simp; with_reducible rfl))
        change wpAnyH _ _ _ _ _ _ _ (Act.put _ (some 29) _) _
        simp only [Act.put, lsA, lsB, lsC]
        refine wpT (i := 8) (v := ?_) rfl (Or.inl ⟨by rfl, ?_⟩) hHeld ?_
        rotate_left 1
        · (intro w' hSw; (try dsimp only at hSw); first | (go_simp; done) | (go_simp; with_reducible rfl))
        change wpAnyH _ _ _ _ _ _ _ (Act.put _ (some 30) _) _
        simp only [Act.put, lsA, lsB, lsC]
        refine wpT (i := 9) (v := ?_) rfl (Or.inl ⟨by rfl, ?_⟩) hHeld ?_
        rotate_left 1
        · (intro w' hSw; (try dsimp only at hSw); first | (go_simp; done) | (go_simp; with_reducible rfl))
        change wpAnyH _ _ _ _ _ _ _ (Act.put _ (some 31) _) _
        simp only [Act.put, lsA, lsB, lsC]
        refine wpAnyH_ready (rs := [4, 10]) (by kernel_rfl) (by simp) ?_
        refine AllReadyH.cons rfl (fun K hK => ?_) ?_
        focus
          go_simp
          refine hK.out _ _ hHeld (fun hHeld => ?_)
          clear hK K
          try simp only [Act.put, lsA, lsB, lsC]
          refine wpAnyH_ready (rs := [10]) (by kernel_rfl) (by simp) ?_
          refine AllReadyH.cons rfl (fun K hK => ?_) AllReadyH.nil
          go_simp
          refine CON.out.mono ?_
          rintro e W2 ⟨rfl, HS2, h62, hl2, CON2⟩
          go_wp2_with fail
          refine hK.out _ _ HS2.out (fun hHeld => ?_)
          clear hK K
          try simp only [Act.put, lsA, lsB, lsC]
          refine wpAnyH_ready (rs := [11]) (by kernel_rfl) (by simp) ?_
          refine AllReadyH.cons rfl (fun K hK => ?_) AllReadyH.nil
          go_simp
          refine CON2.out.mono ?_
          rintro e W3 ⟨i2, rfl, HS3, h63, hl3, g, cp, w6, hrun, HSA, HS6, k6, f6, l6, w7, HW7E, HS7, HFIN⟩
          replace HW7E := Lib.hid HW7E
          go_wp2_with fail
          refine hK.out _ _ HS3.out (fun hHeld => ?_)
          clear hK K
          try simp only [Act.put, lsA, lsB, lsC]
          refine wpAnyH_ready (rs := [12]) (by kernel_rfl) (by simp) ?_
          refine AllReadyH.cons rfl (fun K hK => ?_) AllReadyH.nil
          go_simp
          refine hK.out _ _ HSA.out (fun hHeld => ?_)
          clear hK K
          try simp only [Act.put, lsA, lsB, lsC]
          refine wpAnyH_ready (rs := [13]) (by kernel_rfl) (by simp) ?_
          refine AllReadyH.cons rfl (fun K hK => ?_) AllReadyH.nil
          go_simp
          refine hK.out _ _ HS6.out (fun hHeld => ?_)
          clear hK K
          try simp only [Act.put, lsA, lsB, lsC]
          refine wpT (i := 14) (v := ?_) rfl (Or.inl ⟨by rfl, ?_⟩) hHeld ?_
          rotate_left 1
          · (intro w' hSw; (try dsimp only at hSw); first | (go_simp; done) | (go_simp; with_reducible rfl))
          change wpAnyH _ _ _ _ _ _ _ (Act.put _ (some 36) _) _
          simp only [Act.put, lsA, lsB, lsC]
          refine wpT (i := 15) (v := ?_) rfl (Or.inl ⟨by rfl, ?_⟩) hHeld ?_
          rotate_left 1
          · (intro w' hSw; (try dsimp only at hSw); first | (go_simp; done) | (go_simp; with_reducible rfl))
          change wpAnyH _ _ _ _ _ _ _ (Act.put _ (some 37) _) _
          simp only [Act.put, lsA, lsB, lsC]
          refine wpAnyH_ready (rs := [16]) (by kernel_rfl) (by simp) ?_
          refine AllReadyH.cons rfl (fun K hK => ?_) AllReadyH.nil
          go_simp
          rw [HW7E.out]
          refine hK.out _ _ HS7.out (fun hHeld => ?_)
          clear hK K
          try simp only [Act.put, lsA, lsB, lsC]
          refine wpAnyH_done (by kernel_rfl) ?_ _
          obtain ⟨b7, hb7⟩ := HFIN.out
          have HO := Lib.hid (isOver_any G b7.A.length b7.ac b7.ao w7 (bldD_cells hb7.bq.bi.rowG).2.2.2.2.2.1)
          have bx7 := hb7.bq.box.cell
          have lgb7 := World.block_lt_of_cell? w7 _ bx7
          obtain ⟨ov, hov⟩ : ∃ ov, decide (300 < b7.A.length) = ov := ⟨_, rfl⟩
          rw [hov] at HO
          have HB7 := Lib.hid hb7
          have HOV := Lib.hid hov
          clear hb7 hov hHeld
          gi_wp2_with fail
          refine ⟨trivial, CallsIn.inRound lp ((callsIn_wide.2 HO.out).mono ?_)⟩
          rintro e _ ⟨rfl, rfl⟩
          cases ov with
          | true =>
            have HX := Lib.hid (HSTOP.out c b7 w7 hlt HB7.out (of_decide_eq_true HOV.out))
            gi_wp2
            exact ⟨HX.out.1, rfl, HX.out.2⟩
          | false =>
            have HX := Lib.hid (HGO.out c b7 w7 HB7.out (of_decide_eq_false HOV.out))
            gi_wp2_with fail
            gi_roundg (N + 1 - (c + 1))
            case measure => omega
            case rel => exact ⟨c + 1, b7, by simp, by omega, rfl, HX⟩
        refine AllReadyH.cons rfl (fun K hK => ?_) AllReadyH.nil
        go_simp
        refine CON.out.mono ?_
        rintro e W2 ⟨rfl, HS2, h62, hl2, CON2⟩
        go_wp2_with fail
        refine hK.out _ _ HS2.out (fun hHeld => ?_)
        clear hK K
        try simp only [Act.put, lsA, lsB, lsC]
        refine wpAnyH_ready (rs := [4, 11]) (by kernel_rfl) (by simp) ?_
        refine AllReadyH.cons rfl (fun K hK => ?_) ?_
        focus
          go_simp
          refine hK.out _ _ hHeld (fun hHeld => ?_)
          clear hK K
          try simp only [Act.put, lsA, lsB, lsC]
          refine wpAnyH_ready (rs := [11]) (by kernel_rfl) (by simp) ?_
          refine AllReadyH.cons rfl (fun K hK => ?_) AllReadyH.nil
          go_simp
          refine CON2.out.mono ?_
          rintro e W3 ⟨i2, rfl, HS3, h63, hl3, g, cp, w6, hrun, HSA, HS6, k6, f6, l6, w7, HW7E, HS7, HFIN⟩
          replace HW7E := Lib.hid HW7E
          go_wp2_with fail
          refine hK.out _ _ HS3.out (fun hHeld => ?_)
          clear hK K
          try simp only [Act.put, lsA, lsB, lsC]
          refine wpAnyH_ready (rs := [12]) (by kernel_rfl) (by simp) ?_
          refine AllReadyH.cons rfl (fun K hK => ?_) AllReadyH.nil
          go_simp
          refine hK.out _ _ HSA.out (fun hHeld => ?_)
          clear hK K
          try simp only [Act.put, lsA, lsB, lsC]
          refine wpAnyH_ready (rs := [13]) (by kernel_rfl) (by simp) ?_
          refine AllReadyH.cons rfl (fun K hK => ?_) AllReadyH.nil
          go_simp
          refine hK.out _ _ HS6.out (fun hHeld => ?_)
          clear hK K
          try simp only [Act.put, lsA, lsB, lsC]
          refine wpT (i := 14) (v := ?_) rfl (Or.inl ⟨by rfl, ?_⟩) hHeld ?_
          rotate_left 1
          · (intro w' hSw; (try dsimp only at hSw); first | (go_simp; done) | (go_simp; with_reducible rfl))
          change wpAnyH _ _ _ _ _ _ _ (Act.put _ (some 36) _) _
          simp only [Act.put, lsA, lsB, lsC]
          refine wpT (i := 15) (v := ?_) rfl (Or.inl ⟨by rfl, ?_⟩) hHeld ?_
          rotate_left 1
          · (intro w' hSw; (try dsimp only at hSw); first | (go_simp; done) | (go_simp; with_reducible rfl))
          change wpAnyH _ _ _ _ _ _ _ (Act.put _ (some 37) _) _
          simp only [Act.put, lsA, lsB, lsC]
          refine wpAnyH_ready (rs := [16]) (by kernel_rfl) (by simp) ?_
          refine AllReadyH.cons rfl (fun K hK => ?_) AllReadyH.nil
          go_simp
          rw [HW7E.out]
          refine hK.out _ _ HS7.out (fun hHeld => ?_)
          clear hK K
          try simp only [Act.put, lsA, lsB, lsC]
          refine wpAnyH_done (by kernel_rfl) ?_ _
          obtain ⟨b7, hb7⟩ := HFIN.out
          have HO := Lib.hid (isOver_any G b7.A.length b7.ac b7.ao w7 (bldD_cells hb7.bq.bi.rowG).2.2.2.2.2.1)
          have bx7 := hb7.bq.box.cell
          have lgb7 := World.block_lt_of_cell? w7 _ bx7
          obtain ⟨ov, hov⟩ : ∃ ov, decide (300 < b7.A.length) = ov := ⟨_, rfl⟩
          rw [hov] at HO
          have HB7 := Lib.hid hb7
          have HOV := Lib.hid hov
          clear hb7 hov hHeld
          gi_wp2_with fail
          refine ⟨trivial, CallsIn.inRound lp ((callsIn_wide.2 HO.out).mono ?_)⟩
          rintro e _ ⟨rfl, rfl⟩
          cases ov with
          | true =>
            have HX := Lib.hid (HSTOP.out c b7 w7 hlt HB7.out (of_decide_eq_true HOV.out))
            gi_wp2
            exact ⟨HX.out.1, rfl, HX.out.2⟩
          | false =>
            have HX := Lib.hid (HGO.out c b7 w7 HB7.out (of_decide_eq_false HOV.out))
            gi_wp2_with fail
            gi_roundg (N + 1 - (c + 1))
            case measure => omega
            case rel => exact ⟨c + 1, b7, by simp, by omega, rfl, HX⟩
        refine AllReadyH.cons rfl (fun K hK => ?_) AllReadyH.nil
        go_simp
        refine CON2.out.mono ?_
        rintro e W3 ⟨i2, rfl, HS3, h63, hl3, g, cp, w6, hrun, HSA, HS6, k6, f6, l6, w7, HW7E, HS7, HFIN⟩
        replace HW7E := Lib.hid HW7E
        go_wp2_with fail
        refine hK.out _ _ HS3.out (fun hHeld => ?_)
        clear hK K
        try simp only [Act.put, lsA, lsB, lsC]
        refine wpAnyH_ready (rs := [4, 12]) (by kernel_rfl) (by simp) ?_
        refine AllReadyH.cons rfl (fun K hK => ?_) ?_
        focus
          go_simp
          refine hK.out _ _ hHeld (fun hHeld => ?_)
          clear hK K
          try simp only [Act.put, lsA, lsB, lsC]
          refine wpAnyH_ready (rs := [12]) (by kernel_rfl) (by simp) ?_
          refine AllReadyH.cons rfl (fun K hK => ?_) AllReadyH.nil
          go_simp
          refine hK.out _ _ HSA.out (fun hHeld => ?_)
          clear hK K
          try simp only [Act.put, lsA, lsB, lsC]
          refine wpAnyH_ready (rs := [13]) (by kernel_rfl) (by simp) ?_
          refine AllReadyH.cons rfl (fun K hK => ?_) AllReadyH.nil
          go_simp
          refine hK.out _ _ HS6.out (fun hHeld => ?_)
          clear hK K
          try simp only [Act.put, lsA, lsB, lsC]
          refine wpT (i := 14) (v := ?_) rfl (Or.inl ⟨by rfl, ?_⟩) hHeld ?_
          rotate_left 1
          · (intro w' hSw; (try dsimp only at hSw); first | (go_simp; done) | (go_simp; with_reducible rfl))
          change wpAnyH _ _ _ _ _ _ _ (Act.put _ (some 36) _) _
          simp only [Act.put, lsA, lsB, lsC]
          refine wpT (i := 15) (v := ?_) rfl (Or.inl ⟨by rfl, ?_⟩) hHeld ?_
          rotate_left 1
          · (intro w' hSw; (try dsimp only at hSw); first | (go_simp; done) | (go_simp; with_reducible rfl))
          change wpAnyH _ _ _ _ _ _ _ (Act.put _ (some 37) _) _
          simp only [Act.put, lsA, lsB, lsC]
          refine wpAnyH_ready (rs := [16]) (by kernel_rfl) (by simp) ?_
          refine AllReadyH.cons rfl (fun K hK => ?_) AllReadyH.nil
          go_simp
          rw [HW7E.out]
          refine hK.out _ _ HS7.out (fun hHeld => ?_)
          clear hK K
          try simp only [Act.put, lsA, lsB, lsC]
          refine wpAnyH_done (by kernel_rfl) ?_ _
          obtain ⟨b7, hb7⟩ := HFIN.out
          have HO := Lib.hid (isOver_any G b7.A.length b7.ac b7.ao w7 (bldD_cells hb7.bq.bi.rowG).2.2.2.2.2.1)
          have bx7 := hb7.bq.box.cell
          have lgb7 := World.block_lt_of_cell? w7 _ bx7
          obtain ⟨ov, hov⟩ : ∃ ov, decide (300 < b7.A.length) = ov := ⟨_, rfl⟩
          rw [hov] at HO
          have HB7 := Lib.hid hb7
          have HOV := Lib.hid hov
          clear hb7 hov hHeld
          gi_wp2_with fail
          refine ⟨trivial, CallsIn.inRound lp ((callsIn_wide.2 HO.out).mono ?_)⟩
          rintro e _ ⟨rfl, rfl⟩
          cases ov with
          | true =>
            have HX := Lib.hid (HSTOP.out c b7 w7 hlt HB7.out (of_decide_eq_true HOV.out))
            gi_wp2
            exact ⟨HX.out.1, rfl, HX.out.2⟩
          | false =>
            have HX := Lib.hid (HGO.out c b7 w7 HB7.out (of_decide_eq_false HOV.out))
            gi_wp2_with fail
            gi_roundg (N + 1 - (c + 1))
            case measure => omega
            case rel => exact ⟨c + 1, b7, by simp, by omega, rfl, HX⟩
        refine AllReadyH.cons rfl (fun K hK => ?_) AllReadyH.nil
        go_simp
        refine hK.out _ _ HSA.out (fun hHeld => ?_)
        clear hK K
        try simp only [Act.put, lsA, lsB, lsC]
        refine wpAnyH_ready (rs := [4]) (by kernel_rfl) (by simp) ?_
        refine AllReadyH.cons rfl (fun K hK => ?_) AllReadyH.nil
        go_simp
        refine hK.out _ _ hHeld (fun hHeld => ?_)
        clear hK K
        try simp only [Act.put, lsA, lsB, lsC]
        refine wpAnyH_ready (rs := [13]) (by kernel_rfl) (by simp) ?_
        refine AllReadyH.cons rfl (fun K hK => ?_) AllReadyH.nil
        go_simp
        refine hK.out _ _ HS6.out (fun hHeld => ?_)
        clear hK K
        try simp only [Act.put, lsA, lsB, lsC]
        refine wpT (i := 14) (v := ?_) rfl (Or.inl ⟨by rfl, ?_⟩) hHeld ?_
        rotate_left 1
        · (intro w' hSw; (try dsimp only at hSw); first | (go_simp; done) | (go_simp; with_reducible rfl))
        change wpAnyH _ _ _ _ _ _ _ (Act.put _ (some 36) _) _
        simp only [Act.put, lsA, lsB, lsC]
        refine wpT (i := 15) (v := ?_) rfl (Or.inl ⟨by rfl, ?_⟩) hHeld ?_
        rotate_left 1
        · (intro w' hSw; (try dsimp only at hSw); first | (go_simp; done) | (go_simp; with_reducible rfl))
        change wpAnyH _ _ _ _ _ _ _ (Act.put _ (some 37) _) _
        simp only [Act.put, lsA, lsB, lsC]
        refine wpAnyH_ready (rs := [16]) (by kernel_rfl) (by simp) ?_
        refine AllReadyH.cons rfl (fun K hK => ?_) AllReadyH.nil
        go_simp
        rw [HW7E.out]
        refine hK.out _ _ HS7.out (fun hHeld => ?_)
        clear hK K
        try simp only [Act.put, lsA, lsB, lsC]
        refine wpAnyH_done (by kernel_rfl) ?_ _
        obtain ⟨b7, hb7⟩ := HFIN.out
        have HO := Lib.hid (isOver_any G b7.A.length b7.ac b7.ao w7 (bldD_cells hb7.bq.bi.rowG).2.2.2.2.2.1)
        have bx7 := hb7.bq.box.cell
        have lgb7 := World.block_lt_of_cell? w7 _ bx7
        obtain ⟨ov, hov⟩ : ∃ ov, decide (300 < b7.A.length) = ov := ⟨_, rfl⟩
        rw [hov] at HO
        have HB7 := Lib.hid hb7
        have HOV := Lib.hid hov
        clear hb7 hov hHeld
        gi_wp2_with fail
        refine ⟨trivial, CallsIn.inRound lp ((callsIn_wide.2 HO.out).mono ?_)⟩
        rintro e _ ⟨rfl, rfl⟩
        cases ov with
        | true =>
          have HX := Lib.hid (HSTOP.out c b7 w7 hlt HB7.out (of_decide_eq_true HOV.out))
          gi_wp2
          exact ⟨HX.out.1, rfl, HX.out.2⟩
        | false =>
          have HX := Lib.hid (HGO.out c b7 w7 HB7.out (of_decide_eq_false HOV.out))
          gi_wp2_with fail
          gi_roundg (N + 1 - (c + 1))
          case measure => omega
          case rel => exact ⟨c + 1, b7, by simp, by omega, rfl, HX⟩
      · obtain rfl : c = N + 1 := by omega
        have d1 : decide (((N : Nat) : Int) + 1 < ((N : Nat) : Int) + 1) = false := decide_eq_false (by omega)
        have hfy := gc.2.1
        obtain ⟨fy, hfy2⟩ : ∃ fy, b.fv = fy := ⟨_, rfl⟩
        rw [hfy2] at hfy
        have lGr := World.block_lt_of_cell? wr _ hfy
        obtain ⟨n1, hn1'⟩ : ∃ n1, b.fl.length = n1 := ⟨_, rfl⟩
        obtain ⟨dn, hdn⟩ : ∃ dn, doneD (l.map leftX) x = dn := ⟨_, rfl⟩
        have CON : Hid (Calls Tryd.prog 79 #[.pointer (some ⟨G, 0, none⟩), setsV (padD x)] wr.drew fun e W2 => e = .returned (.int .i64 ((dn : Nat) : Int)) ∧ Hid (W2.cell? ⟨w.heap.size, 0, none⟩ = some (.pointer (some ⟨G, 0, none⟩)) ∧ W2.heap[ab]? = some (setsO (padD x))) ∧ W2.cell? ⟨G, 1, none⟩ = some fy ∧ G < W2.heap.size ∧
            ∃ g cp w6, (appSem #[23, 23] 23 #[fy, .slice (some ⟨W2.heap.size, 0, none⟩) 1 1]).run Tryd.prog (W2.alloc (.cells #[.int .i64 ((dn : Nat) : Int)] 2)) = .ok (.slice (some ⟨g, 0, none⟩) (n1 + 1) cp) w6 ∧ Hid ((W2.alloc (.cells #[.int .i64 ((dn : Nat) : Int)] 2)).cell? ⟨w.heap.size, 0, none⟩ = some (.pointer (some ⟨G, 0, none⟩)) ∧ (W2.alloc (.cells #[.int .i64 ((dn : Nat) : Int)] 2)).heap[ab]? = some (setsO (padD x))) ∧ Hid (w6.cell? ⟨w.heap.size, 0, none⟩ = some (.pointer (some ⟨G, 0, none⟩)) ∧ w6.heap[ab]? = some (setsO (padD x))) ∧ w6.cell? ⟨G, 1, none⟩ = some fy ∧ w6.frozen? ⟨G, 1, none⟩ = false ∧ G < w6.heap.size ∧
            ∃ w7, w6.setCell ⟨G, 1, none⟩ (.slice (some ⟨g, 0, none⟩) (n1 + 1) cp) = w7 ∧ Hid (w7.cell? ⟨w.heap.size, 0, none⟩ = some (.pointer (some ⟨G, 0, none⟩)) ∧ w7.heap[ab]? = some (setsO (padD x))) ∧ Hid (∃ b7, BldL w0 w W4 (l.map leftX) G M N (.slice o l.length cap) nx Y0 w.heap.size (w.heap.size + 1) X3 (pre.map (doneD (l.map leftX)) ++ [doneD (l.map leftX) x]) (q0 + (N + 1)) b7 w7)) := Lib.hid (by
          have hs := done_anyD G o l cap x wr.drew (HRW.out.below hbel.drew) HKX.out gc.2.2.1
          rw [hdn] at hs ⊢
          refine hs.mono ?_
          rintro e W2 ⟨rfl, b2⟩
          have b2' : Below wr.heap.size wr W2 := ((Below.refl wr.heap.size wr).drew).trans b2
          have hL2 := hL.below b2'
          have ra2 := row_below ra b2'
          have g1 := (bldD_cells hL2.bq.bi.rowG).2.1
          rw [hfy2] at g1
          obtain ⟨g, cp, w6, k1, k2, k3, k4, k5, w7, k6, b7, k7⟩ := hL2.fit dn (by rw [List.length_map]; have := HPL.out; omega)
          rw [hfy2, hn1'] at k1
          rw [hfy2] at k2
          rw [hn1'] at k6
          have ba : Below W2.heap.size W2 (W2.alloc (.cells #[.int .i64 ((dn : Nat) : Int)] 2)) := (Below.refl _ _).alloc (Nat.le_refl _) _
          have gb2 := hL2.bq.box
          have gb6 : Boxed w6 w.heap.size 122 (.pointer (some ⟨G, 0, none⟩)) := row_keep gb2 k5 (fun hn => hn (.inr (.inl rfl)))
          have ra7 := row_keep HROW.out.1 k7.mv (fun hn => hn (.inr (.inr (.inr HX3.out.1))))
          exact ⟨rfl, Lib.hid ⟨gb2.cell, ra2⟩, g1, World.block_lt_of_cell? W2 _ g1, g, cp, w6, k1, Lib.hid ⟨cell_keepQ ba gb2.cell, row_below ra2 ba⟩, Lib.hid ⟨gb6.cell, row_keep ra2 k5 (fun hn => hn (.inr (.inr (.inr HX3.out.1))))⟩, k2, k3, k4, w7, k6, Lib.hid ⟨k7.bq.box.cell, ra7⟩, Lib.hid ⟨b7, k7⟩⟩)
        have HNX := Lib.hid (fun b7 w7 => HNEXT.out b7 w7 HL.out.2)
        have h0 := And.intro bx ra
        have hp4 := HP40.out
        clear hL hmv ra rc rd gc hbel hfy2 hn1' hdn HL
        gi_wp2_with fail
        refine wpIn_region_heldQ lp (fun W => W.cell? ⟨w.heap.size, 0, none⟩ = some (.pointer (some ⟨G, 0, none⟩)) ∧ W.heap[ab]? = some (setsO (padD x))) (fun ⟨_, _, h⟩ => h) rfl hfol h0 (fun hHeld => ?_)
        clear h0
        refine wpT (i := 0) (v := ?_) rfl (Or.inl ⟨by rfl, ?_⟩) hHeld ?_
        rotate_left 1
        · (intro w' hSw; (try dsimp only at hSw); first | (go_simp; done) | (go_simp; with_reducible rfl))
        change wpAnyH _ _ _ _ _ _ _ (Act.put _ (some 41) _) _
        simp only [Act.put, lsA, lsB, lsC]
        refine wpT (i := 1) (v := ?_) rfl (Or.inl ⟨by rfl, ?_⟩) hHeld ?_
        rotate_left 1
        · (intro w' hSw; (try dsimp only at hSw); first | (go_simp; done) | (go_simp; with_reducible rfl))
        change wpAnyH _ _ _ _ _ _ _ (Act.put _ (some 42) _) _
        simp only [Act.put, lsA, lsB, lsC]
        refine wpT (i := 2) (v := ?_) rfl (Or.inl ⟨by rfl, ?_⟩) hHeld ?_
        rotate_left 1
        · (intro w' hSw; (try dsimp only at hSw); first | (go_simp; done) | (go_simp; with_reducible rfl))
        change wpAnyH _ _ _ _ _ _ _ (Act.put _ (some 43) _) _
        simp only [Act.put, lsA, lsB, lsC]
        refine wpT (i := 3) (v := ?_) rfl (Or.inl ⟨by rfl, ?_⟩) hHeld ?_
        rotate_left 1
        · (intro w' hSw; (try dsimp only at hSw); first | (go_simp; done) | (go_simp; with_reducible rfl))
        change wpAnyH _ _ _ _ _ _ _ (Act.put _ (some 44) _) _
        simp only [Act.put, lsA, lsB, lsC]
        refine wpT (i := 4) (v := ?_) rfl (Or.inl ⟨by rfl, ?_⟩) hHeld ?_
        rotate_left 1
        · (intro w' hSw; (try dsimp only at hSw); first | (go_simp; done) | (go_simp; with_reducible rfl))
        change wpAnyH _ _ _ _ _ _ _ (Act.put _ (some 45) _) _
        simp only [Act.put, lsA, lsB, lsC]
        refine wpT (i := 6) (v := ?_) rfl (Or.inl ⟨by rfl, ?_⟩) hHeld ?_
        rotate_left 1
        · (intro w' hSw; (try dsimp only at hSw); first | (go_simp; done) | (go_simp; with_reducible rfl))
        change wpAnyH _ _ _ _ _ _ _ (Act.put _ (some 47) _) _
        simp only [Act.put, lsA, lsB, lsC]
        refine wpT (i := 7) (v := ?_) rfl (Or.inl ⟨by rfl, ?_⟩) hHeld ?_
        rotate_left 1
        · (intro w' hSw; (try dsimp only at hSw); have hl7 := run_ldD hp4 hSw.2; first | (go_simp; done) | (go_simp; with_reducible rfl))
        change wpAnyH _ _ _ _ _ _ _ (Act.put _ (some 48) _) _
        simp only [Act.put, lsA, lsB, lsC]
        refine wpAnyH_ready (rs := [5, 8]) (by kernel_rfl) (by simp) ?_
        refine AllReadyH.cons rfl (fun K hK => ?_) ?_
        focus
          go_simp
          refine hK.out _ _ hHeld (fun hHeld => ?_)
          clear hK K
          try simp only [Act.put, lsA, lsB, lsC]
          refine wpAnyH_ready (rs := [8]) (by kernel_rfl) (by simp) ?_
          refine AllReadyH.cons rfl (fun K hK => ?_) AllReadyH.nil
          go_simp
          refine CON.out.mono ?_
          rintro e W2 ⟨rfl, HS2, h62, hl2, g, cp, w6, hrun, HSA, HS6, k6, f6, l6, w7, HW7E, HS7, HFIN⟩
          replace HW7E := Lib.hid HW7E
          go_wp2_with fail
          refine hK.out _ _ HS2.out (fun hHeld => ?_)
          clear hK K
          try simp only [Act.put, lsA, lsB, lsC]
          refine wpAnyH_ready (rs := [9]) (by kernel_rfl) (by simp) ?_
          refine AllReadyH.cons rfl (fun K hK => ?_) AllReadyH.nil
          go_simp
          refine hK.out _ _ HSA.out (fun hHeld => ?_)
          clear hK K
          try simp only [Act.put, lsA, lsB, lsC]
          refine wpAnyH_ready (rs := [10]) (by kernel_rfl) (by simp) ?_
          refine AllReadyH.cons rfl (fun K hK => ?_) AllReadyH.nil
          go_simp
          refine hK.out _ _ HS6.out (fun hHeld => ?_)
          clear hK K
          try simp only [Act.put, lsA, lsB, lsC]
          refine wpT (i := 11) (v := ?_) rfl (Or.inl ⟨by rfl, ?_⟩) hHeld ?_
          rotate_left 1
          · (intro w' hSw; (try dsimp only at hSw); first | (go_simp; done) | (go_simp; with_reducible rfl))
          change wpAnyH _ _ _ _ _ _ _ (Act.put _ (some 52) _) _
          simp only [Act.put, lsA, lsB, lsC]
          refine wpT (i := 12) (v := ?_) rfl (Or.inl ⟨by rfl, ?_⟩) hHeld ?_
          rotate_left 1
          · (intro w' hSw; (try dsimp only at hSw); first | (go_simp; done) | (go_simp; with_reducible rfl))
          change wpAnyH _ _ _ _ _ _ _ (Act.put _ (some 53) _) _
          simp only [Act.put, lsA, lsB, lsC]
          refine wpT (i := 13) (v := ?_) rfl (Or.inl ⟨by rfl, ?_⟩) hHeld ?_
          rotate_left 1
          · (intro w' hSw; (try dsimp only at hSw); first | (go_simp; done) | (go_simp; with_reducible rfl))
          change wpAnyH _ _ _ _ _ _ _ (Act.put _ (some 54) _) _
          simp only [Act.put, lsA, lsB, lsC]
          refine wpAnyH_ready (rs := [14]) (by kernel_rfl) (by simp) ?_
          refine AllReadyH.cons rfl (fun K hK => ?_) AllReadyH.nil
          go_simp
          rw [HW7E.out]
          refine hK.out _ _ HS7.out (fun hHeld => ?_)
          clear hK K
          try simp only [Act.put, lsA, lsB, lsC]
          refine wpAnyH_done (by kernel_rfl) ?_ _
          obtain ⟨b7, hb7⟩ := HFIN.out
          have HX := Lib.hid (HNX.out b7 w7 hb7)
          clear hb7 hHeld
          gi_wp2
          exact HX.out
        refine AllReadyH.cons rfl (fun K hK => ?_) AllReadyH.nil
        go_simp
        refine CON.out.mono ?_
        rintro e W2 ⟨rfl, HS2, h62, hl2, g, cp, w6, hrun, HSA, HS6, k6, f6, l6, w7, HW7E, HS7, HFIN⟩
        replace HW7E := Lib.hid HW7E
        go_wp2_with fail
        refine hK.out _ _ HS2.out (fun hHeld => ?_)
        clear hK K
        try simp only [Act.put, lsA, lsB, lsC]
        refine wpAnyH_ready (rs := [5, 9]) (by kernel_rfl) (by simp) ?_
        refine AllReadyH.cons rfl (fun K hK => ?_) ?_
        focus
          go_simp
          refine hK.out _ _ hHeld (fun hHeld => ?_)
          clear hK K
          try simp only [Act.put, lsA, lsB, lsC]
          refine wpAnyH_ready (rs := [9]) (by kernel_rfl) (by simp) ?_
          refine AllReadyH.cons rfl (fun K hK => ?_) AllReadyH.nil
          go_simp
          refine hK.out _ _ HSA.out (fun hHeld => ?_)
          clear hK K
          try simp only [Act.put, lsA, lsB, lsC]
          refine wpAnyH_ready (rs := [10]) (by kernel_rfl) (by simp) ?_
          refine AllReadyH.cons rfl (fun K hK => ?_) AllReadyH.nil
          go_simp
          refine hK.out _ _ HS6.out (fun hHeld => ?_)
          clear hK K
          try simp only [Act.put, lsA, lsB, lsC]
          refine wpT (i := 11) (v := ?_) rfl (Or.inl ⟨by rfl, ?_⟩) hHeld ?_
          rotate_left 1
          · (intro w' hSw; (try dsimp only at hSw); first | (go_simp; done) | (go_simp; with_reducible rfl))
          change wpAnyH _ _ _ _ _ _ _ (Act.put _ (some 52) _) _
          simp only [Act.put, lsA, lsB, lsC]
          refine wpT (i := 12) (v := ?_) rfl (Or.inl ⟨by rfl, ?_⟩) hHeld ?_
          rotate_left 1
          · (intro w' hSw; (try dsimp only at hSw); first | (go_simp; done) | (go_simp; with_reducible rfl))
          change wpAnyH _ _ _ _ _ _ _ (Act.put _ (some 53) _) _
          simp only [Act.put, lsA, lsB, lsC]
          refine wpT (i := 13) (v := ?_) rfl (Or.inl ⟨by rfl, ?_⟩) hHeld ?_
          rotate_left 1
          · (intro w' hSw; (try dsimp only at hSw); first | (go_simp; done) | (go_simp; with_reducible rfl))
          change wpAnyH _ _ _ _ _ _ _ (Act.put _ (some 54) _) _
          simp only [Act.put, lsA, lsB, lsC]
          refine wpAnyH_ready (rs := [14]) (by kernel_rfl) (by simp) ?_
          refine AllReadyH.cons rfl (fun K hK => ?_) AllReadyH.nil
          go_simp
          rw [HW7E.out]
          refine hK.out _ _ HS7.out (fun hHeld => ?_)
          clear hK K
          try simp only [Act.put, lsA, lsB, lsC]
          refine wpAnyH_done (by kernel_rfl) ?_ _
          obtain ⟨b7, hb7⟩ := HFIN.out
          have HX := Lib.hid (HNX.out b7 w7 hb7)
          clear hb7 hHeld
          gi_wp2
          exact HX.out
        refine AllReadyH.cons rfl (fun K hK => ?_) AllReadyH.nil
        go_simp
        refine hK.out _ _ HSA.out (fun hHeld => ?_)
        clear hK K
        try simp only [Act.put, lsA, lsB, lsC]
        refine wpAnyH_ready (rs := [5]) (by kernel_rfl) (by simp) ?_
        refine AllReadyH.cons rfl (fun K hK => ?_) AllReadyH.nil
        go_simp
        refine hK.out _ _ hHeld (fun hHeld => ?_)
        clear hK K
        try simp only [Act.put, lsA, lsB, lsC]
        refine wpAnyH_ready (rs := [10]) (by kernel_rfl) (by simp) ?_
        refine AllReadyH.cons rfl (fun K hK => ?_) AllReadyH.nil
        go_simp
        refine hK.out _ _ HS6.out (fun hHeld => ?_)
        clear hK K
        try simp only [Act.put, lsA, lsB, lsC]
        refine wpT (i := 11) (v := ?_) rfl (Or.inl ⟨by rfl, ?_⟩) hHeld ?_
        rotate_left 1
        · (intro w' hSw; (try dsimp only at hSw); first | (go_simp; done) | (go_simp; with_reducible rfl))
        change wpAnyH _ _ _ _ _ _ _ (Act.put _ (some 52) _) _
        simp only [Act.put, lsA, lsB, lsC]
        refine wpT (i := 12) (v := ?_) rfl (Or.inl ⟨by rfl, ?_⟩) hHeld ?_
        rotate_left 1
        · (intro w' hSw; (try dsimp only at hSw); first | (go_simp; done) | (go_simp; with_reducible rfl))
        change wpAnyH _ _ _ _ _ _ _ (Act.put _ (some 53) _) _
        simp only [Act.put, lsA, lsB, lsC]
        refine wpT (i := 13) (v := ?_) rfl (Or.inl ⟨by rfl, ?_⟩) hHeld ?_
        rotate_left 1
        · (intro w' hSw; (try dsimp only at hSw); first | (go_simp; done) | (go_simp; with_reducible rfl))
        change wpAnyH _ _ _ _ _ _ _ (Act.put _ (some 54) _) _
        simp only [Act.put, lsA, lsB, lsC]
        refine wpAnyH_ready (rs := [14]) (by kernel_rfl) (by simp) ?_
        refine AllReadyH.cons rfl (fun K hK => ?_) AllReadyH.nil
        go_simp
        rw [HW7E.out]
        refine hK.out _ _ HS7.out (fun hHeld => ?_)
        clear hK K
        try simp only [Act.put, lsA, lsB, lsC]
        refine wpAnyH_done (by kernel_rfl) ?_ _
        obtain ⟨b7, hb7⟩ := HFIN.out
        have HX := Lib.hid (HNX.out b7 w7 hb7)
        clear hb7 hHeld
        gi_wp2
        exact HX.out
  case done =>
    rintro X D W hD hXD ⟨b, hI⟩ hX hK
    have hIle := hI.le
    have hIge := hI.ge
    have hend := view_end (R := l.map leftX) (N := N) (i := (finD (l.map leftX) N).1.length) (by omega) (by rw [← hI.a]; exact hIge) rfl
    have hA := hI.a
    have hWl := hI.w
    rw [hend] at hA hWl
    have bx := hI.q.box.cell
    have lgb := World.block_lt_of_cell? W _ bx
    have HO := Lib.hid (isOver_any G b.A.length b.ac b.ao W (bldD_cells hI.q.bi.rowG).2.2.2.2.2.1)
    rw [decide_eq_false (show ¬ 300 < b.A.length by omega)] at HO
    have FIN : Hid (P (.returned (.bool true)) (W.putObj D (.deferred none))) := Lib.hid (by
      have mp : Moves (fun k => k = D) W (W.putObj D (.deferred none)) := Moves.putObj rfl
      rw [← HP.out]
      have hT : (finD (l.map leftX) N).1.length ≤ 300 := by rw [← hA]; exact hIle
      refine ⟨b, by rw [decide_eq_true hT], hI.q.bi.moves mp (fun k hk => .inr (.inr (.inr (by rw [hk]; exact hXD)))) (fun k hk => ⟨.inl (.inl hk), by have := hI.q.bi.ltY k (.inl hk); have := mp.size; omega⟩), hI.q.mv.trans (mp.mono fun k hk hy => ?_), fun _ => ⟨hA, hWl, hI.f⟩⟩
      have := hI.q.y0.1 k hy
      have := hI.q.hX k (by rw [hk]; exact hXD)
      omega)
    have HK := Lib.hid hK
    clear hI hX hK hXD hD hIle hIge hend hA hWl
    gi_wp2_with fail
    refine ⟨trivial, (callsIn_wide.2 HO.out).mono ?_⟩
    rintro e _ ⟨rfl, rfl⟩
    gi_wp2
    refine ⟨by simp, .inl ⟨_, _, rfl, run_takeDeferred HK.out, ?_⟩⟩
    exact ⟨_, results_tmp (t := 2) rfl _ _ _, FIN.out⟩
  case stop =>
    rintro X D c pre W hD hXD hpre ⟨rfl, b, hq, hov, hT⟩ hX hK
    have bx := hq.box.cell
    have lgb := World.block_lt_of_cell? W _ bx
    have HO := Lib.hid (isOver_any G b.A.length b.ac b.ao W (bldD_cells hq.bi.rowG).2.2.2.2.2.1)
    rw [decide_eq_true hov] at HO
    have FIN : Hid (P (.returned (.bool false)) (W.putObj D (.deferred none))) := Lib.hid (by
      have mp : Moves (fun k => k = D) W (W.putObj D (.deferred none)) := Moves.putObj rfl
      rw [← HP.out]
      refine ⟨b, by rw [decide_eq_false (show ¬ (finD (l.map leftX) N).1.length ≤ 300 by omega)], hq.bi.moves mp (fun k hk => .inr (.inr (.inr (by rw [hk]; exact hXD)))) (fun k hk => ⟨.inl (.inl hk), by have := hq.bi.ltY k (.inl hk); have := mp.size; omega⟩), hq.mv.trans (mp.mono fun k hk hy => ?_), fun h => by omega⟩
      have := hq.y0.1 k hy
      have := hq.hX k (by rw [hk]; exact hXD)
      omega)
    have HK := Lib.hid hK
    clear hq hX hK hXD hD hov hT hpre
    gi_wp2_with fail
    refine ⟨trivial, (callsIn_wide.2 HO.out).mono ?_⟩
    rintro e _ ⟨rfl, rfl⟩
    gi_wp2
    refine ⟨by simp, .inl ⟨_, _, rfl, run_takeDeferred HK.out, ?_⟩⟩
    exact ⟨_, results_tmp (t := 2) rfl _ _ _, FIN.out⟩
end Go.Proofs.YtaoooocalpkhjaaDoor
