/- Units: where the units begin, and where all ends. -/
import Derived.Test.YthnfekilmiodpaaDoorBunURepair
namespace Go.Proofs.YthnfekilmiodpaaDoor
open Go.RowKit Go.Shelf
attribute [local go_sem] Oper.semAt_some
attribute [local go_sem ↓] app_hide

def UnitsPost (l : List UInt8) (w : World) (e : Ending) (w' : World) : Prop :=
  ∃ a, e = .returned (.slice (some a) (placesL l).length (placesL l).length) ∧ (∀ i, i < (placesL l).length → w'.cell? (a.add i) = some (.int .i64 ((placesL l).getD i 0 : Nat))) ∧ Below w.heap.size w w'
theorem own_cells {w : World} {base g cap : Nat} {n : Nat} {xs : List Nat} (h : w.ownsRow base 3 1 (.slice (some ⟨g, 0, none⟩) n cap) n (xs.map intC)) (i : Nat) (hi : i < xs.length) : w.cell? ((⟨g, 0, none⟩ : Addr).add i) = some (.int .i64 (xs.getD i 0 : Nat)) := by
  have hn : n = xs.length := by have := h.1; rw [List.length_map] at this; omega
  rcases h.2 with ⟨hv, _⟩ | ⟨g', cap', cur, hv, _, hg, _, _, _, htake⟩
  · cases hv
  · cases hv
    have hadd : (⟨g, 0, none⟩ : Addr).add i = ⟨g, i, none⟩ := by unfold Addr.add; split <;> simp_all
    rw [hadd, cell_of_row _ _ i _ _ _ hg]
    have h1 : (cur.toList.take (n * 1))[i]? = cur[i]? := by rw [List.getElem?_take_of_lt (by omega), Array.getElem?_toList]
    rw [← h1, htake]
    simp [List.getElem?_eq_getElem hi, List.getD]
theorem own_cap {w : World} {base : Nat} {e : TypeId} {o : Option Addr} {n cap : Nat} {size : Nat} {xs : List Value} (h : w.ownsRow base e size (.slice o n cap) n xs) : n ≤ cap := by
  rcases h.2 with ⟨hv, hn⟩ | ⟨g', cap', cur, hv, _, hg, hc, _⟩
  · omega
  · cases hv; exact hc
theorem own_not_def {W : World} {n0 B k j : Nat} {t e : TypeId} {size : Nat} {v : Value} {xs : List Value} {d : Option (List Deferred)} (hl : Boxed W B t v) (ho : W.ownsRow n0 e size v k xs) (hK : W.heap[j]? = some (.deferred d)) : ¬ ∃ u, Boxed W B t u ∧ u.ownBlock = some j := by
  rintro ⟨u, hu, hj⟩
  obtain rfl := boxed_unique hl hu
  rcases ho.2 with ⟨rfl, _⟩ | ⟨g, cap, cur, rfl, hg, hh, _⟩
  · simp [Value.ownBlock] at hj
  · obtain rfl : g = j := by simpa [Value.ownBlock] using hj
    rw [hh] at hK
    cases hK
theorem begins_own {W : World} {base k : Nat} {v : Value} {xs : List Value} (q n : Nat) (ok : Bool) (ho : W.ownsRow base 3 1 v k xs) (hk : k ≤ 1000000) (hbase : base ≤ W.heap.size) :
    ∃ o cap w6, (appSem #[30, 30] 30 #[v, .slice (some ⟨W.heap.size + 1, 0, none⟩) 1 1]).run Tryd.prog ((W.alloc (.cells (unitC q n ok) 36)).alloc (.cells #[.int .i64 (q : Nat)] 3)).drew = .ok (.slice o (k + 1) cap) w6 ∧
      w6.ownsRow base 3 1 (.slice o (k + 1) cap) (k + 1) (xs ++ [intC q]) ∧ ((W.alloc (.cells (unitC q n ok) 36)).alloc (.cells #[.int .i64 (q : Nat)] 3)).drew.grownBy w6 v.ownBlock := by
  obtain ⟨i0, hi, hz0, hz1, hz2⟩ := info_parts infoInt
  have hb : Below W.heap.size W ((W.alloc (.cells (unitC q n ok) 36)).alloc (.cells #[.int .i64 (q : Nat)] 3)).drew := (((Below.refl _ _).alloc (Nat.le_refl _) _).alloc (by simp) _).drew
  have hc : ((W.alloc (.cells (unitC q n ok) 36)).alloc (.cells #[.int .i64 (q : Nat)] 3)).drew.cell? ⟨W.heap.size + 1, 0, none⟩ = some (intC q) := by
    have := cell_of_row ((W.alloc (.cells (unitC q n ok) 36)).alloc (.cells #[.int .i64 (q : Nat)] 3)) (W.heap.size + 1) 0 _ _ _ (by have := heap_alloc_new (W.alloc (.cells (unitC q n ok) 36)) (.cells #[.int .i64 (q : Nat)] 3); rwa [World.size_alloc] at this)
    exact this
  obtain ⟨v', w6, hr, h2, h3, h4⟩ := run_append_own (P := Tryd.prog) _ base 30 30 3 i0 (.int .i64 0) 1 8 Tryd.underlying30 hi hz0 hz1 hz2 rfl (by decide) v k xs (own_below ho hb) ⟨W.heap.size + 1, 0, none⟩ 1 1 [intC q] rfl
    (fun j u hj => by
      match j, hj with
      | 0, hj => cases hj; exact hc) (by simp [Value.oneCell']) (by unfold maxLen; omega) (by omega) (by simp; omega)
  obtain ⟨o, cap, rfl⟩ := own_form h2
  exact ⟨o, cap, w6, hr, h2, h3⟩

theorem last_own {W : World} {base k : Nat} {v : Value} {xs : List Value} (q : Nat) (ho : W.ownsRow base 3 1 v k xs) (hk : k ≤ 1000000) (hbase : base ≤ W.heap.size) :
    ∃ g cap w6, (appSem #[30, 30] 30 #[v, .slice (some ⟨W.heap.size, 0, none⟩) 1 1]).run Tryd.prog (W.alloc (.cells #[.int .i64 (q : Nat)] 3)) = .ok (.slice (some ⟨g, 0, none⟩) (k + 1) cap) w6 ∧
      w6.ownsRow base 3 1 (.slice (some ⟨g, 0, none⟩) (k + 1) cap) (k + 1) (xs ++ [intC q]) ∧ (W.alloc (.cells #[.int .i64 (q : Nat)] 3)).grownBy w6 v.ownBlock := by
  obtain ⟨i0, hi, hz0, hz1, hz2⟩ := info_parts infoInt
  have hb : Below W.heap.size W (W.alloc (.cells #[.int .i64 (q : Nat)] 3)) := (Below.refl _ _).alloc (Nat.le_refl _) _
  obtain ⟨v', w6, hr, h2, h3, h4⟩ := run_append_own (P := Tryd.prog) _ base 30 30 3 i0 (.int .i64 0) 1 8 Tryd.underlying30 hi hz0 hz1 hz2 rfl (by decide) v k xs (own_below ho hb) ⟨W.heap.size, 0, none⟩ 1 1 [intC q] rfl
    (cell_one_new _ _ _) (by simp [Value.oneCell']) (by unfold maxLen; omega) (by omega) (by simp; omega)
  obtain ⟨g, cap, rfl⟩ := ownsRow_succ h2
  exact ⟨g, cap, w6, hr, h2, h3⟩

set_option maxRecDepth 100000 in
set_option maxHeartbeats 4000000 in
theorem units_list (s : ByteArray) (hs : s.size ≤ 50000) (w : World) (aU aS : Addr) (hG : Glob w aU aS) :
    Calls Tryd.prog 13 #[.string s] w (UnitsPost s.data.toList w) := by
  refine (callsIn_wide (n := 5)).1 ?_
  have h1 : 1 ≤ 5 := by omega
  refine callsIn_of_wp_marks Tryd.func13 rfl trivial ?_ rfl
  simp only [Tryd.ntmps13, List.size_toArray, List.length_cons, List.length_nil, Nat.reduceAdd, Nat.reduceSub, Array.replicate_succ, Array.replicate_zero, List.push_toArray, List.append_toArray, List.nil_append, List.cons_append]
  have ltU := hG.ltU
  have ltS := hG.ltS
  have lU := hG.lt_aU
  have lS := hG.lt_aS
  gi_wp2_with fail
  refine ⟨trivial, (callsIn_wide.2 (whole_any s _)).mono ?_⟩
  rintro e w1 ⟨rfl, rfl⟩
  gi_wp2_with fail
  refine ⟨trivial, (callsIn_wide.2 (units_any s 0 _)).mono ?_⟩
  rintro e w2 ⟨rfl, hw2⟩
  simp only [World.size_alloc] at hw2 ⊢
  have B2 : Below w.heap.size w w2 := by rw [← hw2]; exact (((Below.refl _ _).alloc (Nat.le_refl _) _).alloc (by simp) _).alloc (by simp; omega) _
  have hb : w2.heap[w.heap.size + 1 + 1]? = some (.cells (menderC s 0) 54 (0, 0)) := by
    rw [← hw2]
    have := heap_alloc_new ((w.alloc (.cells #[.slice none 0 0] 30)).alloc (.cells (menderC s 0) 54)) (.cells (menderC s 0) 54)
    simpa using this
  have X2 : Boxed w2 w.heap.size 30 (.slice none 0 0) := by
    rw [← hw2]
    exact ((Boxed.new w 30 _).alloc _).alloc _
  have z2 : w2.heap.size ≤ w.heap.size + 3 ∧ w.heap.size + 3 ≤ w2.heap.size := by rw [← hw2]; simp
  clear hw2
  gi_wp2_with fail
  refine wpIn_units (w0 := w) (b := w.heap.size + 1 + 1) (p := 0) (s := s) (aU := aU) (aS := aS) rfl rfl hs (by omega) hb hG B2
    (fun pre W => ∃ v, Boxed W w.heap.size 30 v ∧ W.ownsRow (w2.heap.size + 2) 3 1 v pre.length (pre.map fun x => intC x.1)) (fun _ _ _ => False) (fun A k => k = w.heap.size ∨ ∃ v, Boxed A w.heap.size 30 v ∧ v.ownBlock = some k) ?S1 ?S2 ?hI ?hIx ⟨_, X2, World.ownsRow_nil _ _ _ _⟩
    (fun u x => { tmps := #[.string s, undef, .slice none 0 0, .pointer (some ⟨w.heap.size, 0, none⟩), .pointer (some ⟨u, 0, none⟩), .string s, .agg (menderC s 0), .func (.func 37) #[] #[.pointer (some ⟨w.heap.size + 1 + 1, 0, none⟩)], unitV x.1 x.2.1 x.2.2, undef, undef, undef, undef, undef, undef, undef, undef, undef, undef, undef, undef, undef, undef, undef, undef], defers := [] }) ?assign ?body ?done ?stop
  case S1 =>
    rintro xs A k hA ⟨v, hX, ho⟩ (rfl | ⟨v', hX', hv'⟩)
    · have := hX.lt
      omega
    · have := own_far hX ho ⟨v', hX', hv'⟩
      omega
  case S2 =>
    rintro xs A B k ⟨v, hX, ho⟩ hm (rfl | ⟨v', hX', hv'⟩)
    · exact .inl rfl
    · have hXB : Boxed B w.heap.size 30 v := row_keep hX hm (by omega)
      obtain rfl := boxed_unique hXB hX'
      exact .inr ⟨_, hX, hv'⟩
  case hI =>
    rintro xs A B ⟨v, hX, ho⟩ hm
    exact ⟨v, row_keep hX hm (by omega), own_moves ho hm (by omega)⟩
  case hIx => rintro c xs A B h; exact h.elim
  case assign =>
    rintro l ⟨p, n, ok⟩ A K hK
    gi_wp2
    exact hK
  case body =>
    rintro l pre ⟨q, n, ok⟩ u W hu hpx hrow hg hB ⟨v, hX, ho⟩
    obtain ⟨c0, c1⟩ := row_cells hrow
    have hlen : pre.length ≤ 100000 ∧ q < 2 ^ 53 := by
      have h1 := hpx.length_le
      have h2 := uevs_length 0 (s.data.toList.drop 0)
      have h3 := uevs_mem 0 (s.data.toList.drop 0) _ (hpx.subset (List.mem_append_right _ (List.mem_singleton.2 rfl)))
      rw [List.length_append, List.length_singleton] at h1
      rw [List.length_drop] at h2 h3
      have h4 : s.data.toList.length = s.size := by simp
      simp only at h3
      omega
    have hWz := hB.size
    have hlX := hX.lt
    have hlu := (Array.getElem?_eq_some_iff.1 hrow).1
    have hq := hlen.2
    have hcX := hX.cell
    obtain ⟨o', cap', w6, hrun, hown', hgrow⟩ := begins_own q n ok ho (by omega) (by omega)
    have gX : Boxed ((W.alloc (.cells (unitC q n ok) 36)).alloc (.cells #[.int .i64 (q : Nat)] 3)).drew w.heap.size 30 v := (hX.alloc _).alloc _
    have hbW : Below W.heap.size W ((W.alloc (.cells (unitC q n ok) 36)).alloc (.cells #[.int .i64 (q : Nat)] 3)).drew := (((Below.refl _ _).alloc (Nat.le_refl _) _).alloc (by simp) _).drew
    obtain ⟨hv1, hv2, hr2, hm2⟩ := appended_plain gX (by decide) (own_below ho hbW) hown' hgrow
    have hc1 := hv1.cell
    have hf1 := hv1.frozen
    have hmm : Moves (fun k => k = w.heap.size ∨ ∃ u, Boxed W w.heap.size 30 u ∧ u.ownBlock = some k) W _ := (Moves.of_below hbW).trans (hm2.mono fun k h => h.imp id fun ⟨u, hu, hk⟩ => ⟨_, hX, by rw [boxed_unique gX hu]; exact hk⟩)
    have e1 : (pre ++ [(q, n, ok)]).length = pre.length + 1 := by simp
    have e2 : (pre ++ [(q, n, ok)]).map (fun x => intC x.1) = pre.map (fun x => intC x.1) ++ [intC q] := by simp
    have HR : Hid (Moves (fun k => k = w.heap.size ∨ ∃ u, Boxed W w.heap.size 30 u ∧ u.ownBlock = some k) W (w6.setCell ⟨w.heap.size, 0, none⟩ (.slice o' (pre.length + 1) cap')) ∧
        ∃ v, Boxed (w6.setCell ⟨w.heap.size, 0, none⟩ (.slice o' (pre.length + 1) cap')) w.heap.size 30 v ∧ World.ownsRow (w6.setCell ⟨w.heap.size, 0, none⟩ (.slice o' (pre.length + 1) cap')) (w2.heap.size + 2) 3 1 v (pre ++ [(q, n, ok)]).length ((pre ++ [(q, n, ok)]).map fun x => intC x.1)) :=
      Lib.hid ⟨hmm, _, hv2, by rw [e1, e2]; exact hr2⟩
    obtain ⟨o, cap, rfl⟩ := own_form ho
    have hfol : Tryd.prog.follows .mixedOrders = true := by kernel_rfl
    clear ho hX hown' hgrow gX hbW hv1 hv2 hr2 hm2 hmm e1 e2 hlen hrow
    gi_wp2_with fail
    gi_region_with_o (refine ⟨trivial, ?_⟩; gi_at_call 24; refine CallsIn.inRound l ((callsIn_wide.2 (begin_any q n ok hq _)).mono ?_); rintro e w' ⟨rfl, rfl⟩)
    all_goals exact HR.out
  case done =>
    rintro D W hD ⟨v, hX, ho⟩ hg hB hK
    obtain ⟨i0, hi, hz0, hz1, hz2⟩ := info_parts infoInt
    have hlen : (uevs 0 (s.data.toList.drop 0)).length ≤ 100000 := by
      have h2 := uevs_length 0 (s.data.toList.drop 0)
      rw [List.length_drop] at h2
      have h4 : s.data.toList.length = s.size := by simp
      omega
    have hpl : placesL s.data.toList = (uevs 0 (s.data.toList.drop 0)).map (·.1) ++ [s.size] := by
      unfold placesL
      simp
    have hWz := hB.size
    have hlX := hX.lt
    have hcX := hX.cell
    have hmax : (uevs 0 (s.data.toList.drop 0)).length + 1 ≤ maxLen := by unfold maxLen; omega
    have gX : Boxed (W.alloc (.cells #[intC s.size] 3)) w.heap.size 30 v := hX.alloc _
    have hbW : Below W.heap.size W (W.alloc (.cells #[intC s.size] 3)) := (Below.refl _ _).alloc (Nat.le_refl _) _
    have gK : (W.alloc (.cells #[intC s.size] 3)).heap[D]? = some (.deferred (some [])) := row_below hK hbW
    have HPL := Lib.hid hpl
    obtain ⟨us, hus⟩ : ∃ us, uevs 0 (s.data.toList.drop 0) = us := ⟨_, rfl⟩
    rw [hus] at ho hlen hmax HPL
    clear hpl hus
    replace ho := own_base ho (show w.heap.size + 1 ≤ w2.heap.size + 2 by omega)
    have ho2 := own_below ho hbW
    have HO2 := Lib.hid ho2
    have HGX := Lib.hid gX
    obtain ⟨g', cap', w6, hrun, hown', hgrow⟩ := last_own s.size ho (by omega) (by omega)
    obtain ⟨hv1, hv2, hr2, hm2⟩ := appended_plain gX (by decide) ho2 hown' hgrow
    have hc1 := hv1.cell
    have hf1 := hv1.frozen
    have hcap := own_cap hr2
    have hcap2 : ((us.length : Nat) : Int) + 1 ≤ (cap' : Nat) := by omega
    have hwf : (w6.setCell ⟨w.heap.size, 0, none⟩ (.slice (some ⟨g', 0, none⟩) (us.length + 1) cap')).heap[D]? = some (.deferred (some [])) := row_keep gK hm2 (by
      rintro (h | h)
      · omega
      · exact own_not_def gX ho2 gK h)
    have HR2 := Lib.hid hr2
    have hbf : Below w.heap.size w (w6.setCell ⟨w.heap.size, 0, none⟩ (.slice (some ⟨g', 0, none⟩) (us.length + 1) cap')) := Moves.below (hB.trans (hbW.mono hWz)) (by have := hbW.size; omega) hm2 (by
      rintro k (h | h)
      · omega
      · have := own_far gX ho2 h; omega)
    have HWF := Lib.hid hwf
    have HBF := Lib.hid hbf
    obtain ⟨o, cap, rfl⟩ := own_form ho
    clear ho ho2 gX hX hr2 hm2 hv2 hown' hgrow hwf hbf
    gi_wp2
    refine ⟨by simp, .inl ⟨_, _, rfl, run_takeDeferred HWF.out, ?_⟩⟩
    have hpl2 : (placesL s.data.toList).length = us.length + 1 := by rw [HPL.out]; simp
    have ho3 := own_putdef (d' := none) HR2.out rfl HWF.out
    have hmap : (us.map (fun x => intC x.1) ++ [intC s.size]) = (placesL s.data.toList).map intC := by rw [HPL.out]; simp
    rw [hmap] at ho3
    refine ⟨.slice (some ⟨g', 0, none⟩) (us.length + 1) (us.length + 1), ?_, ⟨⟨g', 0, none⟩, by rw [hpl2], fun i hi => own_cells ho3 i hi, Moves.below HBF.out HBF.out.size (Moves.putObj (S := fun k => k = D) rfl) (fun k e => by omega)⟩⟩
    simp [results, Tryd.f13, go_sem]
  case stop =>
    rintro D c pre W hD hpre h
    exact h.elim
end Go.Proofs.YthnfekilmiodpaaDoor

