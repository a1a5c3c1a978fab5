/- upTo, by where units end. -/
import Derived.Test.YthnfekilmiodpaaDoorBunUMap
namespace Go.Proofs.YthnfekilmiodpaaDoor
open Go.RowKit Go.Shelf
attribute [local go_sem] Oper.semAt_some

theorem key_app_end (q n : Nat) (ok : Bool) (hq : q < 2 ^ 52) (hn : n < 2 ^ 52) (W : World) {kf : Value} {N at_ : Nat} {xs : List (Nat × Nat × Bool)} (h : UpTo keyEnd kf N at_ xs W) (hx : ∀ y ∈ xs, keyEnd y ≠ keyEnd (q, n, ok)) :
    Calls Tryd.prog 25 #[unitV q n ok] W fun e w' => e = .returned (.int .i64 ((q : Nat) + (n : Nat))) ∧ Below W.heap.size W w' ∧
      ∃ es c, (Instr.mapUpdate 63 (.map (some (N + 1 + 1 + 1))) (.int .i64 ((q : Nat) + (n : Nat))) (unitV q n ok)).run Tryd.prog w' = .ok () (w'.putObj (N + 1 + 1 + 1) (.map es c)) ∧ UpTo keyEnd kf N at_ (xs ++ [(q, n, ok)]) (w'.putObj (N + 1 + 1 + 1) (.map es c)) := by
  refine (end_any q n ok hq hn W).mono fun e w' ⟨h1, hb⟩ => ⟨h1, hb, ?_⟩
  have h' : UpTo keyEnd kf N at_ xs w' := h.keep (T := fun _ => False) (Moves.of_below hb) (fun _ _ => id)
  obtain ⟨es, c, hh, hM⟩ := h'.map
  obtain ⟨es', c', hM', hr⟩ := run_store_new w' (N + 1 + 1 + 1) es c hh keyEnd xs hM (q, n, ok) hx
  exact ⟨es', c', hr, h'.stored hM'⟩

set_option maxRecDepth 100000 in
set_option maxHeartbeats 4000000 in
theorem upTo_end (s : ByteArray) (hs : s.size ≤ 50000) (r at_ : Nat) (hr : r ≤ 50000) (w : World) (aU aS : Addr) (hG : Glob w aU aS) :
    Calls Tryd.prog 35 #[.agg (menderC s r), .int .i64 (at_ : Nat), .func (.func 25) #[] #[]] w (UpPost keyEnd (visit at_ (uevs r (s.data.toList.drop r))) w) := by
  refine (callsIn_wide (n := 5)).1 ?_
  have h1 : 1 ≤ 5 := by omega
  refine callsIn_of_wp_marks Tryd.func35 rfl trivial ?_ rfl
  simp only [Tryd.ntmps35, List.size_toArray, List.length_cons, List.length_nil, Nat.reduceAdd, Nat.reduceSub, Array.replicate_succ, Array.replicate_zero, List.push_toArray, List.append_toArray, List.nil_append, List.cons_append]
  have hmm := @run_makeMap Tryd.prog
  gi_wp2_with fail
  refine wpIn_wide.2 (wp_scope_straight ((wpIn_wide (n := 5)).1 ?_))
  gi_wp2_with fail
  refine wpIn_label ?_
  gi_wp2_with fail
  refine ⟨trivial, (callsIn_wide.2 (units_any s r _)).mono ?_⟩
  rintro e w2 ⟨rfl, hw2⟩
  simp only [World.size_alloc] at hw2 ⊢
  clear hmm
  have B2 : Below w.heap.size w w2 := by rw [← hw2]; exact ((((((Below.refl _ _).alloc (Nat.le_refl _) _).alloc (by simp) _).alloc (by simp; omega) _).alloc (by simp; omega) _).alloc (by simp; omega) _).alloc (by simp; omega) _
  have up0 : UpTo keyEnd (.func (.func 25) #[] #[]) w.heap.size at_ [] w2 := by
    rw [← hw2]
    refine ⟨?_, ?_, ?_, ?_⟩
    · have := Boxed.new (w.alloc (.cells (menderC s r) 54)) 3 (.int .i64 (at_ : Nat))
      rw [World.size_alloc] at this
      exact (((this.alloc _).alloc _).alloc _).alloc _
    · have := Boxed.new ((w.alloc (.cells (menderC s r) 54)).alloc (.cells #[.int .i64 (at_ : Nat)] 3)) 49 (.func (.func 25) #[] #[])
      simp only [World.size_alloc] at this
      exact ((this.alloc _).alloc _).alloc _
    · have := Boxed.new ((((w.alloc (.cells (menderC s r) 54)).alloc (.cells #[.int .i64 (at_ : Nat)] 3)).alloc (.cells #[.func (.func 25) #[] #[]] 49)).alloc (.map #[] 0)) 63 (.map (some (w.heap.size + 1 + 1 + 1)))
      simp only [World.size_alloc] at this
      exact this.alloc _
    · refine ⟨#[], 0, ?_, rfl⟩
      have := heap_alloc_new (((w.alloc (.cells (menderC s r) 54)).alloc (.cells #[.int .i64 (at_ : Nat)] 3)).alloc (.cells #[.func (.func 25) #[] #[]] 49)) (.map #[] 0)
      simp only [World.size_alloc] at this
      exact (Below.heap_alloc _ _ _ (by simp)).trans ((Below.heap_alloc _ _ _ (by simp)).trans this)
  have hb : w2.heap[w.heap.size + 1 + 1 + 1 + 1 + 1]? = some (.cells (menderC s r) 54 (0, 0)) := by
    rw [← hw2]
    have := heap_alloc_new (((((w.alloc (.cells (menderC s r) 54)).alloc (.cells #[.int .i64 (at_ : Nat)] 3)).alloc (.cells #[.func (.func 25) #[] #[]] 49)).alloc (.map #[] 0)).alloc (.cells #[.map (some (w.heap.size + 1 + 1 + 1))] 63)) (.cells (menderC s r) 54)
    simpa only [World.size_alloc] using this
  have z2 : w2.heap.size ≤ w.heap.size + 6 ∧ w.heap.size + 6 ≤ w2.heap.size := by rw [← hw2]; simp
  clear hw2
  have hord := uevs_order r (s.data.toList.drop r)
  have hmem := uevs_mem r (s.data.toList.drop r)
  have hll : s.data.toList.length = s.size := by simp
  have HORD := Lib.hid hord
  have HMEM : Hid (∀ x ∈ uevs r (s.data.toList.drop r), x.1 ≤ 200000 ∧ x.2.1 ≤ 4 ∧ 1 ≤ x.2.1) := Lib.hid fun x hx => by
    have := hmem x hx
    rw [List.length_drop] at this
    omega
  clear hord hmem hll
  gi_wp2_with fail
  refine wpIn_units (w0 := w) (b := w.heap.size + 1 + 1 + 1 + 1 + 1) (p := r) (s := s) (aU := aU) (aS := aS) rfl rfl hs hr hb hG B2
    (fun pre W => UpTo keyEnd (.func (.func 25) #[] #[]) w.heap.size at_ pre W ∧ ∀ x ∈ pre, x.1 + x.2.1 ≤ at_)
    (fun c pre W => c = .exit 0 ∧ UpTo keyEnd (.func (.func 25) #[] #[]) w.heap.size at_ pre W ∧ ∃ pre0 x, pre = pre0 ++ [x] ∧ (∀ y ∈ pre0, y.1 + y.2.1 ≤ at_) ∧ at_ < x.1 + x.2.1)
    (fun _ k => k = w.heap.size + 1 + 1 + 1) ?S1 ?S2 ?hI ?hIx ⟨up0, fun x hx => by cases hx⟩
    (fun u x => { tmps := #[.agg (menderC s r), .int .i64 (at_ : Nat), .func (.func 25) #[] #[], .pointer (some ⟨w.heap.size, 0, none⟩), .pointer (some ⟨w.heap.size + 1, 0, none⟩), .pointer (some ⟨w.heap.size + 1 + 1, 0, none⟩), .map none, .pointer (some ⟨w.heap.size + 1 + 1 + 1 + 1, 0, none⟩), .pointer (some ⟨u, 0, none⟩), .map (some (w.heap.size + 1 + 1 + 1)), .agg (menderC s r), .func (.func 37) #[] #[.pointer (some ⟨w.heap.size + 1 + 1 + 1 + 1 + 1, 0, none⟩)], unitV x.1 x.2.1 x.2.2, undef, undef, undef, undef, undef, undef, undef, undef, undef, undef], defers := [] }) ?assign ?body ?done ?stop
  case S1 =>
    rintro xs A k hA ⟨h1, _⟩ rfl
    obtain ⟨es, c, hh, _⟩ := h1.map
    have := (Array.getElem?_eq_some_iff.1 hh).1
    omega
  case S2 => rintro xs A B k h1 hm rfl; rfl
  case hI =>
    rintro xs A B ⟨h1, h2⟩ hm
    exact ⟨h1.keep hm (by omega), h2⟩
  case hIx =>
    rintro c xs A B ⟨rfl, h1, h2⟩ hm
    exact ⟨rfl, h1.keep hm (by omega), h2⟩
  case assign =>
    rintro l ⟨p, n, ok⟩ A K hK
    gi_wp2
    exact hK
  case body =>
    rintro l pre ⟨q, n, ok⟩ u W hu hpx hrow hg hB ⟨hUp, hle⟩
    have hbq := HMEM.out _ (hpx.subset (List.mem_append_right _ (List.mem_singleton.2 rfl)))
    have hoq := HORD.out _ _ hpx
    simp only at hbq hoq
    have hfresh : ∀ y ∈ pre, keyEnd y ≠ keyEnd (q, n, ok) := by
      intro y hy
      have := hoq y hy
      unfold keyEnd
      simp only
      omega
    have hq1 : q < 2 ^ 52 := by omega
    have hn1 : n < 2 ^ 52 := by omega
    obtain ⟨c0, c1⟩ := row_cells hrow
    have hlu := (Array.getElem?_eq_some_iff.1 hrow).1
    have hcv := Boxed.cell hUp.var
    have hck := Boxed.cell hUp.kfn
    have hfol : Tryd.prog.follows .mixedOrders = true := by kernel_rfl
    have hUpD : UpTo keyEnd (.func (.func 25) #[] #[]) w.heap.size at_ pre W.drew := hUp.keep (T := fun _ => False) (Moves.refl _ _).drew (fun _ _ => id)
    have HUPD := Lib.hid hUpD
    have hrowD : W.drew.heap[u]? = some (.cells (unitC q n ok) 36 (0, 0)) := hrow
    have HROWD := Lib.hid hrowD
    clear hUpD hrowD
    have HROW := Lib.hid hrow
    have HFR := Lib.hid hfresh
    have HLE := Lib.hid hle
    clear hUp hrow hfresh hle hoq hbq
    gi_wp2_with fail
    refine wpIn_mono (Q := fun e a' w5 => e = .normal ∧ a' = { tmps := #[.agg (menderC s r), .int .i64 (at_ : Nat), .func (.func 25) #[] #[], .pointer (some ⟨w.heap.size, 0, none⟩), .pointer (some ⟨w.heap.size + 1, 0, none⟩), .pointer (some ⟨w.heap.size + 1 + 1, 0, none⟩), .map none, .pointer (some ⟨w.heap.size + 1 + 1 + 1 + 1, 0, none⟩), .pointer (some ⟨u, 0, none⟩), .map (some (w.heap.size + 1 + 1 + 1)), .agg (menderC s r), .func (.func 37) #[] #[.pointer (some ⟨w.heap.size + 1 + 1 + 1 + 1 + 1, 0, none⟩)], unitV q n ok, .map (some (w.heap.size + 1 + 1 + 1)), .func (.func 25) #[] #[], unitV q n ok, .int .i64 ((q : Nat) + (n : Nat)), unitV q n ok, undef, undef, undef, undef, undef], defers := [] } ∧
      w5.heap[u]? = some (.cells (unitC q n ok) 36 (0, 0)) ∧ Moves (fun k => k = w.heap.size + 1 + 1 + 1) W w5 ∧ UpTo keyEnd (.func (.func 25) #[] #[]) w.heap.size at_ (pre ++ [(q, n, ok)]) w5) ?_ ?_
    · gi_region_with_o (refine ⟨trivial, ?_⟩; gi_at_call 25; refine CallsIn.inRound l ((callsIn_wide.2 (key_app_end q n ok hq1 hn1 _ HUPD.out HFR.out)).mono ?_); rintro e w' ⟨rfl, hb4, es, c, hup, hU5⟩; obtain ⟨w5, hw5⟩ : ∃ w5, w'.putObj (w.heap.size + 1 + 1 + 1) (.map es c) = w5 := ⟨_, rfl⟩; rw [hw5] at hup hU5; have hr4 := row_below HROWD.out hb4; obtain ⟨d0, d1⟩ := row_cells hr4; have hv4 := Boxed.cell (UpTo.keep (T := fun _ => False) HUPD.out (Moves.of_below hb4) (fun _ _ => id)).var; have HR4 := Lib.hid hr4; have HW5 := Lib.hid hw5; have HU5 := Lib.hid hU5; have HB4 := Lib.hid hb4; clear hr4 hw5 hU5 hb4)
      all_goals
        refine ⟨rfl, rfl, ?_, ?_, HU5.out⟩
        · rw [← HW5.out]
          exact (World.putObj_heap_other (by omega)).trans HR4.out
        · rw [← HW5.out]
          exact ((Moves.refl _ _).drew.trans (Moves.of_below HB4.out)).trans (Moves.putObj rfl)
    · rintro e a' w5 ⟨rfl, rfl, hr5, hm5, hU5⟩
      obtain ⟨e0, e1⟩ := row_cells hr5
      have hcp := Boxed.cell hU5.place
      have hcl := Boxed.lt hU5.place
      have hcl1 : w.heap.size < w5.heap.size := by omega
      have hcl2 : w.heap.size < w5.heap.size + 1 := by omega
      have hul := (Array.getElem?_eq_some_iff.1 hr5).1
      have HM5 := Lib.hid hm5
      have HU5 := Lib.hid hU5
      have A6 : Hid (Below w5.heap.size w5 (((w5.alloc (.cells (unitC q n ok) 36)).alloc (.cells (unitC q n ok) 36)).alloc (.cells (unitC q n ok) 36)).drew.drew) := Lib.hid ((((Below.refl _ _).alloc (Nat.le_refl _) _).alloc (by simp) _).alloc (by simp; omega) _).drew.drew
      clear hr5 hm5 hU5 c0 c1 hcv hck
      by_cases hlt : at_ < q + n
      · have hcmp : ((at_ : Nat) : Int) < ((q : Nat) : Int) + ((n : Nat) : Int) := by omega
        have HLT := Lib.hid hlt
        clear hlt
        gi_wp2_with fail
        gi_region_with_o (refine ⟨trivial, ?_⟩; gi_at_call 25; refine CallsIn.inRound l ((callsIn_wide.2 (end_exact q n ok hq1 hn1 _)).mono ?_); rintro e w6 ⟨rfl, rfl⟩)
        all_goals
          gi_wp2
          exact ⟨HM5.out.trans (Moves.of_below A6.out), rfl, HU5.out.keep (T := fun _ => False) (Moves.of_below A6.out) (fun _ _ => id), pre, (q, n, ok), rfl, HLE.out, HLT.out⟩
      · have hcmp : ¬ ((at_ : Nat) : Int) < ((q : Nat) : Int) + ((n : Nat) : Int) := by omega
        have HLT := Lib.hid hlt
        clear hlt
        gi_wp2_with fail
        gi_region_with_o (refine ⟨trivial, ?_⟩; gi_at_call 25; refine CallsIn.inRound l ((callsIn_wide.2 (end_exact q n ok hq1 hn1 _)).mono ?_); rintro e w6 ⟨rfl, rfl⟩)
        all_goals
          gi_wp2
          refine ⟨HM5.out.trans (Moves.of_below A6.out), HU5.out.keep (T := fun _ => False) (Moves.of_below A6.out) (fun _ _ => id), ?_⟩
          intro x hx
          rcases List.mem_append.1 hx with hx | hx
          · exact HLE.out x hx
          · obtain rfl := List.mem_singleton.1 hx
            have := HLT.out
            show q + n ≤ at_
            omega
  case done =>
    rintro D W hD ⟨hUp, hle⟩ hg hB hK
    have hcv := Boxed.cell hUp.var
    obtain ⟨es, c, hh, hM⟩ := hUp.map
    have hv := visit_all at_ _ hle
    have HP : Hid (UpPost keyEnd (visit at_ (uevs r (s.data.toList.drop r))) w (.returned (.map (some (w.heap.size + 1 + 1 + 1)))) (W.putObj D (.deferred none))) := Lib.hid ⟨_, es, c, rfl, (World.putObj_heap_other (by omega)).trans hh, by rw [hv]; exact hM, Moves.below hB hB.size (Moves.putObj (S := fun k => k = D) rfl) (fun k e => by have := hB.size; omega)⟩
    clear hUp hle hh hM hv
    gi_wp2
    rw [Exit.noGoto_ret]
    refine ⟨by simp, .inl ⟨_, _, rfl, run_takeDeferred hK, ?_⟩⟩
    refine ⟨_, ?_, HP.out⟩
    simp [results, Tryd.f35, go_sem]
  case stop =>
    rintro D c pre W hD hpre ⟨rfl, hUp, pre0, x, rfl, hle, hlt⟩ hg hB hK
    have hcv := Boxed.cell hUp.var
    obtain ⟨es, c, hh, hM⟩ := hUp.map
    obtain ⟨zs, hzs⟩ := hpre
    have hv : visit at_ (uevs r (s.data.toList.drop r)) = pre0 ++ [x] := by
      rw [← hzs, List.append_assoc]
      exact visit_stop at_ x zs hlt pre0 hle
    have HP : Hid (UpPost keyEnd (visit at_ (uevs r (s.data.toList.drop r))) w (.returned (.map (some (w.heap.size + 1 + 1 + 1)))) (W.putObj D (.deferred none))) := Lib.hid ⟨_, es, c, rfl, (World.putObj_heap_other (by omega)).trans hh, by rw [hv]; exact hM, Moves.below hB hB.size (Moves.putObj (S := fun k => k = D) rfl) (fun k e => by have := hB.size; omega)⟩
    clear hUp hle hh hM hv hzs hlt
    gi_wp2
    rw [Exit.noGoto_ret]
    refine ⟨by simp, .inl ⟨_, _, rfl, run_takeDeferred hK, ?_⟩⟩
    refine ⟨_, ?_, HP.out⟩
    simp [results, Tryd.f35, go_sem]
end Go.Proofs.YthnfekilmiodpaaDoor

