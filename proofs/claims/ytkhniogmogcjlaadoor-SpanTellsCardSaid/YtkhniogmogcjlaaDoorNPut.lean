/- put: a range at its place, unless it laps. -/
import Derived.Test.YtkhniogmogcjlaaDoorNIns
import Derived.Test.YtkhniogmogcjlaaDoorNReach
namespace Go.Proofs.YtkhniogmogcjlaaDoor
open Go.RowKit Go.Shelf Go.Maps

theorem Moves.of_grown {w w' : World} {row : Option Nat} (h : w.grownBy w' row) : Moves (fun k => some k = row) w w' := ⟨h.os, h.tape, h.output, h.size, fun k hk hr => h.block k hk hr⟩
theorem own_moves1 {A B : World} {base : Nat} {e : TypeId} {size : Nat} {v : Value} {n : Nat} {xs : List Value} {S : Nat → Prop} (h : A.ownsRow base e size v n xs) (hm : Moves S A B) (hS : ∀ k, v.ownBlock = some k → ¬ S k) : B.ownsRow base e size v n xs := by
  refine ⟨h.1, ?_⟩
  rcases h.2 with hn | ⟨g, cap, cur, rfl, hg, hh, rest⟩
  · exact .inl hn
  · exact .inr ⟨g, cap, cur, rfl, hg, (hm.block _ (Array.getElem?_eq_some_iff.1 hh).1 (hS g (by simp [Value.ownBlock]))).trans hh, rest⟩
/-- Some range has a number that x has. -/
def lapL (l : List Rng) (x : Rng) : Prop := ∃ y ∈ l, y.1 ≤ x.2.1 ∧ x.1 ≤ y.2.1
theorem lap_at {l : List Rng} {x : Rng} (hl : mapL l) : (∃ z, l[reachL l x.1]? = some z ∧ z.1 ≤ x.2.1) ↔ lapL l x := by
  constructor
  · rintro ⟨z, hz, h1⟩
    have := reach_at hz
    exact ⟨z, List.mem_of_getElem? hz, h1, by omega⟩
  · rintro ⟨y, hy, h1, h2⟩
    obtain ⟨j, hj⟩ := List.mem_iff_getElem?.1 hy
    have hjr : reachL l x.1 ≤ j := by
      rcases Nat.lt_or_ge j (reachL l x.1) with h | h
      · have := reach_lt h hj; omega
      · exact h
    have hlt := (List.getElem?_eq_some_iff.1 hj).1
    obtain ⟨z, hz⟩ : ∃ z, l[reachL l x.1]? = some z := ⟨_, List.getElem?_eq_getElem (by omega)⟩
    refine ⟨z, hz, ?_⟩
    rcases Nat.lt_or_ge (reachL l x.1) j with h | h
    · obtain ⟨i1, e1⟩ := List.getElem?_eq_some_iff.1 hz
      obtain ⟨i2, e2⟩ := List.getElem?_eq_some_iff.1 hj
      have h3 := List.pairwise_iff_getElem.1 hl.2 _ _ i1 i2 h
      rw [e1, e2] at h3
      have h4 := hl.1 z (List.mem_of_getElem? hz)
      unfold okR at h4
      omega
    · obtain rfl : reachL l x.1 = j := by omega
      rw [hz] at hj
      cases hj
      exact h1
def putAt (l : List Rng) (x : Rng) : List Rng := insAt l (reachL l x.1) x
/-- What put leaves. -/
def PutPost (l : List Rng) (x : Rng) (base m : Nat) (v : Value) (w : World) (e : Ending) (w' : World) : Prop :=
  (lapL l x ∧ e = .returned (.bool false) ∧ Below w.heap.size w w') ∨
  (¬ lapL l x ∧ e = .returned (.bool true) ∧ ∃ g cap, w'.heap[m]? = some (layerO (some ⟨g, 0, none⟩) (l.length + 1) cap) ∧ w'.ownsRow base 38 3 (.slice (some ⟨g, 0, none⟩) (l.length + 1) cap) (l.length + 1) (cellsR (putAt l x)) ∧
    Moves (fun k => k = m ∨ v.ownBlock = some k) w w' ∧ (v.ownBlock = some g ∨ w.heap.size ≤ g))
set_option maxRecDepth 100000 in
set_option maxHeartbeats 2000000 in
theorem put_any {o : Option Addr} {l : List Rng} {cap base m : Nat} (x : Rng) (w : World) (hm : w.heap[m]? = some (layerO o l.length cap)) (ho : w.ownsRow base 38 3 (.slice o l.length cap) l.length (cellsR l)) (hl : mapL l) (hn : l.length ≤ 10000) (hbase : base ≤ w.heap.size) :
    Calls Tryd.prog 41 #[.pointer (some ⟨m, 0, none⟩), rngV x] w (PutPost l x base m (.slice o l.length cap) w) := by
  have hml : m < w.heap.size := (Array.getElem?_eq_some_iff.1 hm).1
  have hap : ∀ g, (Value.slice o l.length cap).ownBlock = some g → g < w.heap.size ∧ ¬ g = m := fun g hg => by
    rcases ho.2 with ⟨h, _⟩ | ⟨g', cap', cur, h, _, hh, _⟩
    · rw [h] at hg; simp [Value.ownBlock] at hg
    · rw [h] at hg
      obtain rfl : g' = g := by simpa [Value.ownBlock] using hg
      refine ⟨(Array.getElem?_eq_some_iff.1 hh).1, ?_⟩
      rintro rfl
      rw [hm] at hh
      injection hh with hh
      injection hh with _ ht _
      exact absurd ht (by decide)
  obtain ⟨w1, hw1⟩ : ∃ w1, w.alloc (rngO x) = w1 := ⟨_, rfl⟩
  have A1 : Below w.heap.size w w1 := by rw [← hw1]; exact (Below.refl _ _).alloc (Nat.le_refl _) _
  have z1 : w1.heap.size = w.heap.size + 1 := by rw [← hw1]; simp
  have x1 : w1.heap[w.heap.size]? = some (rngO x) := by rw [← hw1]; exact heap_alloc_new _ _
  have m1 := row_below hm A1
  have o1 := own_below ho A1
  obtain ⟨n, hnn⟩ : ∃ n, l.length = n := ⟨_, rfl⟩
  obtain ⟨i, hii⟩ : ∃ i, reachL l x.1 = i := ⟨_, rfl⟩
  have hin : i ≤ n := by rw [← hnn, ← hii]; exact reach_le l x.1
  have hre := fun W (hA : AtR W o l) => reach_any o l cap x.1 (by omega) hl W hA
  have hlap := lap_at (x := x) hl
  obtain ⟨P, hP⟩ : ∃ P, PutPost l x base m (.slice o l.length cap) w = P := ⟨_, rfl⟩
  have HP := Lib.hid hP
  rw [hP]
  rw [hii] at hlap
  rw [hnn, hii] at hre
  rw [hnn] at m1 hn
  have HRE := Lib.hid hre
  have HLAP := Lib.hid hlap
  have HA1 := Lib.hid A1
  have HX1 := Lib.hid x1
  have HM1 := Lib.hid m1
  have HO1 := Lib.hid o1
  have HN := Lib.hid hnn
  have HII := Lib.hid hii
  have HW1 := Lib.hid hw1
  have HAP := Lib.hid hap
  obtain ⟨a, b, v⟩ := x
  simp only at HRE HX1 HW1
  have cm : w1.cell? ⟨m, 0, none⟩ = some (.slice o n cap) := by rw [cell_of_row _ _ 0 _ _ _ m1]; rfl
  obtain ⟨q0, q1, q2, _⟩ := rng_cells x1
  simp only at q0 q1 q2
  clear hP hlap hre A1 x1 m1 o1 hm ho hl hii hw1 hap
  go_enter Tryd.func41, Tryd.ntmps41
  go_wp2_with fail
  rw [HW1.out]
  go_wp2_with fail
  have hA1 : AtR w1.drew o l := at_own (by rw [HN.out]; have := HO1.out; rw [HN.out] at this; exact this)
  have HRC := Lib.hid (HRE.out w1.drew hA1)
  clear hA1
  go_region_with (go_at_call 50; refine HRC.out.mono ?_; rintro e w2 ⟨rfl, b2⟩)
  all_goals
    go_simp
    have B2 : Below w1.heap.size w1 w2 := (show Below w1.heap.size w1 w1.drew from (Below.refl _ _).drew).trans b2
    have HB2 := Lib.hid B2
    have m2 := row_below HM1.out B2
    have x2 := row_below HX1.out B2
    have o2 := own_below HO1.out B2
    have cm2 : w2.cell? ⟨m, 0, none⟩ = some (.slice o n cap) := by rw [cell_of_row _ _ 0 _ _ _ m2]; rfl
    obtain ⟨r0, r1, r2, _⟩ := rng_cells x2
    simp only at r0 r1 r2
    have HO2 := Lib.hid o2
    have HM2 := Lib.hid m2
    clear b2 B2 m2 x2 o2 cm q0 q1 q2 HRC
    have HAT : Hid (AtR w2 o l) := Lib.hid (at_own HO2.out)
    have HPF : lapL l (a, b, v) → ∀ q, Hid (P (.returned (.bool false)) (w2.drewN q)) := fun h q => by
      rw [← HP.out]
      exact Lib.hid (.inl ⟨h, rfl, (HA1.out.trans (HB2.out.mono (by omega))).trans (Moves.below (Below.refl _ _) (by have := HB2.out.size; omega) (moves_drewN1 _ _) (fun k h => h.elim))⟩)
    rcases Nat.lt_or_ge i n with hlt | hge
    focus
      obtain ⟨z, hz⟩ : ∃ z, l[i]? = some z := ⟨_, List.getElem?_eq_getElem (by rw [HN.out]; exact hlt)⟩
      obtain ⟨g, off, rfl, hc⟩ := HAT.out (by rw [HN.out]; omega)
      obtain ⟨k0, _, _⟩ := hc i z hz
      have hgl := World.block_lt_of_cell? w2 _ k0
      have HZ := Lib.hid hz
      obtain ⟨za, zb, zv⟩ := z
      simp only at k0
      clear hc hz
      by_cases hzb : za ≤ b
      focus
        have HPG := HPF (HLAP.out.1 ⟨_, HZ.out, hzb⟩)
        clear HPF
        go_wp2_with fail
        go_quiet (fail)
        go_wp2
        exact (HPG _).out
      have hno : ¬ lapL l (a, b, v) := fun h => by
        obtain ⟨z', hz', h'⟩ := HLAP.out.2 h
        rw [HZ.out] at hz'
        cases hz'
        exact hzb h'
      have HNO := Lib.hid hno
      clear hno HPF
      go_wp2_with fail
      go_quiet (fail)
      go_wp2_with fail
      clear k0 HZ HAT
      obtain ⟨o, hoo⟩ : ∃ o : Option Addr, some ⟨g, off, none⟩ = o := ⟨_, rfl⟩
      rw [hoo] at HO1 HAP HP HO2 HM1 HRE cm2 HM2 ⊢
    rotate_left 1
    focus
      have hie : n = i := by omega
      subst hie
      have hno : ¬ lapL l (a, b, v) := fun h => by
        obtain ⟨z', hz', h'⟩ := HLAP.out.2 h
        have := (List.getElem?_eq_some_iff.1 hz').1
        rw [HN.out] at this
        omega
      have HNO := Lib.hid hno
      clear hno HPF HAT
      go_wp2_with fail
      go_quiet (fail)
      go_wp2_with fail
    all_goals
      obtain ⟨w3, hw3⟩ : ∃ w3, w2.drewN nq = w3 := ⟨_, rfl⟩
      have D3 : Below w2.heap.size w2 w3 := by rw [← hw3]; exact Moves.below (Below.refl _ _) (Nat.le_refl _) (moves_drewN1 _ _) (fun k h => h.elim)
      have z3 : w2.heap.size = w3.heap.size := by rw [← hw3]; rfl
      rw [hw3]
      have B3 : Below w1.heap.size w1 w3 := HB2.out.trans (D3.mono HB2.out.size)
      have HB3 := Lib.hid B3
      have m3 := row_below HM2.out D3
      have x3 := row_below HX1.out B3
      have o3 := own_below HO2.out D3
      have cm3 : w3.cell? ⟨m, 0, none⟩ = some (.slice o n cap) := by rw [cell_of_row _ _ 0 _ _ _ m3]; rfl
      obtain ⟨s0, s1, s2, _⟩ := rng_cells x3
      simp only at s0 s1 s2
      have zb := B3.size
      have hm3l : m < w3.heap.size := by omega
      have A4 : Below w3.heap.size w3 (w3.drew.alloc (rngO (a, b, v))) := (Below.refl _ _).drew.alloc (Nat.le_refl _) _
      have o4 := own_below o3 A4
      have hins := ins_any (e := w3.heap.size) (i := reachL l a) (a, b, v) (w3.drew.alloc (rngO (a, b, v))) o4 (by rw [HN.out]; omega) (by have := A4.size; omega) (reach_le l a) (fun g hg => by have := (HAP.out g hg).1; omega) (heap_alloc_new w3.drew _)
      rw [HN.out, HII.out] at hins
      have m4 := row_below m3 A4
      have HINS := Lib.hid hins
      have HM4 := Lib.hid m4
      have HA4 := Lib.hid A4
      have HO4 := Lib.hid o4
      clear hw3 D3 B3 m3 x3 o3 A4 o4 hins m4 r0 r1 r2 cm2
      refine wp_region_any (by kernel_rfl) ?_
      try (change wpAny _ _ _ _ _ _ _ (World.drew _))
      refine wpAny_take (i := 0) (v := ?_) rfl (by kernel_rfl) (by kernel_rfl) (by kernel_rfl) (fun _ _ _ h => h) (Or.inl ⟨by kernel_rfl, ?_⟩) ?_
      rotate_left 1
      · (intro w; first | (go_simp; done) | (go_simp; with_reducible rfl))
      refine wpAny_take (i := 1) (v := ?_) rfl (by kernel_rfl) (by kernel_rfl) (by kernel_rfl) (fun _ _ _ h => h) (Or.inl ⟨by kernel_rfl, ?_⟩) ?_
      rotate_left 1
      · (intro w; first | (go_simp; done) | (go_simp; with_reducible rfl))
      refine wpAny_take (i := 2) (v := ?_) rfl (by kernel_rfl) (by kernel_rfl) (by kernel_rfl) (fun _ _ _ h => h) (Or.inl ⟨by kernel_rfl, ?_⟩) ?_
      rotate_left 1
      · (intro w; first | (go_simp; done) | (go_simp; with_reducible rfl))
      refine wpAny_take (i := 3) (v := ?_) rfl (by kernel_rfl) (by kernel_rfl) (by kernel_rfl) (fun _ _ _ h => h) (Or.inl ⟨by kernel_rfl, ?_⟩) ?_
      rotate_left 1
      · (intro w; first | (go_simp; done) | (go_simp; with_reducible rfl))
      refine wpAny_take (i := 4) (v := ?_) rfl (by kernel_rfl) (by kernel_rfl) (by kernel_rfl) (fun _ _ _ h => h) (Or.inl ⟨by kernel_rfl, ?_⟩) ?_
      rotate_left 1
      · (intro w; first | (go_simp; done) | (go_simp; with_reducible rfl))
      refine wpAny_take (i := 6) (v := ?_) rfl (by kernel_rfl) (by kernel_rfl) (by kernel_rfl) (fun _ _ _ h => h) (Or.inl ⟨by kernel_rfl, ?_⟩) ?_
      rotate_left 1
      · (intro w; first | (go_simp; done) | (go_simp; with_reducible rfl))
      refine wpAny_ready (rs := [5, 7]) (by kernel_rfl) (by simp) ?_
      refine AllReady.cons (o := { dst := some 39, op := .load 22 (.tmp 38), type := 22, pos := _, after := _, guard := none }) rfl ?_ ?_
      rotate_left 1
      refine AllReady.cons (o := { dst := some 41, op := .load 38 (.tmp 3), type := 38, pos := _, after := _, guard := none }) rfl ?_ AllReady.nil
      focus
        intro K hK
        rw [if_pos (by rfl)]
        go_wp2_with fail
        refine wpAny_ready (rs := [5, 8]) (by kernel_rfl) (by simp) ?_
        refine AllReady.cons (o := { dst := some 39, op := .load 22 (.tmp 38), type := 22, pos := _, after := _, guard := none }) rfl ?_ ?_
        rotate_left 1
        refine AllReady.cons (o := { dst := some 42, op := .buildSlice 22 1 #[(0, .tmp 41)], type := 22, pos := _, after := _, guard := none }) rfl ?_ AllReady.nil
        focus
          intro K hK
          rw [if_pos (by rfl)]
          go_wp2_with fail
          refine wpAny_ready (rs := [5]) (by kernel_rfl) (by simp) ?_
          refine AllReady.cons (o := { dst := some 39, op := .load 22 (.tmp 38), type := 22, pos := _, after := _, guard := none }) rfl ?_ AllReady.nil
          intro K hK
          rw [if_pos (by rfl)]
          go_wp2_with fail
        rotate_left 1
        focus
          intro K hK
          rw [if_pos (by rfl)]
          go_wp2_with fail
          refine wpAny_ready (rs := [8]) (by kernel_rfl) (by simp) ?_
          refine AllReady.cons (o := { dst := some 42, op := .buildSlice 22 1 #[(0, .tmp 41)], type := 22, pos := _, after := _, guard := none }) rfl ?_ AllReady.nil
          intro K hK
          rw [if_pos (by rfl)]
          go_wp2_with fail
      rotate_left 2
      focus
        intro K hK
        rw [if_pos (by rfl)]
        go_wp2_with fail
        refine wpAny_ready (rs := [7]) (by kernel_rfl) (by simp) ?_
        refine AllReady.cons (o := { dst := some 41, op := .load 38 (.tmp 3), type := 38, pos := _, after := _, guard := none }) rfl ?_ AllReady.nil
        intro K hK
        rw [if_pos (by rfl)]
        go_wp2_with fail
        refine wpAny_ready (rs := [8]) (by kernel_rfl) (by simp) ?_
        refine AllReady.cons (o := { dst := some 42, op := .buildSlice 22 1 #[(0, .tmp 41)], type := 22, pos := _, after := _, guard := none }) rfl ?_ AllReady.nil
        intro K hK
        rw [if_pos (by rfl)]
        go_wp2_with fail
      all_goals
        refine wpAny_ready (rs := [9]) (by kernel_rfl) (by simp) ?_
        refine AllReady.cons rfl (fun K hK => ?_) AllReady.nil
        go_simp
        go_wp2_with (go_at_call 51; refine HINS.out.mono ?_; rintro e w5 ⟨g5, cap5, rfl, own5, gr5, hat5⟩)
        have hne : ∀ hh : (Value.slice o n cap).ownBlock = some m, False := fun hh => (HAP.out m (by rw [HN.out]; exact hh)).2 rfl
        have m5 : w5.heap[m]? = some (layerO o n cap) := (gr5.block _ (Array.getElem?_eq_some_iff.1 HM4.out).1 (fun hh => hne hh.symm)).trans HM4.out
        have cm5 : w5.cell? ⟨m, 0, none⟩ = some (.slice o n cap) := by rw [cell_of_row _ _ 0 _ _ _ m5]; rfl
        have fm5 : w5.frozen? ⟨m, 0, none⟩ = false := frozen_of_row _ _ _ _ _ m5
        have hg5 : ¬ g5 = m := by
          rintro rfl
          rcases hat5 with h | h
          · exact hne h
          · have := HA4.out.size; omega
        have hms : Moves (fun k => k = m) w5 (w5.setCell ⟨m, 0, none⟩ (.slice (some ⟨g5, 0, none⟩) (n + 1) cap5)) := Moves.setCell rfl
        have HPT : Hid (P (.returned (.bool true)) (w5.setCell ⟨m, 0, none⟩ (.slice (some ⟨g5, 0, none⟩) (n + 1) cap5))) := by
          rw [← HP.out]
          refine Lib.hid (.inr ⟨HNO.out, rfl, g5, cap5, ?_, ?_, ?_, ?_⟩)
          · rw [heap_setCell_same _ _ 0 _ _ _ m5, HN.out]; rfl
          · rw [HN.out]
            refine own_moves1 (base := base) ?_ hms (fun k hk => ?_)
            · rw [HN.out] at own5
              rw [show putAt l (a, b, v) = insAt l _ (a, b, v) from by unfold putAt; rw [HII.out]]
              exact own5
            · have : g5 = k := by simpa [Value.ownBlock] using hk
              omega
          · refine ((Moves.of_below (HA1.out.trans ((HB3.out.trans (HA4.out.mono zb)).mono (by omega)))).trans (Moves.of_grown gr5 |>.mono fun k hk => ?_)).trans (hms.mono fun k hk => .inl hk)
            exact .inr (by rw [HN.out]; exact hk.symm)
          · rcases hat5 with h | h
            · exact .inl (by rw [HN.out]; exact h)
            · exact .inr (by have := HA4.out.size; omega)
        clear own5 gr5 hat5 hne m5 hg5 hms
        refine wpAny_take (i := 10) (v := ?_) rfl (by kernel_rfl) (by kernel_rfl) (by kernel_rfl) (fun _ _ _ h => h) (Or.inl ⟨by kernel_rfl, ?_⟩) ?_
        rotate_left 1
        · (intro w; first | (go_simp; done) | (go_simp; with_reducible rfl))
        refine wpAny_take (i := 11) (v := ?_) rfl (by kernel_rfl) (by kernel_rfl) (by kernel_rfl) (fun _ _ _ h => h) (Or.inl ⟨by kernel_rfl, ?_⟩) ?_
        rotate_left 1
        · (intro w; first | (go_simp; done) | (go_simp; with_reducible rfl))
        refine wpAny_take (i := 12) (v := ?_) rfl (by kernel_rfl) (by kernel_rfl) (by kernel_rfl) (fun _ _ _ h => h) (Or.inl ⟨by kernel_rfl, ?_⟩) ?_
        rotate_left 1
        · (intro w; first | (go_simp; done) | (go_simp; with_reducible rfl))
        refine wpAny_ready (rs := [13]) (by kernel_rfl) (by simp) ?_
        refine AllReady.cons rfl (fun K hK => ?_) AllReady.nil
        go_simp
        go_wp2_with fail
        refine wpAny_done (by kernel_rfl) ?_ _
        go_simp
        go_wp2
        exact HPT.out
end Go.Proofs.YtkhniogmogcjlaaDoor
