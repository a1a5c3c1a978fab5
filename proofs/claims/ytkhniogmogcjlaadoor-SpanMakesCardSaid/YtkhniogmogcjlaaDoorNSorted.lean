/- sorted: ranges, put at their places one by one. -/
import Derived.Test.YtkhniogmogcjlaaDoorNMap
import Derived.Test.YtkhniogmogcjlaaDoorNLay
import Derived.Test.YtkhniogmogcjlaaDoorNQuiet
namespace Go.Proofs.YtkhniogmogcjlaaDoor
open Go.RowKit Go.Shelf Go.Maps
attribute [local go_sem] Oper.semAt_some

theorem put_map {m : List Rng} {x : Rng} (hm : mapL m) (hx : okR x) (hno : ¬ lapL m x) : mapL (putAt m x) ∧ (putAt m x).Perm (x :: m) := by
  have hperm : (putAt m x).Perm (x :: m) := by
    unfold putAt insAt
    have h1 : (m.take (reachL m x.1) ++ [x] ++ m.drop (reachL m x.1)).Perm (x :: (m.take (reachL m x.1) ++ m.drop (reachL m x.1))) := by
      rw [List.append_assoc]
      exact List.perm_middle
    rwa [List.take_append_drop] at h1
  refine ⟨⟨fun y hy => ?_, ?_⟩, hperm⟩
  · rcases List.mem_cons.1 (hperm.mem_iff.1 hy) with rfl | h
    · exact hx
    · exact hm.1 y h
  · have hlow : ∀ y ∈ m.take (reachL m x.1), y.2.1 < x.1 := fun y hy => by
      obtain ⟨i, hi⟩ := List.mem_iff_getElem?.1 hy
      have hlt := (List.getElem?_eq_some_iff.1 hi).1
      rw [List.length_take] at hlt
      rw [List.getElem?_take_of_lt (by omega)] at hi
      exact reach_lt (by omega) hi
    have hup : ∀ y ∈ m.drop (reachL m x.1), x.2.1 < y.1 := fun y hy => by
      obtain ⟨i, hi⟩ := List.mem_iff_getElem?.1 hy
      rw [List.getElem?_drop] at hi
      have hl := (List.getElem?_eq_some_iff.1 hi).1
      obtain ⟨z, hz⟩ : ∃ z, m[reachL m x.1]? = some z := ⟨_, List.getElem?_eq_getElem (by omega)⟩
      have h1 := reach_at hz
      have h2 := ends_asc hm.2 (fun x hx => (hm.1 x hx).2.1) (by omega) hz hi
      have hym := List.mem_of_getElem? hi
      rcases Int.lt_or_le x.2.1 y.1 with h | h
      · exact h
      · exact absurd ⟨y, hym, h, by omega⟩ hno
    unfold putAt insAt
    have hsp := hm.2
    rw [← List.take_append_drop (reachL m x.1) m, List.pairwise_append] at hsp
    refine List.pairwise_append.2 ⟨List.pairwise_append.2 ⟨hsp.1, List.pairwise_singleton _ _, fun a ha b hb => ?_⟩, hsp.2.1, fun a ha b hb => ?_⟩
    · rw [List.mem_singleton.1 hb]; exact hlow a ha
    · rcases List.mem_append.1 ha with h | h
      · exact hsp.2.2 a h b hb
      · rw [List.mem_singleton.1 h]; exact hup b hb
def SortPost (l : List Rng) (w : World) (e : Ending) (w' : World) : Prop :=
  Below w.heap.size w w' ∧ ((∃ i : Nat, chkL l = some i ∧ e = .returned (.tuple #[.slice none 0 0, faultV 22 (i : Nat)])) ∨
    (chkL l = none ∧ ∃ (i : Nat) (x : Rng) (m : List Rng), l[i]? = some x ∧ mapL m ∧ m.Perm (l.take i) ∧ lapL m x ∧ e = .returned (.tuple #[.slice none 0 0, faultV 30 (i : Nat)])) ∨
    (chkL l = none ∧ ∃ (m : List Rng) (o : Option Addr), mapL m ∧ m.Perm l ∧ e = .returned (.tuple #[.slice o m.length m.length, .nilIface]) ∧ AtR w' o m))
/-- What holds between two rounds. -/
structure SortInv (w8 : World) (mb eb : Nat) (l : List Rng) (X : Nat → Prop) (j : Nat) (W : World) (m : List Rng) (o : Option Addr) (cap : Nat) (err : Value) : Prop where
  far : ∀ k, X k → w8.heap.size ≤ k
  kept : Moves (fun k => k = mb ∨ k = eb) w8 W
  box : W.heap[mb]? = some (layerO o m.length cap)
  eb : Boxed W eb 48 err
  row : W.ownsRow w8.heap.size 38 3 (.slice o m.length cap) m.length (cellsR m)
  notX : ∀ k, (Value.slice o m.length cap).ownBlock = some k → ¬ X k
  map : mapL m
  perm : m.Perm (l.take j)
theorem SortInv.moves {w8 : World} {mb eb : Nat} {l : List Rng} {X X' : Nat → Prop} {j : Nat} {A B : World} {m : List Rng} {o : Option Addr} {cap : Nat} {err : Value} (h : SortInv w8 mb eb l X j A m o cap err) (hmb : mb < w8.heap.size) (heb : eb < w8.heap.size) (hm : Moves X A B) (hX : ∀ k, X' k → (X k ∨ A.heap.size ≤ k) ∧ k < B.heap.size) : SortInv w8 mb eb l X' j B m o cap err := by
  have hz := h.kept.size
  refine ⟨fun k hk => ?_, h.kept.far hm h.far, row_keep h.box hm (fun hx => by have := h.far mb hx; omega), row_keep h.eb hm (fun hx => by have := h.far eb hx; omega), own_moves1 h.row hm h.notX, fun k hk hx => ?_, h.map, h.perm⟩
  · rcases (hX k hk).1 with h1 | h1
    · exact h.far k h1
    · omega
  · rcases (hX k hx).1 with h1 | h1
    · exact h.notX k hk h1
    · have := (own_ge h.row hk).2; omega
theorem Moves.far2 {S X : Nat → Prop} {w A B : World} (h : Moves S w A) (hm : Moves X A B) (hX : ∀ k, X k → S k ∨ w.heap.size ≤ k) : Moves S w B :=
  ⟨hm.os.trans h.os, hm.tape.trans h.tape, hm.output.trans h.output, Nat.le_trans h.size hm.size, fun k hk hs => (hm.block k (Nat.lt_of_lt_of_le hk h.size) (fun hx => by rcases hX k hx with h1 | h1; { exact hs h1 }; { omega })).trans (h.block k hk hs)⟩
structure SortBad (w8 : World) (mb eb : Nat) (X : Nat → Prop) (W : World) (i : Nat) : Prop where
  far : ∀ k, X k → w8.heap.size ≤ k
  kept : Moves (fun k => k = mb ∨ k = eb) w8 W
  eb : Boxed W eb 48 (faultV 30 (i : Nat))
theorem SortBad.moves {w8 : World} {mb eb : Nat} {X X' : Nat → Prop} {i : Nat} {A B : World} (h : SortBad w8 mb eb X A i) (heb : eb < w8.heap.size) (hm : Moves X A B) (hX : ∀ k, X' k → (X k ∨ A.heap.size ≤ k) ∧ k < B.heap.size) : SortBad w8 mb eb X' B i := by
  have hz := h.kept.size
  refine ⟨fun k hk => ?_, h.kept.far hm h.far, row_keep h.eb hm (fun hx => by have := h.far eb hx; omega)⟩
  rcases (hX k hk).1 with h1 | h1
  · exact h.far k h1
  · omega
set_option maxRecDepth 100000 in
set_option maxHeartbeats 2000000 in
theorem sorted_f_any (o : Option Addr) (l : List Rng) (cap : Nat) (hn : l.length ≤ 10000) (w : World) (hA : AtR w o l) :
    Calls Tryd.prog 32 #[chartV o l.length cap] w (SortPost l w) := by
  refine (callsIn_wide (n := 6)).1 ?_
  have h1 : 1 ≤ 6 := by omega
  refine callsIn_of_wp_marks Tryd.func32 rfl trivial ?_ rfl
  simp only [Tryd.ntmps32, List.size_toArray, List.length_cons, List.length_nil, Nat.reduceAdd, Nat.reduceSub, Array.replicate_succ, Array.replicate_zero, List.push_toArray, List.append_toArray, List.nil_append, List.cons_append]
  obtain ⟨P, hP⟩ : ∃ P, SortPost l w = P := ⟨_, rfl⟩
  have HP := Lib.hid hP
  rw [hP]
  obtain ⟨w1, hw1⟩ : ∃ w1, (w.alloc (chartO o l.length cap)).alloc (layerO none 0 0) = w1 := ⟨_, rfl⟩
  have B1 : Below w.heap.size w w1 := by rw [← hw1]; exact ((Below.refl _ _).alloc (Nat.le_refl _) _).alloc (by simp) _
  have z1 : w1.heap.size = w.heap.size + 2 := by rw [← hw1]; simp
  have r1 : w1.heap[w.heap.size]? = some (chartO o l.length cap) := by rw [← hw1, Below.heap_alloc _ _ _ (by simp)]; exact heap_alloc_new _ _
  have l1 : w1.heap[w.heap.size + 1]? = some (layerO none 0 0) := by rw [← hw1]; have := heap_alloc_new (w.alloc (chartO o l.length cap)) (layerO none 0 0); rwa [World.size_alloc] at this
  have hck := checked_any o l cap (by omega) w1 (hA.below B1)
  obtain ⟨n, hnn⟩ : ∃ n, l.length = n := ⟨_, rfl⟩
  have HN := Lib.hid hnn
  rw [hnn] at hck r1 hw1 hn ⊢
  have HA := Lib.hid hA
  have HW1 := Lib.hid hw1
  have HB1 := Lib.hid B1
  have HR1 := Lib.hid r1
  have HL1 := Lib.hid l1
  obtain ⟨C, hC⟩ : ∃ C, chkL l = C := ⟨_, rfl⟩
  rw [hC] at hck
  have HC := Lib.hid hC
  have HCK := Lib.hid hck
  clear hP hA hw1 B1 r1 l1 hck hC hnn
  gi_wp2_with fail
  refine wpIn_wide.2 (wp_scope_forth 0 rfl ((wpIn_wide (n := 6)).1 ?_))
  gi_wp2_with fail
  rw [HW1.out]
  refine ⟨trivial, (callsIn_wide.2 HCK.out).mono ?_⟩
  rintro e w2 ⟨rfl, b2⟩
  have c2 : w2.cell? ⟨w.heap.size, 0, none⟩ = some (.slice o n cap) := by rw [cell_of_row _ _ 0 _ _ _ (row_below HR1.out b2)]; rfl
  have HL2 := Lib.hid (row_below HL1.out b2)
  have HB2 := Lib.hid (HB1.out.trans (b2.mono (by omega)))
  have hz2 := b2.size
  clear b2 HCK HL1 HR1 HB1 HW1
  cases C with
  | some i =>
    have b3 : Below w.heap.size w (w2.alloc (.cells #[faultV 22 (i : Nat)] 48)) := HB2.out.alloc HB2.out.size _
    have HPP : Hid (∀ q, P (.returned (.tuple #[.slice none 0 0, faultV 22 (i : Nat)])) ((w2.alloc (.cells #[faultV 22 (i : Nat)] 48)).drewN q)) := by
      rw [← HP.out]
      exact Lib.hid fun q => ⟨Moves.below (Below.refl _ _) (Nat.le_refl _) (moves_drewN (fun _ => False) _ _) (fun k h => h.elim) |> fun h => b3.trans (h.mono b3.size), .inl ⟨i, HC.out, rfl⟩⟩
    rw [show errC (some i) = faultV 22 (i : Nat) from rfl]
    clear b3
    gi_wp2
    refine wpIn_goto ?_
    simp only [Exit.then]
    show Exit.jump _ _ _ _ _ _
    simp only [Exit.jump, true_and]
    go_wp2_with fail
    go_quiet (fail)
    go_wp2
    rw [Exit.noGoto_ret]
    exact ⟨_, results_tmp2 (t := 2) (u := 3) rfl _ _ _, HPP.out _⟩
  | none =>
    have hnb : ∀ k, 0 < l.length → inB o k → k < w.heap.size := fun k h0 hk => HA.out.lt h0 hk
    rw [show errC none = .nilIface from rfl]
    have c3 : (w2.alloc (.cells #[.nilIface] 48)).cell? ⟨w.heap.size, 0, none⟩ = some (.slice o n cap) := cell_keep ((Below.refl _ _).alloc (Nat.le_refl _) _) c2
    gi_wp2_with fail
    refine ⟨trivial, (callsIn_wide.2 (ranges_any o n cap _)).mono ?_⟩
    rintro e w8 ⟨rfl, hw8⟩
    simp only [World.size_alloc] at hw8 ⊢
    have b28 : Below w2.heap.size w2 w8 := by rw [← hw8]; exact (((Below.refl _ _).alloc (Nat.le_refl _) _).alloc (by simp) _)
    have z8 : w8.heap.size = w2.heap.size + 2 := by rw [← hw8]; simp
    have E8 : Boxed w8 w2.heap.size 48 .nilIface := by
      rw [← hw8]
      have := Boxed.new w2 48 .nilIface
      exact this.alloc _
    have hb : w8.heap[w2.heap.size + 1]? = some (chartO o n cap) := by
      rw [← hw8]
      have := heap_alloc_new (w2.alloc (.cells #[.nilIface] 48)) (chartO o n cap)
      simpa using this
    have HB8 := Lib.hid (HB2.out.trans (b28.mono (by have := HB2.out.size; omega)))
    have A8 := HA.out.below HB8.out
    have L8 : w8.heap[w.heap.size + 1]? = some (layerO none 0 0) := row_below HL2.out b28
    have hlt : w.heap.size + 1 < w2.heap.size := (Array.getElem?_eq_some_iff.1 HL2.out).1
    have H0 : Hid (SortInv w8 (w.heap.size + 1) w2.heap.size l (fun _ => False) 0 w8 [] none 0 .nilIface) :=
      Lib.hid ⟨fun k h => h.elim, Moves.refl _ _, L8, E8, World.ownsRow_nil _ _ _ _, fun k hk => by simp [Value.ownBlock] at hk, ⟨fun x h => by simp at h, List.Pairwise.nil⟩, by simp⟩
    have HNB := Lib.hid hnb
    have HOK := Lib.hid (chk_ok.1 HC.out).1
    clear hw8 b28 E8 L8 hnb HL2
    gi_wp2_with fail
    refine wpIn_seqX (n := 6) (Ow := fun _ => False) (Dep := DepR (w2.heap.size + 1) o l) (encs := encR) (all := l.zipIdx) (by omega) rfl (enters_of Tryd.func48 (by kernel_rfl) rfl) (fun x => rfl) (seqRanges (by rw [HN.out]; omega) (by rw [HN.out]; exact hb) A8)
      (fun k h => h.elim) (fun k h => by rcases h with h | ⟨h0, h⟩; { omega }; { have := HNB.out k h0 h; omega })
      (fun X pre W => ∃ m o cap, SortInv w8 (w.heap.size + 1) w2.heap.size l X pre.length W m o cap .nilIface)
      (fun c X pre W => c = .goto 0 ∧ ∃ (i : Nat) (x : Rng) (m : List Rng), SortBad w8 (w.heap.size + 1) w2.heap.size X W i ∧ l[i]? = some x ∧ mapL m ∧ m.Perm (l.take i) ∧ lapL m x) ?hI ?hIx ?h0
      (fun b x => { tmps := #[chartV o n cap, .pointer (some ⟨w.heap.size, 0, none⟩), .slice none 0 0, .nilIface, .pointer (some ⟨w.heap.size + 1, 0, none⟩), .pointer (some ⟨w2.heap.size, 0, none⟩), .int .i64 (x.2 : Nat), .pointer (some ⟨b, 0, none⟩), chartV o n cap, .nilIface, .nilIface, .bool false, chartV o n cap, .func (.func 48) #[] #[.pointer (some ⟨w2.heap.size + 1, 0, none⟩)], .int .i64 (x.2 : Nat), rngV x.1, undef, undef, undef, undef, undef, undef, undef, undef, undef, undef, undef, undef, undef, undef, undef, undef, undef, undef, undef], defers := [] })
      (fun A x B => A.alloc (rngO x.1) = B) (fun A x B h => by rw [← h]; exact Moves.of_below ((Below.refl _ _).alloc (Nat.le_refl _) _)) ?assign ?body ?done ?stop
    case hI =>
      rintro X X' xs A B ⟨m, o, c, h⟩ hm hX
      exact ⟨m, o, c, h.moves (by omega) (by omega) hm hX⟩
    case hIx =>
      rintro c X X' xs A B ⟨rfl, i, x, m, h, h2⟩ hm hX
      exact ⟨rfl, i, x, m, h.moves (by omega) hm hX, h2⟩
    case h0 => exact ⟨[], none, 0, H0.out⟩
    case assign =>
      rintro l x A K hK
      gi_wp2
      rfl
    case body =>
      rintro lp X pre ⟨x, j⟩ A A' W1 hA1 hpx hAB hm hXn hXn1 hXlt ⟨m, o2, cap2, hI⟩
      obtain ⟨hj, hx, -⟩ := zip_pre hpx
      subst hj
      have hxb : W1.heap[A.heap.size]? = some (rngO x) := by
        have := heap_alloc_new A (rngO x)
        rw [hAB] at this
        exact row_keep this hm (by omega)
      obtain ⟨q0, q1, q2, _⟩ := rng_cells hxb
      have hXb : ∀ k, X k → k < W1.heap.size := fun k h => by have h1 := hXlt k h; have h2 := hm.size; rw [← hAB] at h2; simp at h2; omega
      have hz := hI.kept.size
      have hln : m.length = pre.length := by
        have h1 := hI.perm.length_eq
        have h2 := (List.getElem?_eq_some_iff.1 hx).1
        rw [List.length_take] at h1
        omega
      have hln2 : m.length ≤ 10000 := by have h2 := (List.getElem?_eq_some_iff.1 hx).1; rw [HN.out] at h2; omega
      have HP1 := Lib.hid (put_any x W1 hI.box hI.row hI.map hln2 hz)
      have HI := Lib.hid hI
      have HX := Lib.hid hx
      have HXB := Lib.hid hXb
      have nB : ∀ k, (k = w.heap.size + 1 ∨ k = w2.heap.size ∨ w8.heap.size ≤ k) → ¬ DepR (w2.heap.size + 1) o l k := fun k h hd => by
        rcases hd with hd | ⟨h0, hd⟩
        · omega
        · have := HNB.out k h0 hd; omega
      have HND := Lib.hid nB
      obtain ⟨a, b, v⟩ := x
      simp only at q0 q1 q2
      clear hI hx hpx hm hXlt hXn hXn1 hxb hAB hA1 hXb nB hln hln2
      gi_wp2_with fail
      refine ⟨trivial, CallsIn.inRound lp ((callsIn_wide.2 HP1.out).mono ?_)⟩
      rintro e W2 (⟨hlap, rfl, b2⟩ | ⟨hlap, rfl, g, cap3, hbox, hrow, hmv, hat⟩)
      · have hm2 : Moves (fun _ => False) W1 W2 := Moves.of_below b2
        have hE2 : Boxed W2 w2.heap.size 48 .nilIface := row_keep HI.out.eb hm2 id
        have ce2 : W2.cell? ⟨w2.heap.size, 0, none⟩ = some .nilIface := hE2.cell
        have fe2 : W2.frozen? ⟨w2.heap.size, 0, none⟩ = false := hE2.frozen
        have hm4 : Moves (fun k => k = w2.heap.size) W2 (W2.setCell ⟨w2.heap.size, 0, none⟩ (faultV 30 (pre.length : Nat))) := Moves.setCell rfl
        have HR : Hid (seqEndX (DepR (w2.heap.size + 1) o l) X (fun X pre W => ∃ m o cap, SortInv w8 (w.heap.size + 1) w2.heap.size l X pre.length W m o cap .nilIface) (fun c X pre W => c = .goto 0 ∧ ∃ (i : Nat) (x : Rng) (m : List Rng), SortBad w8 (w.heap.size + 1) w2.heap.size X W i ∧ l[i]? = some x ∧ mapL m ∧ m.Perm (l.take i) ∧ lapL m x) (pre ++ [((a, b, v), pre.length)]) W1 (.goto 0) ({ tmps := #[], defers := [] } : Act) (W2.setCell ⟨w2.heap.size, 0, none⟩ (faultV 30 (pre.length : Nat)))) :=
          Lib.hid ⟨(hm2.mono fun k h => h.elim).trans (hm4.mono fun k h => ⟨fun hx => by have := HI.out.far k hx; omega, HND.out k (by omega)⟩), rfl, pre.length, (a, b, v), m, ⟨HI.out.far, (HI.out.kept.far2 hm2 (fun k h => h.elim)).far2 hm4 (fun k h => .inl (.inr h)), hE2.set _⟩, HX.out, HI.out.map, HI.out.perm, hlap⟩
        clear hlap b2 hm2 hE2 hm4
        gi_wp2
        refine wpIn_goto ?_
        exact HR.out
      · have hne : ∀ k, (Value.slice o2 m.length cap2).ownBlock = some k → w8.heap.size ≤ k := fun k hk => (own_ge HI.out.row hk).1
        have hpl : (putAt m (a, b, v)).length = m.length + 1 := (put_map HI.out.map (HOK.out _ (List.mem_of_getElem? HX.out)) hlap).2.length_eq
        have HR : Hid (seqEndX (DepR (w2.heap.size + 1) o l) X (fun X pre W => ∃ m o cap, SortInv w8 (w.heap.size + 1) w2.heap.size l X pre.length W m o cap .nilIface) (fun c X pre W => c = .goto 0 ∧ ∃ (i : Nat) (x : Rng) (m : List Rng), SortBad w8 (w.heap.size + 1) w2.heap.size X W i ∧ l[i]? = some x ∧ mapL m ∧ m.Perm (l.take i) ∧ lapL m x) (pre ++ [((a, b, v), pre.length)]) W1 .normal ({ tmps := #[], defers := [] } : Act) W2) := by
          refine Lib.hid ⟨hmv.mono fun k h => ?_, putAt m (a, b, v), some ⟨g, 0, none⟩, cap3, HI.out.far, ?_, ?_, ?_, ?_, ?_, ?_, ?_⟩
          · rcases h with h | h
            · exact ⟨fun hx => by have := HI.out.far k hx; omega, HND.out k (.inl h)⟩
            · exact ⟨HI.out.notX k h, HND.out k (.inr (.inr (hne k h)))⟩
          · exact HI.out.kept.far2 hmv (fun k h => by rcases h with h | h; { exact .inl (.inl h) }; { exact .inr (hne k h) })
          · rw [hpl]; exact hbox
          · exact row_keep HI.out.eb hmv (fun h => by rcases h with h | h; { omega }; { have := hne _ h; omega })
          · rw [hpl]; exact hrow
          · intro k hk
            obtain rfl : g = k := by simpa [Value.ownBlock] using hk
            rcases hat with h | h
            · exact HI.out.notX _ h
            · intro hx; have := HXB.out _ hx; omega
          · exact (put_map HI.out.map (HOK.out _ (List.mem_of_getElem? HX.out)) hlap).1
          · rw [List.length_append, List.length_singleton, List.take_add_one, HX.out]
            exact (put_map HI.out.map (HOK.out _ (List.mem_of_getElem? HX.out)) hlap).2.trans ((HI.out.perm.cons _).trans (List.perm_append_singleton _ _).symm)
        clear hlap hbox hrow hmv hat hpl hne
        gi_wp2
        exact HR.out
    case done =>
      rintro X D W hD hXD ⟨m, o2, c, hI⟩ hX hK
      have hc := own_cap hI.row
      have hperm := hI.perm
      rw [List.length_zipIdx, List.take_length] at hperm
      have hm1 : Moves (fun k => k = D) W (W.putObj D (.deferred none)) := Moves.putObj rfl
      have hat : AtR (W.putObj D (.deferred none)) o2 m := (at_own hI.row).moves hm1 fun hp k hk e => by
        subst e
        rcases hI.row.2 with ⟨_, h0⟩ | ⟨g', cap', cur, hv, _, hg, _⟩
        · omega
        · obtain ⟨a, ha, hab⟩ := hk
          have he := (Value.slice.inj hv).1
          rw [he] at ha
          cases ha
          rw [← hab] at hK
          rw [hg] at hK
          cases hK
      have hpost : P (.returned (.tuple #[.slice o2 m.length m.length, .nilIface])) (W.putObj D (.deferred none)) := by
        rw [← HP.out]
        refine ⟨Moves.below HB8.out HB8.out.size ((hI.kept.mono (T := fun k => w.heap.size ≤ k) (fun k h => by omega)).trans (hm1.mono fun k h => by omega)) (fun k h => h), .inr (.inr ⟨HC.out, m, o2, hI.map, hperm, rfl, hat⟩)⟩
      have cm : W.cell? ⟨w.heap.size + 1, 0, none⟩ = some (.slice o2 m.length c) := by rw [cell_of_row _ _ 0 _ _ _ hI.box]; rfl
      have HPP := Lib.hid hpost
      obtain ⟨n2, hnn⟩ : ∃ n2, m.length = n2 := ⟨_, rfl⟩
      rw [hnn] at cm hc HPP
      clear hpost hI hm1 hat hX hnn hperm
      gi_wp2
      simp only [Exit.jump]
      refine ⟨by simp, .inl ⟨_, _, rfl, run_takeDeferred hK, ?_⟩⟩
      exact ⟨_, results_tmp2 (t := 2) (u := 3) rfl _ _ _, HPP.out⟩
    case stop =>
      rintro X D c pre W hD hXD hpre ⟨rfl, i, x, m, hI, hx, hmap, hperm, hlap⟩ hX hK
      have hce : W.cell? ⟨w2.heap.size, 0, none⟩ = some (faultV 30 (i : Nat)) := hI.eb.cell
      have HPP : Hid (∀ q, P (.returned (.tuple #[.slice none 0 0, faultV 30 (i : Nat)])) ((W.drewN q).putObj D (.deferred none))) := by
        rw [← HP.out]
        refine Lib.hid fun q => ⟨Moves.below HB8.out HB8.out.size (((hI.kept.mono (T := fun k => w.heap.size ≤ k) (fun k h => by omega)).trans (moves_drewN _ W q)).trans (Moves.putObj (show w.heap.size ≤ D by omega))) (fun k h => h), .inr (.inl ⟨HC.out, i, x, m, hx, hmap, hperm, hlap, rfl⟩)⟩
      have HK := Lib.hid hK
      clear hI hx hmap hperm hlap hX
      refine wpIn_goto ?_
      simp only [Exit.inBlock, Exit.then]
      show Exit.jump _ _ _ _ _ _
      simp only [Exit.jump, true_and]
      go_wp2_with fail
      go_quiet (fail)
      go_wp2
      rw [Exit.noGoto_ret]
      have hK2 : (W.drewN nq).heap[D]? = some (.deferred (some [])) := HK.out
      refine ⟨by simp, .inl ⟨_, _, rfl, run_takeDeferred hK2, ?_⟩⟩
      exact ⟨_, results_tmp2 (t := 2) (u := 3) rfl _ _ _, HPP.out _⟩
end Go.Proofs.YtkhniogmogcjlaaDoor
