/- sets: the first set, and that behind each class, one by one. sets: the walk of its iterator. runnerOf: a pattern that is right, and one that is not. first, stepped; First, Step, Done, Most. Printed by genfirst.py. told: what holds while the sets are told of. -/
import Derived.Test.YtjacebnlikhjnaaDoorBunA13
namespace Go.Proofs.YtjacebnlikhjnaaDoor
open Go.RowKit Go.Shelf Go.Maps
attribute [local go_sem] Oper.semAt_some

theorem firstR_any (st : Bool) (o : Option Addr) (xs : List ItemP) (cap : Nat) (m : Option Nat) (hxl : xs.length ≤ 10) (w : World) (hA : AtI w o xs) :
    Calls Tryd.prog 47 #[rnrV st o xs.length cap (.map m)] w fun e w' => e = .returned (.int .i64 ((firstS xs : Nat) : Int)) ∧ Below w.heap.size w w' := by
  obtain ⟨w1, hw1⟩ : ∃ w1, w.alloc (rnrO st o xs.length cap (.map m)) = w1 := ⟨_, rfl⟩
  have b1 : Below w.heap.size w w1 := by rw [← hw1]; exact (Below.refl _ _).alloc (Nat.le_refl _) _
  have r1 : w1.heap[w.heap.size]? = some (rnrO st o xs.length cap (.map m)) := by rw [← hw1]; exact heap_alloc_new _ _
  have z1 : w1.heap.size = w.heap.size + 1 := by rw [← hw1]; simp
  obtain ⟨c0, c1, c2⟩ := rnr_cells r1
  obtain ⟨w2, hw2⟩ : ∃ w2, w1.alloc (.cells #[.int .i64 0] 3) = w2 := ⟨_, rfl⟩
  have b2 : Below w1.heap.size w1 w2 := by rw [← hw2]; exact (Below.refl _ _).alloc (Nat.le_refl _) _
  have n2 : NumsAt w2 (some ⟨w.heap.size + 1, 0, none⟩) (natsZ [0]) := by
    rw [← hw2, ← z1]
    exact num_new (heap_alloc_new _ _)
  have B2 := b1.trans (b2.mono b1.size)
  have HC := Lib.hid (closed_any st o (some ⟨w.heap.size + 1, 0, none⟩) xs cap 1 m [0] hxl (by simp) (by simp) w2 (hA.below B2) n2)
  have e1 : closedH xs (setOfN [0]) = firstS xs := by unfold firstS setOfN orN; simp
  rw [e1] at HC
  obtain ⟨n, hn⟩ : ∃ n, xs.length = n := ⟨_, rfl⟩
  rw [hn] at HC c1 hw1 ⊢
  have HW1 := Lib.hid hw1
  have HW2 := Lib.hid hw2
  have HB := Lib.hid B2
  clear hw1 hw2 b1 b2 r1 n2 B2 e1 hn hA hxl
  go_enter Tryd.func47, Tryd.ntmps47
  go_wp2_with fail
  rw [HW1.out]
  try rw [HW2.out]
  refine HC.out.mono ?_
  rintro e w3 ⟨rfl, b3⟩
  have HB3 := Lib.hid (HB.out.trans (b3.mono HB.out.size))
  clear b3
  go_wp2_with fail
  first | (go_ret; exact ⟨rfl, HB3.out⟩) | exact ⟨rfl, HB3.out⟩
def runsP (xs : List ItemP) (st : Bool) (l : List Int) (j : Nat) : List Nat := (List.range j).map fun i => runS xs st (l.take i)
theorem runsP_snoc (xs : List ItemP) (st : Bool) (l : List Int) (j : Nat) : runsP xs st l (j + 1) = runsP xs st l j ++ [runS xs st (l.take j)] := by
  unfold runsP
  rw [List.range_succ, List.map_append, List.map_singleton]
theorem runsP_all (xs : List ItemP) (st : Bool) (l : List Int) : runsP xs st l (l.length + 1) = runsS xs st l := rfl
theorem runsP_px (xs : List ItemP) (st : Bool) (l : List Int) {j : Nat} (h : j ≤ l.length + 1) : runsP xs st l j <+: runsS xs st l := by
  rw [← runsP_all]
  obtain ⟨d, hd⟩ : ∃ d, l.length + 1 = j + d := ⟨l.length + 1 - j, by omega⟩
  rw [hd]
  clear hd h
  induction d with
  | zero => exact List.prefix_rfl
  | succ d ih => exact ih.trans (by rw [show j + (d + 1) = (j + d) + 1 by omega, runsP_snoc]; exact List.prefix_append _ _)
/-- What stands while the sets are gone through. -/
structure SetsI (w0 : World) (Rb Lb : Nat) (st : Bool) (o lo : Option Addr) (n cap ll lcap M N : Nat) (XW : Nat → Prop) (W : World) : Prop where
  b0 : Below w0.heap.size w0 W
  rb : W.heap[Rb]? = some (rnrO st o n cap (.map (some M)))
  lb : Boxed W Lb 34 (.slice lo ll lcap)
  wm : WayMap W M N XW
  hx : ∀ k, XW k → k < W.heap.size ∧ w0.heap.size ≤ k ∧ k ≠ Rb ∧ k ≠ Lb
abbrev SetsOw (XW : Nat → Prop) (M : Nat) : Nat → Prop := fun k => XW k ∨ k = M
abbrev SetsDep (w0 : World) (Rb Lb : Nat) : Nat → Prop := fun k => k < w0.heap.size ∨ k = Rb ∨ k = Lb
/-- Behind what turns none of its blocks. -/
theorem SetsI.round {w0 : World} {Rb Lb : Nat} {st : Bool} {o lo : Option Addr} {n cap ll lcap M N : Nat} {XW : Nat → Prop} {W W' : World} (h : SetsI w0 Rb Lb st o lo n cap ll lcap M N XW W) (hm : Moves (fun k => ¬ SetsOw XW M k ∧ ¬ SetsDep w0 Rb Lb k) W W') : SetsI w0 Rb Lb st o lo n cap ll lcap M N XW W' :=
  ⟨Moves.below h.b0 h.b0.size hm (fun k hk => by have := hk.2; omega), row_keep h.rb hm (fun e => e.2 (.inr (.inl rfl))), row_keep h.lb hm (fun e => e.2 (.inr (.inr rfl))), h.wm.moves hm (fun e => e.1 (.inr rfl)) (fun k hk e => e.1 (.inl hk)), fun k hk => ⟨Nat.lt_of_lt_of_le (h.hx k hk).1 hm.size, (h.hx k hk).2⟩⟩
/-- Behind a step. -/
theorem SetsI.step {w0 : World} {Rb Lb : Nat} {st : Bool} {o lo : Option Addr} {n cap ll lcap M N : Nat} {XW XW' : Nat → Prop} {W W' : World} (h : SetsI w0 Rb Lb st o lo n cap ll lcap M N XW W) (hm : Moves (fun k => k = M) W W') (h0 : w0.heap.size ≤ M) (h1 : M ≠ Rb) (h2 : M ≠ Lb) (hw : WayMap W' M (N + 21) XW') (hx : ∀ k, XW' k → (XW k ∨ W.heap.size ≤ k) ∧ k < W'.heap.size) : SetsI w0 Rb Lb st o lo n cap ll lcap M (N + 21) XW' W' :=
  ⟨Moves.below h.b0 h.b0.size hm (fun k hk => by omega), row_keep h.rb hm (fun e => h1 e.symm), row_keep h.lb hm (fun e => h2 e.symm), hw, fun k hk => by
    have hr := (Array.getElem?_eq_some_iff.1 h.rb).1
    have hl := (Array.getElem?_eq_some_iff.1 (show W.heap[Lb]? = _ from h.lb)).1
    have := h.b0.size
    obtain ⟨h3 | h3, h4⟩ := hx k hk
    · have := h.hx k h3; omega
    · omega⟩
end Go.Proofs.YtjacebnlikhjnaaDoor

namespace Go.Proofs.YtjacebnlikhjnaaDoor
open Go.RowKit Go.Shelf Go.Maps
attribute [local go_sem] Oper.semAt_some

set_option maxRecDepth 100000 in
set_option maxHeartbeats 8000000 in
theorem seqSets {st : Bool} {o lo : Option Addr} {xs : List ItemP} {l : List Int} {cap lcap M N Rb Lb : Nat} {X0 : Nat → Prop} {w0 w : World} {aP aS : Addr} (hxl : xs.length ≤ 10) (hw : howP xs) (hf : ∀ x ∈ xs, fits64 x) (hll : l.length ≤ 1000) (hN : N ≤ 1000) (hQ : GlobH w0 aP aS) (hA : AtI w0 o xs) (hL : NumsAt w0 lo l) (hM0 : w0.heap.size ≤ M) (h1 : M ≠ Rb) (h2 : M ≠ Lb) (hI0 : SetsI w0 Rb Lb st o lo xs.length cap l.length lcap M N X0 w) :
    SeqOfX Tryd.prog 4 68 #[.pointer (some ⟨Rb, 0, none⟩), .pointer (some ⟨Lb, 0, none⟩)] encC (SetsOw X0 M) (SetsDep w0 Rb Lb) (runsS xs st l) w := by
  intro W lp J Jx hm hJ hJx hY h0
  have h4 : 1 ≤ 4 := by omega
  have I0 : SetsI w0 Rb Lb st o lo xs.length cap l.length lcap M N X0 W := hI0.round (hm.mono fun _ h => h.elim)
  obtain ⟨d0, d1, d2⟩ := rnr_cells I0.rb
  have HF := Lib.hid (firstR_any st o xs cap (some M) hxl W (hA.below I0.b0))
  have HPX : Hid (∀ j, j ≤ l.length → runsP xs st l (j + 1) <+: runsS xs st l ∧ runsP xs st l (j + 1) = runsP xs st l j ++ [runS xs st (l.take j)]) := Lib.hid fun j hj => ⟨runsP_px xs st l (by omega), runsP_snoc xs st l j⟩
  have HALL : Hid (runsP xs st l (l.length + 1) = runsS xs st l) := Lib.hid rfl
  have HY : Hid (∀ X j s A, j ≤ l.length → runS xs st (l.take j) = s → J X (runsP xs st l j) A → YieldAt Fence.wide 3 Tryd.prog lp #[.int .i64 (s : Nat)] A fun e A' => (e = .returned (.bool true) ∧ J X (runsP xs st l (j + 1)) A' ∧ Moves (fun k => ¬ X k ∧ ¬ SetsDep w0 Rb Lb k) A A') ∨ (e = .returned (.bool false) ∧ (∃ ys, ys <+: runsS xs st l ∧ Jx X ys A') ∧ Moves (fun k => ¬ X k ∧ ¬ SetsDep w0 Rb Lb k) A A')) := Lib.hid fun X j s A hj hs hJA => by
    obtain ⟨p1, p2⟩ := HPX.out j hj
    have := hY X (runsP xs st l j) s A (by rw [← hs, ← p2]; exact p1) hJA
    rw [← hs, ← p2] at this
    obtain ⟨fn, tmps, assign, body, hy, hR⟩ := this
    refine ⟨fn, tmps, assign, body, by rw [← hs]; exact hy, hR.mono ?_⟩
    rintro e A' (⟨a, b, c⟩ | ⟨a, b, c⟩)
    · exact .inl ⟨a, b, c⟩
    · exact .inr ⟨a, ⟨_, p1, b⟩, c⟩
  have HST : Hid (∀ j c N' XW s W', l[j]? = some c → runS xs st (l.take j) = s → N' ≤ 80000 → SetsI w0 Rb Lb st o lo xs.length cap l.length lcap M N' XW W' → J (SetsOw XW M) (runsP xs st l (j + 1)) W' → Calls Tryd.prog 50 #[rnrV st o xs.length cap (.map (some M)), .int .i64 (s : Nat), .int .i64 c] W' fun e W'' => ∃ XW' s', e = .returned (.int .i64 (s' : Nat)) ∧ runS xs st (l.take (j + 1)) = s' ∧ SetsI w0 Rb Lb st o lo xs.length cap l.length lcap M (N' + 21) XW' W'' ∧ J (SetsOw XW' M) (runsP xs st l (j + 1)) W'') := Lib.hid fun j c N' XW s W' hc hs hN' hI hJJ => by
    refine (stepR_any st o xs cap M N' XW s c hxl hw hf (by rw [← hs]; exact run_lt hw _) (by omega) w0 W' aP aS hQ hA hI.b0 hM0 hI.wm (fun k hk => (hI.hx k hk).1)).mono ?_
    rintro e W'' ⟨rfl, hm', XW', wm', hx'⟩
    have hz := hI.wm.lt
    have hsz := hm'.size
    refine ⟨XW', _, rfl, ?_, hI.step hm' hM0 h1 h2 wm' hx', hJ _ _ _ _ _ hJJ (hm'.mono fun k hk => .inr hk) ?_⟩
    · obtain ⟨hj, rfl⟩ := List.getElem?_eq_some_iff.1 hc
      rw [← hs, List.take_succ_eq_append_getElem hj, runS_snoc]
    · rintro k (hk | rfl)
      · obtain ⟨h3 | h3, h4⟩ := hx' k hk
        · exact ⟨.inl (.inl h3), h4⟩
        · exact ⟨.inr h3, h4⟩
      · exact ⟨.inl (.inr rfl), by omega⟩
  have HJ0 : Hid (∀ W', Below W.heap.size W W' → SetsI w0 Rb Lb st o lo xs.length cap l.length lcap M N X0 W' ∧ J (SetsOw X0 M) (runsP xs st l 0) W') := Lib.hid fun W' b => ⟨I0.round (Moves.of_below b), hJ _ _ _ _ _ h0 (Moves.of_below b) (by
    have hz := I0.wm.lt
    have hsz := b.size
    rintro k (hk | rfl)
    · exact ⟨.inl (.inl hk), by have := (I0.hx k hk).1; omega⟩
    · exact ⟨.inl (.inr rfl), by omega⟩)⟩
  have HNUM : Hid (∀ j c W', l[j]? = some c → Below w0.heap.size w0 W' → ∃ g off, lo = some ⟨g, off, none⟩ ∧ W'.cell? ⟨g, off + j, none⟩ = some (.int .i64 c)) := Lib.hid fun j c W' hc b => by
    obtain ⟨g, off, ho, hh⟩ := hL.below b (by have := (List.getElem?_eq_some_iff.1 hc).1; omega)
    exact ⟨g, off, ho, hh j c hc⟩
  have hfs : runS xs st (l.take 0) = firstS xs := rfl
  obtain ⟨s0, hs0⟩ : ∃ s0, firstS xs = s0 := ⟨_, rfl⟩
  rw [hs0] at hfs HF
  have HFS := Lib.hid hfs
  obtain ⟨n, hn⟩ : ∃ n, xs.length = n := ⟨_, rfl⟩
  rw [hn] at HF HST HJ0 d1
  obtain ⟨ln, hln⟩ : ∃ ln, l.length = ln := ⟨_, rfl⟩
  have HLN := Lib.hid hln
  rw [hln] at HST HJ0 HY HALL hll
  have hN9 : N ≤ 1000 := hN
  clear hY hm hJ hJx h0 I0 hI0 hfs hs0 hn hln HPX hxl hw hf hQ hA hL h1 h2 hN hM0
  refine callsIn_of_wp Tryd.func68 rfl trivial ?_ rfl
  simp only [Tryd.ntmps68, List.size_toArray, List.length_cons, List.length_nil, Nat.reduceAdd, Nat.reduceSub, Array.replicate_succ, Array.replicate_zero, List.push_toArray, List.append_toArray, List.nil_append, List.cons_append]
  gi_wp2_with fail
  refine ⟨trivial, (callsIn_wide.2 HF.out).mono ?_⟩
  rintro e W1 ⟨rfl, b1⟩
  obtain ⟨I1, J1⟩ := HJ0.out W1 b1
  obtain ⟨fn, tmps, assign, body, hy, hR⟩ := HY.out _ 0 s0 W1 (Nat.zero_le _) HFS.out J1
  replace hy : (Instr.yield lp #[.int .i64 (s0 : Nat)]).run Tryd.prog W1 = .ok (.round lp fn tmps assign body) W1 := hy
  have HRR := Lib.hid hR
  have HI1 := Lib.hid I1
  clear hR b1 I1 J1 d0 d1 d2 HF HJ0
  gi_wp2_with fail
  refine HRR.out.mono ?_
  rintro e W2 (⟨rfl, hJ4, hk4⟩ | ⟨rfl, hJx4, _⟩)
  · have I2 := HI1.out.round hk4
    have HI2 := Lib.hid I2
    have HJ4 := Lib.hid hJ4
    have hlc : W2.cell? ⟨Lb, 0, none⟩ = some (.slice lo ln lcap) := I2.lb.cell
    clear hk4 I2 hJ4 HRR HI1 hy
    gi_wp2
    gi_loopg [4, 15] ln (fun k v4 v15 wr => ∃ (j s N' : Nat) (XW : Nat → Prop), v15 = .int .i64 (j : Nat) ∧ v4 = .int .i64 (s : Nat) ∧ Hid (runS xs st (l.take j) = s) ∧ j ≤ ln ∧ k = ln - j ∧ N' ≤ 1000 + 21 * j ∧ Hid (SetsI w0 Rb Lb st o lo n cap ln lcap M N' XW wr) ∧ Hid (J (SetsOw XW M) (runsP xs st l (j + 1)) wr))
    case atStart => exact ⟨0, s0, N, X0, rfl, rfl, HFS, Nat.zero_le _, rfl, by omega, HI2, HJ4⟩
    case round =>
      clear hlc HI2 HJ4
      obtain ⟨j, s, N', XW, rfl, rfl, HS, hj, rfl, hN', HI, HJ⟩ := hrel
      rcases Nat.lt_or_ge j ln with hlt | hge
      · have hj6 : j < 1000000 := by omega
        obtain ⟨c, hc⟩ : ∃ c, l[j]? = some c := ⟨_, List.getElem?_eq_getElem (by rw [HLN.out]; exact hlt)⟩
        obtain ⟨g, off, rfl, hcell⟩ := HNUM.out j c wr hc HI.out.b0
        obtain ⟨e0, e1, e2⟩ := rnr_cells HI.out.rb
        have HC := Lib.hid (HST.out j c N' XW s wr hc HS.out (by omega) HI.out HJ.out)
        have HN := Lib.hid hN'
        clear hc hN'
        gi_wp2_with fail
        refine ⟨trivial, (callsIn_wide.2 HC.out).mono ?_⟩
        rintro e W3 ⟨XW', s', rfl, hs', I3, J3⟩
        obtain ⟨fn, tmps, assign, body, hy, hR⟩ := HY.out _ (j + 1) s' W3 hlt hs' J3
        replace hy : (Instr.yield lp #[.int .i64 (s' : Nat)]).run Tryd.prog W3 = .ok (.round lp fn tmps assign body) W3 := hy
        have HRR := Lib.hid hR
        have HI3 := Lib.hid I3
        have HS' := Lib.hid hs'
        clear hR I3 J3 hs' hcell e0 e1 e2
        gi_wp2_with fail
        refine HRR.out.mono ?_
        rintro e W4 (⟨rfl, hJ4, hk4⟩ | ⟨rfl, hJx4, _⟩)
        · have HI4 := Lib.hid (HI3.out.round hk4)
          have HJ4 := Lib.hid hJ4
          clear hk4 hJ4 hy
          gi_wp2
          gi_roundg (ln - (j + 1))
          case measure => omega
          case rel => exact ⟨j + 1, s', N' + 21, XW', by simp, rfl, HS', by omega, rfl, by have := HN.out; omega, HI4, HJ4⟩
        · gi_wp2
          refine bodyPost_ret (results_none rfl _ _ _) rfl ?_
          obtain ⟨ys, h5, h6⟩ := hJx4
          exact ⟨⟨_, rfl⟩, _, .inr ⟨_, h5, h6⟩⟩
      · obtain rfl : j = ln := by omega
        have hJ := HJ.out
        rw [HALL.out] at hJ
        gi_wp2
        go_end0
        exact ⟨⟨_, rfl⟩, _, .inl hJ⟩
  · gi_wp2
    refine bodyPost_ret (results_none rfl _ _ _) rfl ?_
    obtain ⟨ys, h5, h6⟩ := hJx4
    exact ⟨⟨_, rfl⟩, _, .inr ⟨_, h5, h6⟩⟩
end Go.Proofs.YtjacebnlikhjnaaDoor

namespace Go.Proofs.YtjacebnlikhjnaaDoor
open Go.RowKit Go.Shelf Go.Maps
attribute [local go_sem] Oper.semAt_some

theorem results_cell_tmpH {P : Program} {fn : Func} {p q : Tmp} {ty : TypeId} (h : fn.results = #[.cell p ty, .tmp q]) (tmps : Array Value) (w : World) (g : Nat) (t : TypeId) (cs : Array Value) (fr : Nat × Nat) (d : TypeDesc) (v : Value)
    (hp : tmps.getD p undef = .pointer (some ⟨g, 0, none⟩)) (hq : tmps.getD q undef = v) (hg : w.heap[g]? = some (.cells cs t fr))
    (hu : P.underlying ty = some d) (hd : (match d with | .struct _ | .array _ _ => true | _ => false) = true) (hi : (P.info? ty).map (·.size) = some cs.size) :
    (results fn tmps).run P w = .ok (.tuple #[.agg cs, v]) w := by
  have hp' : tmps[p]?.getD undef = .pointer (some ⟨g, 0, none⟩) := by simpa using hp
  have hq' : tmps[q]?.getD undef = v := by simpa using hq
  simp [results, h, hp', hq', asAddr, run_loadVar_row w g t ty cs fr d hg hu hd hi]
theorem three_set {w : World} {g : Nat} {u v x : Value} {t : TypeId} (a b c : Value) (h : w.heap[g]? = some (.cells #[u, v, x] t (0, 0))) :
    (((w.setCell ⟨g, 0, none⟩ a).setCell ⟨g, 1, none⟩ b).setCell ⟨g, 2, none⟩ c).heap[g]? = some (.cells #[a, b, c] t (0, 0)) ∧ Moves (fun k => k = g) w (((w.setCell ⟨g, 0, none⟩ a).setCell ⟨g, 1, none⟩ b).setCell ⟨g, 2, none⟩ c) := by
  have h1 : (w.setCell ⟨g, 0, none⟩ a).heap[g]? = some (.cells #[a, v, x] t (0, 0)) := by rw [heap_setCell_same _ _ _ _ _ _ h]; rfl
  have h2 : ((w.setCell ⟨g, 0, none⟩ a).setCell ⟨g, 1, none⟩ b).heap[g]? = some (.cells #[a, b, x] t (0, 0)) := by rw [heap_setCell_same _ _ _ _ _ _ h1]; rfl
  exact ⟨by rw [heap_setCell_same _ _ _ _ _ _ h2]; rfl, ((Moves.setCell (S := fun k => k = g) rfl).trans (Moves.setCell (S := fun k => k = g) rfl)).trans (Moves.setCell (S := fun k => k = g) rfl)⟩
theorem pat_cellsH {w : World} {k : Nat} {st : Bool} {o : Option Addr} {n cap : Nat} (h : w.heap[k]? = some (.cells (patC st o n cap) 24 (0, 0))) : w.cell? ⟨k, 0, none⟩ = some (.bool st) ∧ w.cell? ⟨k, 1, none⟩ = some (.slice o n cap) :=
  ⟨cell_of_row _ _ 0 _ _ _ h, cell_of_row _ _ 1 _ _ _ h⟩
theorem rightB_fits {xs : List ItemP} (h : rightB xs 32 = true) : xs.length ≤ 10 ∧ howP xs ∧ ∀ x ∈ xs, fits64 x := by
  obtain ⟨_, h2, h3⟩ := rightB_parts h
  refine ⟨h2, rightB_how h, fun x hx => ?_⟩
  obtain ⟨h4, h5⟩ := h3 x hx
  unfold rightZ at h4
  have h4 := of_decide_eq_true h4
  have e : (2 : Int) ^ (32 : Int).toNat = 4294967296 := by decide
  rw [e] at h4
  unfold fits64
  omega
set_option maxRecDepth 100000 in
set_option maxHeartbeats 4000000 in
theorem runnerOf_right (st : Bool) (o : Option Addr) (xs : List ItemP) (cap : Nat) (hr : rightB xs 32 = true) (w : World) (hA : AtI w o xs) :
    Calls Tryd.prog 33 #[patV st o xs.length cap] w fun e w' => ∃ M, e = .returned (.tuple #[rnrV st o xs.length cap (.map (some M)), .nilIface]) ∧ w.heap.size ≤ M ∧ WayMap w' M 0 (fun _ => False) ∧ Below w.heap.size w w' := by
  have hn := (rightB_parts hr).2.1
  obtain ⟨P, hP⟩ : ∃ P, (fun (e : Ending) (w' : World) => ∃ M, e = .returned (.tuple #[rnrV st o xs.length cap (.map (some M)), .nilIface]) ∧ w.heap.size ≤ M ∧ WayMap w' M 0 (fun _ => False) ∧ Below w.heap.size w w') = P := ⟨_, rfl⟩
  have HP := Lib.hid hP
  rw [hP]
  obtain ⟨w1, hw1⟩ : ∃ w1, w.alloc (.cells (patC st o xs.length cap) 24 (0, 0)) = w1 := ⟨_, rfl⟩
  have b1 : Below w.heap.size w w1 := by rw [← hw1]; exact (Below.refl _ _).alloc (Nat.le_refl _) _
  have z1 : w1.heap.size = w.heap.size + 1 := by rw [← hw1]; simp
  have r1 : w1.heap[w.heap.size]? = some (.cells (patC st o xs.length cap) 24 (0, 0)) := by rw [← hw1]; exact heap_alloc_new _ _
  obtain ⟨w2, hw2⟩ : ∃ w2, w1.alloc (rnrO false none 0 0 (.map none)) = w2 := ⟨_, rfl⟩
  have b2 : Below w1.heap.size w1 w2 := by rw [← hw2]; exact (Below.refl _ _).alloc (Nat.le_refl _) _
  have r2 : w2.heap[w.heap.size + 1]? = some (rnrO false none 0 0 (.map none)) := by rw [← hw2, ← z1]; exact heap_alloc_new _ _
  have B2 := b1.trans (b2.mono b1.size)
  obtain ⟨c0, c1⟩ := pat_cellsH (row_below r1 b2)
  have z2 : w2.heap.size = w.heap.size + 2 := by rw [← hw2]; simp; omega
  have HR := Lib.hid (Right_anyQ st o xs cap 32 (by omega) w2 (hA.below B2))
  rw [hr] at HR
  obtain ⟨n, hnn⟩ : ∃ n, xs.length = n := ⟨_, rfl⟩
  rw [hnn] at HR c1 hw1 HP r1 ⊢
  have HW1 := Lib.hid hw1
  have HW2 := Lib.hid hw2
  have HB := Lib.hid B2
  have HR1 := Lib.hid (row_below r1 b2)
  have HR2 := Lib.hid r2
  have HZ := Lib.hid z2
  clear hP hw1 hw2 b1 b2 r1 r2 B2 z1 z2 hnn hA hn hr
  have hmm := @run_makeMap Tryd.prog
  go_enter Tryd.func33, Tryd.ntmps33
  go_wp2_with fail
  rw [HW1.out]
  try rw [HW2.out]
  refine HR.out.mono ?_
  rintro e w3 ⟨rfl, b3⟩
  have hr1 := row_below HR1.out b3
  have hr2 := row_below HR2.out b3
  obtain ⟨f0, f1⟩ := pat_cellsH hr1
  obtain ⟨g0, g1, g2⟩ := rnr_cells hr2
  have hz3 : w.heap.size + 1 < w3.heap.size := World.block_lt_of_cell? w3 _ g0
  have WMK : Hid (∀ w6, Moves (fun k => k = w.heap.size + 1) w3 w6 → w6.heap.size = w3.heap.size → P (.returned (.tuple #[rnrV st o n cap (.map (some w3.heap.size)), .nilIface])) (w6.alloc (.map #[] 0))) := Lib.hid fun w6 hm6 h6 => by
    rw [← HP.out]
    have hz := HZ.out
    have h3 := b3.size
    have bm : Below w6.heap.size w6 (w6.alloc (.map #[] 0)) := (Below.refl _ _).alloc (Nat.le_refl _) _
    refine ⟨_, rfl, by omega, by rw [← h6]; exact WayMap.made w6, (Moves.below (HB.out.trans (b3.mono HB.out.size)) (by omega) hm6 (fun k hk => by omega)).trans (bm.mono (by omega))⟩
  obtain ⟨q0, q1, q2⟩ : w3.frozen? ⟨w.heap.size + 1, 0, none⟩ = false ∧ w3.frozen? ⟨w.heap.size + 1, 1, none⟩ = false ∧ w3.frozen? ⟨w.heap.size + 1, 2, none⟩ = false := ⟨frozen_of_row _ _ _ _ _ hr2, frozen_of_row _ _ _ _ _ hr2, frozen_of_row _ _ _ _ _ hr2⟩
  obtain ⟨r6, m6⟩ := three_set (.bool st) (.slice o n cap) (.map (some w3.heap.size)) hr2
  obtain ⟨w6, hw6⟩ : ∃ w6, ((w3.setCell ⟨w.heap.size + 1, 0, none⟩ (.bool st)).setCell ⟨w.heap.size + 1, 1, none⟩ (.slice o n cap)).setCell ⟨w.heap.size + 1, 2, none⟩ (.map (some w3.heap.size)) = w6 := ⟨_, rfl⟩
  rw [hw6] at r6 m6
  have s6 : w6.heap.size = w3.heap.size := by rw [← hw6]; simp
  have FIN := Lib.hid (WMK.out w6 m6 s6)
  have HW6 := Lib.hid hw6
  have HR6 : Hid ((w6.alloc (.map #[] 0)).heap[w.heap.size + 1]? = some (rnrO st o n cap (.map (some w3.heap.size)))) := Lib.hid ((Below.heap_alloc _ _ _ (by omega)).trans r6)
  clear c0 c1 hr1 hr2 b3 r6 m6 s6 hw6
  go_wp2_with fail
  rw [HW6.out]
  exact bodyPost_ret (v := .tuple #[rnrV st o n cap (.map (some w3.heap.size)), .nilIface]) (results_cell_tmpH rfl _ _ (w.heap.size + 1) _ _ _ _ _ rfl rfl HR6.out Tryd.underlying59 rfl (by kernel_rfl)) rfl FIN.out
set_option maxRecDepth 100000 in
set_option maxHeartbeats 4000000 in
theorem runnerOf_wrong (st : Bool) (o : Option Addr) (xs : List ItemP) (cap : Nat) (hxl : xs.length ≤ 1000000) (hr : rightB xs 32 = false) (w : World) (aP aS : Addr) (hQ : GlobH w aP aS) (hA : AtI w o xs) :
    Calls Tryd.prog 33 #[patV st o xs.length cap] w fun e w' => e = .returned (.tuple #[rnrV false none 0 0 (.map none), errVQ aP]) ∧ Below w.heap.size w w' := by
  obtain ⟨P, hP⟩ : ∃ P, (fun (e : Ending) (w' : World) => e = .returned (.tuple #[rnrV false none 0 0 (.map none), errVQ aP]) ∧ Below w.heap.size w w') = P := ⟨_, rfl⟩
  have HP := Lib.hid hP
  rw [hP]
  obtain ⟨w1, hw1⟩ : ∃ w1, w.alloc (.cells (patC st o xs.length cap) 24 (0, 0)) = w1 := ⟨_, rfl⟩
  have b1 : Below w.heap.size w w1 := by rw [← hw1]; exact (Below.refl _ _).alloc (Nat.le_refl _) _
  have z1 : w1.heap.size = w.heap.size + 1 := by rw [← hw1]; simp
  have r1 : w1.heap[w.heap.size]? = some (.cells (patC st o xs.length cap) 24 (0, 0)) := by rw [← hw1]; exact heap_alloc_new _ _
  obtain ⟨w2, hw2⟩ : ∃ w2, w1.alloc (rnrO false none 0 0 (.map none)) = w2 := ⟨_, rfl⟩
  have b2 : Below w1.heap.size w1 w2 := by rw [← hw2]; exact (Below.refl _ _).alloc (Nat.le_refl _) _
  have r2 : w2.heap[w.heap.size + 1]? = some (rnrO false none 0 0 (.map none)) := by rw [← hw2, ← z1]; exact heap_alloc_new _ _
  have B2 := b1.trans (b2.mono b1.size)
  obtain ⟨c0, c1⟩ := pat_cellsH (row_below r1 b2)
  have z2 : w2.heap.size = w.heap.size + 2 := by rw [← hw2]; simp; omega
  have HR := Lib.hid (Right_anyQ st o xs cap 32 (by omega) w2 (hA.below B2))
  rw [hr] at HR
  have HGL := Lib.hid hQ
  obtain ⟨n, hnn⟩ : ∃ n, xs.length = n := ⟨_, rfl⟩
  rw [hnn] at HR c1 hw1 r1 ⊢
  have HW1 := Lib.hid hw1
  have HW2 := Lib.hid hw2
  have HB := Lib.hid B2
  have HR1 := Lib.hid (row_below r1 b2)
  have HR2 := Lib.hid r2
  have HZ := Lib.hid z2
  clear hP hw1 hw2 b1 b2 r1 r2 B2 z1 z2 hnn hA hxl hr hQ
  have hmm := @run_makeMap Tryd.prog
  go_enter Tryd.func33, Tryd.ntmps33
  go_wp2_with fail
  rw [HW1.out]
  try rw [HW2.out]
  refine HR.out.mono ?_
  rintro e w3 ⟨rfl, b3⟩
  have hr1 := row_below HR1.out b3
  have hr2 := row_below HR2.out b3
  obtain ⟨f0, f1⟩ := pat_cellsH hr1
  obtain ⟨g0, g1, g2⟩ := rnr_cells hr2
  have hz3 : w.heap.size + 1 < w3.heap.size := World.block_lt_of_cell? w3 _ g0
  have hz3 : w.heap.size + 1 < w3.heap.size := World.block_lt_of_cell? w3 _ g0
  obtain ⟨q0, q1, q2⟩ : w3.frozen? ⟨w.heap.size + 1, 0, none⟩ = false ∧ w3.frozen? ⟨w.heap.size + 1, 1, none⟩ = false ∧ w3.frozen? ⟨w.heap.size + 1, 2, none⟩ = false := ⟨frozen_of_row _ _ _ _ _ hr2, frozen_of_row _ _ _ _ _ hr2, frozen_of_row _ _ _ _ _ hr2⟩
  have gp := (HGL.out.below (HB.out.trans (b3.mono HB.out.size))).pat
  obtain ⟨r5, m5⟩ := three_set (.bool false) (.slice none 0 0) (.map none) hr2
  obtain ⟨w6, hw6⟩ : ∃ w6, (((w3.setCell ⟨w.heap.size + 1, 0, none⟩ (.bool false)).setCell ⟨w.heap.size + 1, 1, none⟩ (.slice none 0 0)).setCell ⟨w.heap.size + 1, 2, none⟩ (.map none)).drew = w6 := ⟨_, rfl⟩
  have r6 : w6.heap[w.heap.size + 1]? = some (rnrO false none 0 0 (.map none)) := by rw [← hw6]; exact r5
  have m6 : Moves (fun k => k = w.heap.size + 1) w3 w6 := by rw [← hw6]; exact m5.drew
  have FIN : Hid (P (.returned (.tuple #[rnrV false none 0 0 (.map none), errVQ aP])) w6) := Lib.hid (by
    rw [← HP.out]
    have hz := HZ.out
    have h3 := b3.size
    exact ⟨rfl, Moves.below (HB.out.trans (b3.mono HB.out.size)) (by omega) m6 (fun k hk => by omega)⟩)
  have HW6 := Lib.hid hw6
  have HR6 := Lib.hid r6
  clear c0 c1 hr1 hr2 b3 r6 m6 r5 m5 hw6
  go_wp2_with fail
  go_region
  all_goals
    rw [HW6.out]
    go_wp2_with fail
    exact bodyPost_ret (v := .tuple #[rnrV false none 0 0 (.map none), errVQ aP]) (results_cell_tmpH rfl _ _ (w.heap.size + 1) _ _ _ _ _ rfl rfl HR6.out Tryd.underlying59 rfl (by kernel_rfl)) rfl FIN.out
end Go.Proofs.YtjacebnlikhjnaaDoor

namespace Go.Proofs.YtjacebnlikhjnaaDoor
open Go.RowKit Go.Shelf Go.Maps
attribute [local go_sem] Oper.semAt_some

/-- A runner in a box of its own. -/
theorem boxR (W : World) (st : Bool) (o : Option Addr) (n cap : Nat) (m : Value) : ∃ W5, W.alloc (rnrO st o n cap m) = W5 ∧ W5.heap[W.heap.size]? = some (rnrO st o n cap m) ∧ Below W.heap.size W W5 ∧ W5.heap.size = W.heap.size + 1 :=
  ⟨_, rfl, heap_alloc_new _ _, (Below.refl _ _).alloc (Nat.le_refl _) _, by simp⟩
set_option maxRecDepth 100000 in
set_option maxHeartbeats 4000000 in
theorem first_right (st : Bool) (o : Option Addr) (xs : List ItemP) (cap : Nat) (hr : rightB xs 32 = true) (w : World) (hA : AtI w o xs) :
    Calls Tryd.prog 27 #[patV st o xs.length cap] w fun e w' => e = .returned (.tuple #[.int .i64 ((firstS xs : Nat) : Int), .nilIface]) ∧ Below w.heap.size w w' := by
  obtain ⟨w1, hw1⟩ : ∃ w1, w.alloc (.cells (patC st o xs.length cap) 24 (0, 0)) = w1 := ⟨_, rfl⟩
  have b1 : Below w.heap.size w w1 := by rw [← hw1]; exact (Below.refl _ _).alloc (Nat.le_refl _) _
  have r1 : w1.heap[w.heap.size]? = some (.cells (patC st o xs.length cap) 24 (0, 0)) := by rw [← hw1]; exact heap_alloc_new _ _
  obtain ⟨c0, c1⟩ := pat_cellsH r1
  have HR := Lib.hid (runnerOf_right st o xs cap hr w1 (hA.below b1))
  have HF := Lib.hid (fun M W (hb : Below w.heap.size w W) => firstR_any st o xs cap (some M) (rightB_parts hr).2.1 W (hA.below hb))
  obtain ⟨z, hz⟩ : ∃ z, firstS xs = z := ⟨_, rfl⟩
  obtain ⟨n, hn⟩ : ∃ n, xs.length = n := ⟨_, rfl⟩
  rw [hz] at HF ⊢
  rw [hn] at HF HR c1 hw1 ⊢
  have HW1 := Lib.hid hw1
  have HB1 := Lib.hid b1
  clear hw1 b1 r1 hz hn hA hr
  go_enter Tryd.func27, Tryd.ntmps27
  go_wp2_with fail
  rw [HW1.out]
  refine HR.out.mono ?_
  rintro e W3 ⟨M, rfl, hM, hWM, b3⟩
  obtain ⟨W5, hW5, r5, b5, z5⟩ := boxR W3 st o n cap (.map (some M))
  have HW5 := Lib.hid hW5
  have HB3 := Lib.hid (HB1.out.trans (b3.mono HB1.out.size))
  have HB5 := Lib.hid (HB3.out.trans (b5.mono HB3.out.size))
  have HC := Lib.hid (HF.out M W5 HB5.out)
  clear hM hWM b3 hW5 r5 b5 z5
  go_wp2_with fail
  rw [HW5.out]
  refine HC.out.mono ?_
  rintro e W6 ⟨rfl, b6⟩
  have HB6 := Lib.hid (HB5.out.trans (b6.mono HB5.out.size))
  clear b6
  go_wp2_with fail
  exact bodyPost_ret (results_tmp2 (t := 2) (u := 3) rfl _ _ _) rfl ⟨rfl, HB6.out⟩
set_option maxRecDepth 100000 in
set_option maxHeartbeats 4000000 in
theorem first_wrong (st : Bool) (o : Option Addr) (xs : List ItemP) (cap : Nat) (hxl : xs.length ≤ 1000000) (hr : rightB xs 32 = false) (w : World) (aP aS : Addr) (hQ : GlobH w aP aS) (hA : AtI w o xs) :
    Calls Tryd.prog 27 #[patV st o xs.length cap] w fun e w' => e = .returned (.tuple #[.int .i64 0, errVQ aP]) ∧ Below w.heap.size w w' := by
  obtain ⟨w1, hw1⟩ : ∃ w1, w.alloc (.cells (patC st o xs.length cap) 24 (0, 0)) = w1 := ⟨_, rfl⟩
  have b1 : Below w.heap.size w w1 := by rw [← hw1]; exact (Below.refl _ _).alloc (Nat.le_refl _) _
  have r1 : w1.heap[w.heap.size]? = some (.cells (patC st o xs.length cap) 24 (0, 0)) := by rw [← hw1]; exact heap_alloc_new _ _
  obtain ⟨c0, c1⟩ := pat_cellsH r1
  have HR := Lib.hid (runnerOf_wrong st o xs cap hxl hr w1 aP aS (hQ.below b1) (hA.below b1))
  obtain ⟨n, hn⟩ : ∃ n, xs.length = n := ⟨_, rfl⟩
  rw [hn] at HR c1 hw1 ⊢
  have HW1 := Lib.hid hw1
  have HB1 := Lib.hid b1
  clear hw1 b1 r1 hn hA hr hxl hQ
  go_enter Tryd.func27, Tryd.ntmps27
  go_wp2_with fail
  rw [HW1.out]
  refine HR.out.mono ?_
  rintro e W3 ⟨rfl, b3⟩
  have HB3 := Lib.hid (HB1.out.trans (b3.mono HB1.out.size))
  obtain ⟨W5, hW5, r5, b5, z5⟩ := boxR W3 false none 0 0 (.map none)
  have HW5 := Lib.hid hW5
  have HB5 := Lib.hid (HB3.out.trans (b5.mono HB3.out.size))
  clear hW5 r5 b5 z5 b3
  go_wp2_with fail
  try rw [HW5.out]
  exact bodyPost_ret (results_tmp2 (t := 2) (u := 3) rfl _ _ _) rfl ⟨rfl, HB5.out⟩
set_option maxRecDepth 100000 in
set_option maxHeartbeats 4000000 in
theorem Most_right (st : Bool) (o : Option Addr) (xs : List ItemP) (cap : Nat) (hr : rightB xs 32 = true) (w : World) (hA : AtI w o xs) :
    Calls Tryd.prog 16 #[patV st o xs.length cap] w fun e w' => e = .returned (.int .i64 ((mostS xs : Nat) : Int)) ∧ Below w.heap.size w w' := by
  obtain ⟨w1, hw1⟩ : ∃ w1, w.alloc (.cells (patC st o xs.length cap) 24 (0, 0)) = w1 := ⟨_, rfl⟩
  have b1 : Below w.heap.size w w1 := by rw [← hw1]; exact (Below.refl _ _).alloc (Nat.le_refl _) _
  have r1 : w1.heap[w.heap.size]? = some (.cells (patC st o xs.length cap) 24 (0, 0)) := by rw [← hw1]; exact heap_alloc_new _ _
  obtain ⟨c0, c1⟩ := pat_cellsH r1
  have HR := Lib.hid (runnerOf_right st o xs cap hr w1 (hA.below b1))
  have hlen := (rightB_parts hr).2.1
  have HF := Lib.hid (fun M W => mostR_any st o xs.length cap (some M) hlen W)
  have em : 2 ^ (2 * xs.length + 1) - 1 = mostS xs := rfl
  rw [em] at HF
  obtain ⟨z, hz⟩ : ∃ z, mostS xs = z := ⟨_, rfl⟩
  clear em
  obtain ⟨n, hn⟩ : ∃ n, xs.length = n := ⟨_, rfl⟩
  rw [hz] at HF ⊢
  rw [hn] at HF HR c1 hw1 ⊢
  have HW1 := Lib.hid hw1
  have HB1 := Lib.hid b1
  clear hw1 b1 r1 hz hn hA hr hlen
  go_enter Tryd.func16, Tryd.ntmps16
  go_wp2_with fail
  rw [HW1.out]
  refine HR.out.mono ?_
  rintro e W3 ⟨M, rfl, hM, hWM, b3⟩
  obtain ⟨W5, hW5, r5, b5, z5⟩ := boxR W3 st o n cap (.map (some M))
  have HW5 := Lib.hid hW5
  have HB3 := Lib.hid (HB1.out.trans (b3.mono HB1.out.size))
  have HB5 := Lib.hid (HB3.out.trans (b5.mono HB3.out.size))
  have HC := Lib.hid (HF.out M W5)
  clear hM hWM b3 hW5 r5 b5 z5
  go_wp2_with fail
  rw [HW5.out]
  refine HC.out.mono ?_
  rintro e W6 ⟨rfl, b6⟩
  have HB6 := Lib.hid (HB5.out.trans (b6.mono HB5.out.size))
  clear b6
  go_wp2_with fail
  go_ret
  exact ⟨rfl, HB6.out⟩
set_option maxRecDepth 100000 in
set_option maxHeartbeats 4000000 in
theorem Most_wrong (st : Bool) (o : Option Addr) (xs : List ItemP) (cap : Nat) (hxl : xs.length ≤ 1000000) (hr : rightB xs 32 = false) (w : World) (aP aS : Addr) (hQ : GlobH w aP aS) (hA : AtI w o xs) :
    Calls Tryd.prog 16 #[patV st o xs.length cap] w fun e w' => e = .returned (.int .i64 0) ∧ Below w.heap.size w w' := by
  obtain ⟨w1, hw1⟩ : ∃ w1, w.alloc (.cells (patC st o xs.length cap) 24 (0, 0)) = w1 := ⟨_, rfl⟩
  have b1 : Below w.heap.size w w1 := by rw [← hw1]; exact (Below.refl _ _).alloc (Nat.le_refl _) _
  have r1 : w1.heap[w.heap.size]? = some (.cells (patC st o xs.length cap) 24 (0, 0)) := by rw [← hw1]; exact heap_alloc_new _ _
  obtain ⟨c0, c1⟩ := pat_cellsH r1
  have HR := Lib.hid (runnerOf_wrong st o xs cap hxl hr w1 aP aS (hQ.below b1) (hA.below b1))
  obtain ⟨n, hn⟩ : ∃ n, xs.length = n := ⟨_, rfl⟩
  rw [hn] at HR c1 hw1 ⊢
  have HW1 := Lib.hid hw1
  have HB1 := Lib.hid b1
  clear hw1 b1 r1 hn hA hr hxl hQ
  go_enter Tryd.func16, Tryd.ntmps16
  go_wp2_with fail
  rw [HW1.out]
  refine HR.out.mono ?_
  rintro e W3 ⟨rfl, b3⟩
  have HB3 := Lib.hid (HB1.out.trans (b3.mono HB1.out.size))
  obtain ⟨W5, hW5, r5, b5, z5⟩ := boxR W3 false none 0 0 (.map none)
  have HW5 := Lib.hid hW5
  have HB5 := Lib.hid (HB3.out.trans (b5.mono HB3.out.size))
  clear hW5 r5 b5 z5 b3
  go_wp2_with fail
  try rw [HW5.out]
  go_ret
  exact ⟨rfl, HB5.out⟩
set_option maxRecDepth 100000 in
set_option maxHeartbeats 4000000 in
theorem Done_right (st : Bool) (o : Option Addr) (xs : List ItemP) (cap : Nat) (hr : rightB xs 32 = true) (s : Int) (w : World) (hA : AtI w o xs) :
    Calls Tryd.prog 14 #[patV st o xs.length cap, .int .i64 s] w fun e w' => e = .returned (.bool (knowsB xs.length s && doneS xs s.toNat)) ∧ Below w.heap.size w w' := by
  obtain ⟨w1, hw1⟩ : ∃ w1, w.alloc (.cells (patC st o xs.length cap) 24 (0, 0)) = w1 := ⟨_, rfl⟩
  have b1 : Below w.heap.size w w1 := by rw [← hw1]; exact (Below.refl _ _).alloc (Nat.le_refl _) _
  have r1 : w1.heap[w.heap.size]? = some (.cells (patC st o xs.length cap) 24 (0, 0)) := by rw [← hw1]; exact heap_alloc_new _ _
  obtain ⟨c0, c1⟩ := pat_cellsH r1
  have HR := Lib.hid (runnerOf_right st o xs cap hr w1 (hA.below b1))
  have hlen := (rightB_parts hr).2.1
  have HF := Lib.hid (fun M W => knowsR_any st o xs.length cap (some M) hlen s W)
  have HD : Hid (∀ M W, knowsB xs.length s = true → Calls Tryd.prog 35 #[rnrV st o xs.length cap (.map (some M)), .int .i64 s] W fun e w' => e = .returned (.bool (doneS xs s.toNat)) ∧ Below W.heap.size W w') := Lib.hid fun M W hk => by
    unfold knowsB at hk
    have hk := of_decide_eq_true hk
    have h22 : 2 ^ (2 * xs.length + 1) ≤ 2 ^ 21 := Nat.pow_le_pow_right (by decide) (by omega)
    have h21 : (2 : Nat) ^ 21 = 2097152 := by decide
    have h32 : (2 : Nat) ^ 32 = 4294967296 := by decide
    have := doneR_any st o xs.length cap (some M) hlen s.toNat (by omega) W
    rwa [Int.toNat_of_nonneg hk.1] at this
  obtain ⟨n, hn⟩ : ∃ n, xs.length = n := ⟨_, rfl⟩
  obtain ⟨b, hb⟩ : ∃ b, knowsB xs.length s = b := ⟨_, rfl⟩
  obtain ⟨d, hd⟩ : ∃ d, doneS xs s.toNat = d := ⟨_, rfl⟩
  rw [hb] at HF HD ⊢
  rw [hd] at HD ⊢
  rw [hn] at HF HR HD c1 hw1 ⊢
  have HW1 := Lib.hid hw1
  have HB1 := Lib.hid b1
  clear hw1 b1 r1 hn hA hr hlen hb hd
  go_enter Tryd.func14, Tryd.ntmps14
  go_wp2_with fail
  rw [HW1.out]
  refine HR.out.mono ?_
  rintro e W3 ⟨M, rfl, hM, hWM, b3⟩
  obtain ⟨W5, hW5, r5, b5, z5⟩ := boxR W3 st o n cap (.map (some M))
  have HW5 := Lib.hid hW5
  have HB3 := Lib.hid (HB1.out.trans (b3.mono HB1.out.size))
  have HB5 := Lib.hid (HB3.out.trans (b5.mono HB3.out.size))
  have HC := Lib.hid (HF.out M W5)
  obtain ⟨f0, f1, f2⟩ := rnr_cells r5
  have HR5 := Lib.hid r5
  clear hM hWM b3 hW5 r5 b5 z5
  go_wp2_with fail
  rw [HW5.out]
  refine HC.out.mono ?_
  rintro e W6 ⟨rfl, b6⟩
  have HB6 := Lib.hid (HB5.out.trans (b6.mono HB5.out.size))
  obtain ⟨g0, g1, g2⟩ := rnr_cells (row_below HR5.out b6)
  clear b6 f0 f1 f2
  cases b with
  | false =>
    go_wp2_with fail
    go_ret
    exact ⟨rfl, HB6.out⟩
  | true =>
    have HE := Lib.hid (HD.out M W6 rfl)
    go_wp2_with fail
    refine HE.out.mono ?_
    rintro e W7 ⟨rfl, b7⟩
    have HB7 := Lib.hid (HB6.out.trans (b7.mono HB6.out.size))
    clear b7
    go_wp2_with fail
    go_ret
    exact ⟨by simp, HB7.out⟩
set_option maxRecDepth 100000 in
set_option maxHeartbeats 4000000 in
theorem Done_wrong (st : Bool) (o : Option Addr) (xs : List ItemP) (cap : Nat) (hxl : xs.length ≤ 1000000) (hr : rightB xs 32 = false) (s : Int) (w : World) (aP aS : Addr) (hQ : GlobH w aP aS) (hA : AtI w o xs) :
    Calls Tryd.prog 14 #[patV st o xs.length cap, .int .i64 s] w fun e w' => e = .returned (.bool false) ∧ Below w.heap.size w w' := by
  obtain ⟨w1, hw1⟩ : ∃ w1, w.alloc (.cells (patC st o xs.length cap) 24 (0, 0)) = w1 := ⟨_, rfl⟩
  have b1 : Below w.heap.size w w1 := by rw [← hw1]; exact (Below.refl _ _).alloc (Nat.le_refl _) _
  have r1 : w1.heap[w.heap.size]? = some (.cells (patC st o xs.length cap) 24 (0, 0)) := by rw [← hw1]; exact heap_alloc_new _ _
  obtain ⟨c0, c1⟩ := pat_cellsH r1
  have HR := Lib.hid (runnerOf_wrong st o xs cap hxl hr w1 aP aS (hQ.below b1) (hA.below b1))
  obtain ⟨n, hn⟩ : ∃ n, xs.length = n := ⟨_, rfl⟩
  rw [hn] at HR c1 hw1 ⊢
  have HW1 := Lib.hid hw1
  have HB1 := Lib.hid b1
  clear hw1 b1 r1 hn hA hr hxl hQ
  go_enter Tryd.func14, Tryd.ntmps14
  go_wp2_with fail
  rw [HW1.out]
  refine HR.out.mono ?_
  rintro e W3 ⟨rfl, b3⟩
  have HB3 := Lib.hid (HB1.out.trans (b3.mono HB1.out.size))
  obtain ⟨W5, hW5, r5, b5, z5⟩ := boxR W3 false none 0 0 (.map none)
  have HW5 := Lib.hid hW5
  have HB5 := Lib.hid (HB3.out.trans (b5.mono HB3.out.size))
  clear hW5 r5 b5 z5 b3
  go_wp2_with fail
  try rw [HW5.out]
  go_ret
  exact ⟨rfl, HB5.out⟩
set_option maxRecDepth 100000 in
set_option maxHeartbeats 4000000 in
theorem First_right (st : Bool) (o : Option Addr) (xs : List ItemP) (cap : Nat) (hr : rightB xs 32 = true) (w : World) (aP aS : Addr) (hQ : GlobH w aP aS) (hA : AtI w o xs) :
    Calls Tryd.prog 10 #[patV st o xs.length cap] w fun e w' => e = .returned (.tuple #[.int .i64 ((firstS xs : Nat) : Int), .int .i64 0]) ∧ Below w.heap.size w w' := by
  obtain ⟨w1, hw1⟩ : ∃ w1, w.alloc (.cells (patC st o xs.length cap) 24 (0, 0)) = w1 := ⟨_, rfl⟩
  have b1 : Below w.heap.size w w1 := by rw [← hw1]; exact (Below.refl _ _).alloc (Nat.le_refl _) _
  have r1 : w1.heap[w.heap.size]? = some (.cells (patC st o xs.length cap) 24 (0, 0)) := by rw [← hw1]; exact heap_alloc_new _ _
  obtain ⟨c0, c1⟩ := pat_cellsH r1
  have HR := Lib.hid (first_right st o xs cap hr w1 (hA.below b1))
  have HNUM := Lib.hid (fun W (hb : Below w.heap.size w W) => number_nilH (hQ.below hb))
  obtain ⟨v, hv⟩ : ∃ v, (.int .i64 ((firstS xs : Nat) : Int) : Value) = v := ⟨_, rfl⟩
  obtain ⟨n, hn⟩ : ∃ n, xs.length = n := ⟨_, rfl⟩
  rw [hv] at HR ⊢
  rw [hn] at HR c1 hw1 ⊢
  have HW1 := Lib.hid hw1
  have HB1 := Lib.hid b1
  have HV := Lib.hid hv
  clear hw1 b1 r1 hn hA hr hQ hv
  go_enter Tryd.func10, Tryd.ntmps10
  go_wp2_with fail
  rw [HW1.out]
  refine HR.out.mono ?_
  rintro e W3 ⟨rfl, b3⟩
  have HB3 := Lib.hid (HB1.out.trans (b3.mono HB1.out.size))
  have HC := Lib.hid (HNUM.out W3 HB3.out)
  clear b3
  go_wp2_with fail
  refine HC.out.mono ?_
  rintro e _ ⟨rfl, rfl⟩
  go_wp2_with fail
  exact bodyPost_ret (results_tmp2 (t := 2) (u := 3) rfl _ _ _) rfl ⟨rfl, HB3.out⟩
set_option maxRecDepth 100000 in
set_option maxHeartbeats 4000000 in
theorem First_wrong (st : Bool) (o : Option Addr) (xs : List ItemP) (cap : Nat) (hxl : xs.length ≤ 1000000) (hr : rightB xs 32 = false) (w : World) (aP aS : Addr) (hQ : GlobH w aP aS) (hA : AtI w o xs) :
    Calls Tryd.prog 10 #[patV st o xs.length cap] w fun e w' => e = .returned (.tuple #[.int .i64 0, .int .i64 80]) ∧ Below w.heap.size w w' := by
  obtain ⟨w1, hw1⟩ : ∃ w1, w.alloc (.cells (patC st o xs.length cap) 24 (0, 0)) = w1 := ⟨_, rfl⟩
  have b1 : Below w.heap.size w w1 := by rw [← hw1]; exact (Below.refl _ _).alloc (Nat.le_refl _) _
  have r1 : w1.heap[w.heap.size]? = some (.cells (patC st o xs.length cap) 24 (0, 0)) := by rw [← hw1]; exact heap_alloc_new _ _
  obtain ⟨c0, c1⟩ := pat_cellsH r1
  have HR := Lib.hid (first_wrong st o xs cap hxl hr w1 aP aS (hQ.below b1) (hA.below b1))
  have HNUM := Lib.hid (fun W (hb : Below w.heap.size w W) => number_patH (hQ.below hb))
  obtain ⟨v, hv⟩ : ∃ v, (.int .i64 0 : Value) = v := ⟨_, rfl⟩
  obtain ⟨n, hn⟩ : ∃ n, xs.length = n := ⟨_, rfl⟩
  rw [hv] at HR ⊢
  rw [hn] at HR c1 hw1 ⊢
  have HW1 := Lib.hid hw1
  have HB1 := Lib.hid b1
  have HV := Lib.hid hv
  clear hw1 b1 r1 hn hA hr hQ hv hxl
  go_enter Tryd.func10, Tryd.ntmps10
  go_wp2_with fail
  rw [HW1.out]
  refine HR.out.mono ?_
  rintro e W3 ⟨rfl, b3⟩
  have HB3 := Lib.hid (HB1.out.trans (b3.mono HB1.out.size))
  have HC := Lib.hid (HNUM.out W3 HB3.out)
  clear b3
  go_wp2_with fail
  refine HC.out.mono ?_
  rintro e _ ⟨rfl, rfl⟩
  go_wp2_with fail
  exact bodyPost_ret (results_tmp2 (t := 2) (u := 3) rfl _ _ _) rfl ⟨rfl, HB3.out⟩
set_option maxRecDepth 100000 in
set_option maxHeartbeats 4000000 in
theorem stepped_right (st : Bool) (o : Option Addr) (xs : List ItemP) (cap : Nat) (hr : rightB xs 32 = true) (s c : Int) (hk : knowsB xs.length s = true) (w : World) (aP aS : Addr) (hQ : GlobH w aP aS) (hA : AtI w o xs) :
    Calls Tryd.prog 31 #[patV st o xs.length cap, .int .i64 s, .int .i64 c] w fun e w' => e = .returned (.tuple #[.int .i64 ((stepS xs st c s.toNat : Nat) : Int), .nilIface]) ∧ Below w.heap.size w w' := by
  obtain ⟨w1, hw1⟩ : ∃ w1, w.alloc (.cells (patC st o xs.length cap) 24 (0, 0)) = w1 := ⟨_, rfl⟩
  have b1 : Below w.heap.size w w1 := by rw [← hw1]; exact (Below.refl _ _).alloc (Nat.le_refl _) _
  have r1 : w1.heap[w.heap.size]? = some (.cells (patC st o xs.length cap) 24 (0, 0)) := by rw [← hw1]; exact heap_alloc_new _ _
  obtain ⟨c0, c1⟩ := pat_cellsH r1
  have HR := Lib.hid (runnerOf_right st o xs cap hr w1 (hA.below b1))
  obtain ⟨hlen, hhow, hfit⟩ := rightB_fits hr
  have HF := Lib.hid (fun M W => knowsR_any st o xs.length cap (some M) hlen s W)
  rw [hk] at HF
  have HST : Hid (∀ M W, w.heap.size ≤ M → Below w.heap.size w W → WayMap W M 0 (fun _ => False) → Calls Tryd.prog 50 #[rnrV st o xs.length cap (.map (some M)), .int .i64 s, .int .i64 c] W fun e w' => e = .returned (.int .i64 ((stepS xs st c s.toNat : Nat) : Int)) ∧ Below w.heap.size w w') := Lib.hid fun M W hM hb hw => by
    unfold knowsB at hk
    have hk := of_decide_eq_true hk
    have hp : 0 < 2 ^ (2 * xs.length + 1) := Nat.pow_pos (by decide)
    have := stepR_any st o xs cap M 0 (fun _ => False) s.toNat c hlen hhow hfit (by omega) (by omega) w W aP aS hQ hA hb hM hw (fun _ h => h.elim)
    rw [Int.toNat_of_nonneg hk.1] at this
    refine this.mono ?_
    rintro e w' ⟨rfl, hm, _⟩
    exact ⟨rfl, Moves.below hb hb.size hm (fun k hk => by omega)⟩
  obtain ⟨z, hz⟩ : ∃ z, stepS xs st c s.toNat = z := ⟨_, rfl⟩
  rw [hz] at HST ⊢
  obtain ⟨n, hn⟩ : ∃ n, xs.length = n := ⟨_, rfl⟩
  rw [hn] at HF HST HR c1 hw1 ⊢
  have HW1 := Lib.hid hw1
  have HB1 := Lib.hid b1
  have HGL := Lib.hid hQ
  clear hw1 b1 r1 hn hA hr hQ hlen hhow hfit hk hz
  go_enter Tryd.func31, Tryd.ntmps31
  go_wp2_with fail
  refine wp_scope_straight ?_
  go_wp2_with fail
  rw [HW1.out]
  refine HR.out.mono ?_
  rintro e W3 ⟨M, rfl, hM, hWM, b3⟩
  obtain ⟨W5, hW5, r5, b5, z5⟩ := boxR W3 st o n cap (.map (some M))
  have HW5 := Lib.hid hW5
  have HB3 := Lib.hid (HB1.out.trans (b3.mono HB1.out.size))
  have HB5 := Lib.hid (HB3.out.trans (b5.mono HB3.out.size))
  have HC := Lib.hid (HF.out M W5)
  obtain ⟨f0, f1, f2⟩ := rnr_cells r5
  have HR5 := Lib.hid r5
  have HWM := Lib.hid (hWM.below b5)
  have hM1 : w.heap.size ≤ M := Nat.le_trans HB1.out.size hM
  clear hM hWM b3 hW5 r5 b5 z5
  go_wp2_with fail
  rw [HW5.out]
  refine HC.out.mono ?_
  rintro e W6 ⟨rfl, b6⟩
  have HB6 := Lib.hid (HB5.out.trans (b6.mono HB5.out.size))
  obtain ⟨g0, g1, g2⟩ := rnr_cells (row_below HR5.out b6)
  have HE := Lib.hid (HST.out M W6 hM1 HB6.out (HWM.out.below b6))
  clear b6 f0 f1 f2 hM1
  go_wp2_with fail
  refine HE.out.mono ?_
  rintro e W7 ⟨rfl, b7⟩
  have HB7 := Lib.hid b7
  clear b7
  go_wp2_with fail
  rw [Exit.noGoto_ret]
  exact bodyPost_ret (results_tmp2 (t := 6) (u := 7) rfl _ _ _) rfl ⟨rfl, HB7.out⟩
set_option maxRecDepth 100000 in
set_option maxHeartbeats 4000000 in
theorem stepped_not (st : Bool) (o : Option Addr) (xs : List ItemP) (cap : Nat) (hr : rightB xs 32 = true) (s c : Int) (hk : knowsB xs.length s = false) (w : World) (aP aS : Addr) (hQ : GlobH w aP aS) (hA : AtI w o xs) :
    Calls Tryd.prog 31 #[patV st o xs.length cap, .int .i64 s, .int .i64 c] w fun e w' => e = .returned (.tuple #[.int .i64 0, errVQ aS]) ∧ Below w.heap.size w w' := by
  obtain ⟨w1, hw1⟩ : ∃ w1, w.alloc (.cells (patC st o xs.length cap) 24 (0, 0)) = w1 := ⟨_, rfl⟩
  have b1 : Below w.heap.size w w1 := by rw [← hw1]; exact (Below.refl _ _).alloc (Nat.le_refl _) _
  have r1 : w1.heap[w.heap.size]? = some (.cells (patC st o xs.length cap) 24 (0, 0)) := by rw [← hw1]; exact heap_alloc_new _ _
  obtain ⟨c0, c1⟩ := pat_cellsH r1
  have HR := Lib.hid (runnerOf_right st o xs cap hr w1 (hA.below b1))
  obtain ⟨hlen, hhow, hfit⟩ := rightB_fits hr
  have HF := Lib.hid (fun M W => knowsR_any st o xs.length cap (some M) hlen s W)
  rw [hk] at HF
  obtain ⟨n, hn⟩ : ∃ n, xs.length = n := ⟨_, rfl⟩
  rw [hn] at HF HR c1 hw1 ⊢
  have HW1 := Lib.hid hw1
  have HB1 := Lib.hid b1
  have HGL := Lib.hid hQ
  clear hw1 b1 r1 hn hA hr hQ hlen hhow hfit hk
  go_enter Tryd.func31, Tryd.ntmps31
  go_wp2_with fail
  refine wp_scope_forth 0 (by simp [findLabel]; rfl) ?_
  go_wp2_with fail
  rw [HW1.out]
  refine HR.out.mono ?_
  rintro e W3 ⟨M, rfl, hM, hWM, b3⟩
  obtain ⟨W5, hW5, r5, b5, z5⟩ := boxR W3 st o n cap (.map (some M))
  have HW5 := Lib.hid hW5
  have HB3 := Lib.hid (HB1.out.trans (b3.mono HB1.out.size))
  have HB5 := Lib.hid (HB3.out.trans (b5.mono HB3.out.size))
  have HC := Lib.hid (HF.out M W5)
  obtain ⟨f0, f1, f2⟩ := rnr_cells r5
  have HR5 := Lib.hid r5
  have HWM := Lib.hid (hWM.below b5)
  have hM1 : w.heap.size ≤ M := Nat.le_trans HB1.out.size hM
  clear hM hWM b3 hW5 r5 b5 z5
  go_wp2_with fail
  rw [HW5.out]
  refine HC.out.mono ?_
  rintro e W6 ⟨rfl, b6⟩
  have HB6 := Lib.hid (HB5.out.trans (b6.mono HB5.out.size))
  obtain ⟨g0, g1, g2⟩ := rnr_cells (row_below HR5.out b6)
  have gs := (HGL.out.below HB6.out).sta
  clear b6 f0 f1 f2 hM1
  go_wp2_with fail
  refine wp_goto ?_
  simp only [Exit.then]
  show Exit.jump _ _ _ _ _ _
  simp only [Exit.jump, true_and]
  go_wp2_with fail
  try rw [HW5.out]
  rw [Exit.noGoto_ret]
  exact bodyPost_ret (results_tmp2 (t := 6) (u := 7) rfl _ _ _) rfl ⟨rfl, HB6.out⟩
set_option maxRecDepth 100000 in
set_option maxHeartbeats 4000000 in
theorem stepped_wrong (st : Bool) (o : Option Addr) (xs : List ItemP) (cap : Nat) (hxl : xs.length ≤ 1000000) (hr : rightB xs 32 = false) (s c : Int) (w : World) (aP aS : Addr) (hQ : GlobH w aP aS) (hA : AtI w o xs) :
    Calls Tryd.prog 31 #[patV st o xs.length cap, .int .i64 s, .int .i64 c] w fun e w' => e = .returned (.tuple #[.int .i64 0, errVQ aP]) ∧ Below w.heap.size w w' := by
  obtain ⟨w1, hw1⟩ : ∃ w1, w.alloc (.cells (patC st o xs.length cap) 24 (0, 0)) = w1 := ⟨_, rfl⟩
  have b1 : Below w.heap.size w w1 := by rw [← hw1]; exact (Below.refl _ _).alloc (Nat.le_refl _) _
  have r1 : w1.heap[w.heap.size]? = some (.cells (patC st o xs.length cap) 24 (0, 0)) := by rw [← hw1]; exact heap_alloc_new _ _
  obtain ⟨c0, c1⟩ := pat_cellsH r1
  have HR := Lib.hid (runnerOf_wrong st o xs cap hxl hr w1 aP aS (hQ.below b1) (hA.below b1))
  obtain ⟨n, hn⟩ : ∃ n, xs.length = n := ⟨_, rfl⟩
  rw [hn] at HR c1 hw1 ⊢
  have HW1 := Lib.hid hw1
  have HB1 := Lib.hid b1
  have HGL := Lib.hid hQ
  clear hw1 b1 r1 hn hA hr hQ hxl
  go_enter Tryd.func31, Tryd.ntmps31
  go_wp2_with fail
  refine wp_scope_forth 0 (by simp [findLabel]; rfl) ?_
  go_wp2_with fail
  rw [HW1.out]
  refine HR.out.mono ?_
  rintro e W3 ⟨rfl, b3⟩
  have HB3 := Lib.hid (HB1.out.trans (b3.mono HB1.out.size))
  obtain ⟨W5, hW5, r5, b5, z5⟩ := boxR W3 false none 0 0 (.map none)
  have HW5 := Lib.hid hW5
  have HB5 := Lib.hid (HB3.out.trans (b5.mono HB3.out.size))
  clear hW5 r5 b5 z5 b3
  go_wp2_with fail
  refine wp_goto ?_
  simp only [Exit.then]
  show Exit.jump _ _ _ _ _ _
  simp only [Exit.jump, true_and]
  go_wp2_with fail
  try rw [HW5.out]
  rw [Exit.noGoto_ret]
  exact bodyPost_ret (results_tmp2 (t := 6) (u := 7) rfl _ _ _) rfl ⟨rfl, HB5.out⟩
set_option maxRecDepth 100000 in
set_option maxHeartbeats 4000000 in
theorem Step_right (st : Bool) (o : Option Addr) (xs : List ItemP) (cap : Nat) (hr : rightB xs 32 = true) (s c : Int) (hk : knowsB xs.length s = true) (w : World) (aP aS : Addr) (hQ : GlobH w aP aS) (hA : AtI w o xs) :
    Calls Tryd.prog 12 #[patV st o xs.length cap, .int .i64 s, .int .i64 c] w fun e w' => e = .returned (.tuple #[.int .i64 ((stepS xs st c s.toNat : Nat) : Int), .int .i64 0]) ∧ Below w.heap.size w w' := by
  obtain ⟨w1, hw1⟩ : ∃ w1, w.alloc (.cells (patC st o xs.length cap) 24 (0, 0)) = w1 := ⟨_, rfl⟩
  have b1 : Below w.heap.size w w1 := by rw [← hw1]; exact (Below.refl _ _).alloc (Nat.le_refl _) _
  have r1 : w1.heap[w.heap.size]? = some (.cells (patC st o xs.length cap) 24 (0, 0)) := by rw [← hw1]; exact heap_alloc_new _ _
  obtain ⟨c0, c1⟩ := pat_cellsH r1
  have HR := Lib.hid (stepped_right st o xs cap hr s c hk w1 aP aS (hQ.below b1) (hA.below b1))
  have HNUM := Lib.hid (fun W (hb : Below w.heap.size w W) => number_nilH (hQ.below hb))
  obtain ⟨v, hv⟩ : ∃ v, (.int .i64 ((stepS xs st c s.toNat : Nat) : Int) : Value) = v := ⟨_, rfl⟩
  obtain ⟨n, hn⟩ : ∃ n, xs.length = n := ⟨_, rfl⟩
  rw [hv] at HR ⊢
  rw [hn] at HR c1 hw1 ⊢
  have HW1 := Lib.hid hw1
  have HB1 := Lib.hid b1
  have HV := Lib.hid hv
  clear hw1 b1 r1 hn hA hr hQ hv hk
  go_enter Tryd.func12, Tryd.ntmps12
  go_wp2_with fail
  rw [HW1.out]
  refine HR.out.mono ?_
  rintro e W3 ⟨rfl, b3⟩
  have HB3 := Lib.hid (HB1.out.trans (b3.mono HB1.out.size))
  have HC := Lib.hid (HNUM.out W3 HB3.out)
  clear b3
  go_wp2_with fail
  refine HC.out.mono ?_
  rintro e _ ⟨rfl, rfl⟩
  go_wp2_with fail
  exact bodyPost_ret (results_tmp2 (t := 6) (u := 7) rfl _ _ _) rfl ⟨rfl, HB3.out⟩
set_option maxRecDepth 100000 in
set_option maxHeartbeats 4000000 in
theorem Step_not (st : Bool) (o : Option Addr) (xs : List ItemP) (cap : Nat) (hr : rightB xs 32 = true) (s c : Int) (hk : knowsB xs.length s = false) (w : World) (aP aS : Addr) (hQ : GlobH w aP aS) (hA : AtI w o xs) :
    Calls Tryd.prog 12 #[patV st o xs.length cap, .int .i64 s, .int .i64 c] w fun e w' => e = .returned (.tuple #[.int .i64 0, .int .i64 80]) ∧ Below w.heap.size w w' := by
  obtain ⟨w1, hw1⟩ : ∃ w1, w.alloc (.cells (patC st o xs.length cap) 24 (0, 0)) = w1 := ⟨_, rfl⟩
  have b1 : Below w.heap.size w w1 := by rw [← hw1]; exact (Below.refl _ _).alloc (Nat.le_refl _) _
  have r1 : w1.heap[w.heap.size]? = some (.cells (patC st o xs.length cap) 24 (0, 0)) := by rw [← hw1]; exact heap_alloc_new _ _
  obtain ⟨c0, c1⟩ := pat_cellsH r1
  have HR := Lib.hid (stepped_not st o xs cap hr s c hk w1 aP aS (hQ.below b1) (hA.below b1))
  have HNUM := Lib.hid (fun W (hb : Below w.heap.size w W) => number_staH (hQ.below hb))
  obtain ⟨v, hv⟩ : ∃ v, (.int .i64 0 : Value) = v := ⟨_, rfl⟩
  obtain ⟨n, hn⟩ : ∃ n, xs.length = n := ⟨_, rfl⟩
  rw [hv] at HR ⊢
  rw [hn] at HR c1 hw1 ⊢
  have HW1 := Lib.hid hw1
  have HB1 := Lib.hid b1
  have HV := Lib.hid hv
  clear hw1 b1 r1 hn hA hr hQ hv hk
  go_enter Tryd.func12, Tryd.ntmps12
  go_wp2_with fail
  rw [HW1.out]
  refine HR.out.mono ?_
  rintro e W3 ⟨rfl, b3⟩
  have HB3 := Lib.hid (HB1.out.trans (b3.mono HB1.out.size))
  have HC := Lib.hid (HNUM.out W3 HB3.out)
  clear b3
  go_wp2_with fail
  refine HC.out.mono ?_
  rintro e _ ⟨rfl, rfl⟩
  go_wp2_with fail
  exact bodyPost_ret (results_tmp2 (t := 6) (u := 7) rfl _ _ _) rfl ⟨rfl, HB3.out⟩
set_option maxRecDepth 100000 in
set_option maxHeartbeats 4000000 in
theorem Step_wrong (st : Bool) (o : Option Addr) (xs : List ItemP) (cap : Nat) (hxl : xs.length ≤ 1000000) (hr : rightB xs 32 = false) (s c : Int) (w : World) (aP aS : Addr) (hQ : GlobH w aP aS) (hA : AtI w o xs) :
    Calls Tryd.prog 12 #[patV st o xs.length cap, .int .i64 s, .int .i64 c] w fun e w' => e = .returned (.tuple #[.int .i64 0, .int .i64 80]) ∧ Below w.heap.size w w' := by
  obtain ⟨w1, hw1⟩ : ∃ w1, w.alloc (.cells (patC st o xs.length cap) 24 (0, 0)) = w1 := ⟨_, rfl⟩
  have b1 : Below w.heap.size w w1 := by rw [← hw1]; exact (Below.refl _ _).alloc (Nat.le_refl _) _
  have r1 : w1.heap[w.heap.size]? = some (.cells (patC st o xs.length cap) 24 (0, 0)) := by rw [← hw1]; exact heap_alloc_new _ _
  obtain ⟨c0, c1⟩ := pat_cellsH r1
  have HR := Lib.hid (stepped_wrong st o xs cap hxl hr s c w1 aP aS (hQ.below b1) (hA.below b1))
  have HNUM := Lib.hid (fun W (hb : Below w.heap.size w W) => number_patH (hQ.below hb))
  obtain ⟨v, hv⟩ : ∃ v, (.int .i64 0 : Value) = v := ⟨_, rfl⟩
  obtain ⟨n, hn⟩ : ∃ n, xs.length = n := ⟨_, rfl⟩
  rw [hv] at HR ⊢
  rw [hn] at HR c1 hw1 ⊢
  have HW1 := Lib.hid hw1
  have HB1 := Lib.hid b1
  have HV := Lib.hid hv
  clear hw1 b1 r1 hn hA hr hQ hv hxl
  go_enter Tryd.func12, Tryd.ntmps12
  go_wp2_with fail
  rw [HW1.out]
  refine HR.out.mono ?_
  rintro e W3 ⟨rfl, b3⟩
  have HB3 := Lib.hid (HB1.out.trans (b3.mono HB1.out.size))
  have HC := Lib.hid (HNUM.out W3 HB3.out)
  clear b3
  go_wp2_with fail
  refine HC.out.mono ?_
  rintro e _ ⟨rfl, rfl⟩
  go_wp2_with fail
  exact bodyPost_ret (results_tmp2 (t := 6) (u := 7) rfl _ _ _) rfl ⟨rfl, HB3.out⟩
end Go.Proofs.YtjacebnlikhjnaaDoor

namespace Go.Proofs.YtjacebnlikhjnaaDoor
open Go.RowKit Go.Shelf Go.Maps
attribute [local go_sem] Oper.semAt_some

/-- A value more to a row of the call's own. -/
def AppLaw (t e : TypeId) (V : Value → Prop) : Prop := ∀ (W : World) (base k : Nat) (v : Value) (xs : List Value) (u : Value), V u → W.ownsRow base e 1 v k xs → k ≤ 2000000 → base ≤ W.heap.size →
  ∃ g cap w6, (appSem #[t, t] t #[v, .slice (some ⟨W.heap.size, 0, none⟩) 1 1]).run Tryd.prog (W.alloc (.cells #[u] e)) = .ok (.slice (some ⟨g, 0, none⟩) (k + 1) cap) w6 ∧
      w6.ownsRow base e 1 (.slice (some ⟨g, 0, none⟩) (k + 1) cap) (k + 1) (xs ++ [u]) ∧ (W.alloc (.cells #[u] e)).grownBy w6 v.ownBlock ∧ (v.ownBlock = some g ∨ W.heap.size < g)
theorem appLaw_of {t e : TypeId} {z : Value} {b : Nat} {V : Value → Prop} (hinf : (Tryd.prog.info? e).map (fun i => (i.zero, i.size, i.bytes)) = some (some z, 1, b)) (ht : Tryd.prog.underlying t = some (.slice e)) (hb : b ≤ 8) (hz : z.cells.size = 1) (hV : ∀ u, V u → u.oneCell' = true) : AppLaw t e V := fun W base k v xs u hu ho hk hbase => by
  obtain ⟨i0, hi, hz0, hz1, hz2⟩ := info_parts hinf
  have hb1 : Below W.heap.size W (W.alloc (.cells #[u] e)) := (Below.refl _ _).alloc (Nat.le_refl _) _
  obtain ⟨v', w6, hr, h2, h3, h4, h5⟩ := run_append_own_at (P := Tryd.prog) _ base t t e i0 z 1 b ht hi hz0 hz1 hz2 hz (by decide) v k xs (own_below ho hb1) ⟨W.heap.size, 0, none⟩ 1 1 [u] rfl
    (cell_one_new _ _ _) (by simpa using hV u hu) (by unfold maxLen; omega) (by
      have : (k + 1) * b ≤ 2000001 * 8 := Nat.mul_le_mul (by omega) hb
      omega) (by simp; omega)
  obtain ⟨g, cap, rfl⟩ := ownsRow_succ h2
  refine ⟨g, cap, w6, hr, h2, h3, ?_⟩
  rcases h5 with h | h
  · exact .inl (h.symm.trans (by simp [Value.ownBlock]))
  · right
    have : g = (W.alloc (.cells #[u] e)).heap.size := by simpa [Value.ownBlock] using h
    rw [World.size_alloc] at this
    omega
theorem infoI64H : (Tryd.prog.info? 2).map (fun i => (i.zero, i.size, i.bytes)) = some (some (.int .i64 0), 1, 8) := by kernel_rfl
theorem infoBolH : (Tryd.prog.info? 4).map (fun i => (i.zero, i.size, i.bytes)) = some (some (.bool false), 1, 1) := by kernel_rfl
theorem app_i64 : AppLaw 36 2 fun u => ∃ s : Int, u = .int .i64 s := appLaw_of infoI64H Tryd.underlying36 (by decide) rfl (by rintro _ ⟨s, rfl⟩; rfl)
theorem app_bol : AppLaw 39 4 fun u => ∃ s : Bool, u = .bool s := appLaw_of infoBolH Tryd.underlying39 (by decide) rfl (by rintro _ ⟨s, rfl⟩; rfl)
/-- What holds while the sets are told of: the runner's box a8, the function's box a4, the list's box a10. -/
structure ToldI (w : World) (a4 a8 a10 Rb Lb : Nat) (st : Bool) (o : Option Addr) (n cap M : Nat) (tf t e : TypeId) (fv : Value) (vals : List Value) (X : Nat → Prop) (W : World) : Prop where
  rb : W.heap[a8]? = some (rnrO st o n cap (.map (some M)))
  fb : Boxed W a4 tf fv
  ab : ∃ v, Boxed W a10 t v ∧ W.ownsRow (w.heap.size + 1) e 1 v vals.length vals ∧ ∀ k, v.ownBlock = some k → ¬ X k ∧ k ≠ Rb ∧ k ≠ Lb ∧ k ≠ a4 ∧ k ≠ a8 ∧ k ≠ a10
  nx : ¬ X a4 ∧ ¬ X a8 ∧ ¬ X a10
  lo : ∀ k, X k → w.heap.size ≤ k
  bw : Below w.heap.size w W
  lt : Rb < W.heap.size ∧ Lb < W.heap.size
theorem ToldI.moves {w A B : World} {a4 a8 a10 Rb Lb : Nat} {st : Bool} {o : Option Addr} {n cap M : Nat} {tf t e : TypeId} {fv : Value} {vals : List Value} {X X' : Nat → Prop} (h : ToldI w a4 a8 a10 Rb Lb st o n cap M tf t e fv vals X A) (hm : Moves X A B) (hX : ∀ k, X' k → (X k ∨ A.heap.size ≤ k) ∧ k < B.heap.size) : ToldI w a4 a8 a10 Rb Lb st o n cap M tf t e fv vals X' B := by
  obtain ⟨v, h1, h2, h3⟩ := h.ab
  have l4 := (Array.getElem?_eq_some_iff.1 (show A.heap[a4]? = _ from h.fb)).1
  have l8 := (Array.getElem?_eq_some_iff.1 h.rb).1
  have l10 := (Array.getElem?_eq_some_iff.1 (show A.heap[a10]? = _ from h1)).1
  have old : ∀ k, k < A.heap.size → ¬ X k → ¬ X' k := fun k hk hx hx' => by
    rcases (hX k hx').1 with h5 | h5
    · exact hx h5
    · omega
  have := hm.size
  exact ⟨row_keep h.rb hm h.nx.2.1, row_keep h.fb hm h.nx.1, ⟨v, row_keep h1 hm h.nx.2.2, own_movesH h2 hm fun k hk => (h3 k hk).1, fun k hk => ⟨old k (h2.lt k hk).2 (h3 k hk).1, (h3 k hk).2⟩⟩, ⟨old _ l4 h.nx.1, old _ l8 h.nx.2.1, old _ l10 h.nx.2.2⟩, fun k hk => by
    rcases (hX k hk).1 with h5 | h5
    · exact h.lo k h5
    · have := h.bw.size; omega, Moves.below h.bw h.bw.size hm h.lo, ⟨by have := h.lt; omega, by have := h.lt; omega⟩⟩
/-- One value more. -/
theorem ToldI.app {w W : World} {a4 a8 a10 Rb Lb : Nat} {st : Bool} {o : Option Addr} {n cap M : Nat} {tf t e : TypeId} {fv : Value} {vals : List Value} {X : Nat → Prop} {V : Value → Prop} (hA : AppLaw t e V) (h : ToldI w a4 a8 a10 Rb Lb st o n cap M tf t e fv vals X W) (ha : w.heap.size ≤ a10 ∧ a10 ≠ a4 ∧ a10 ≠ a8 ∧ a10 ≠ Rb ∧ a10 ≠ Lb) (hXl : ∀ k, X k → k < W.heap.size) (hl : vals.length ≤ 2000) (u : Value) (hu : V u) :
    ∃ o' c' g cap' w6, W.cell? ⟨a10, 0, none⟩ = some (.slice o' vals.length c') ∧ (appSem #[t, t] t #[.slice o' vals.length c', .slice (some ⟨W.heap.size, 0, none⟩) 1 1]).run Tryd.prog (W.alloc (.cells #[u] e)) = .ok (.slice (some ⟨g, 0, none⟩) (vals.length + 1) cap') w6 ∧
      w6.cell? ⟨a10, 0, none⟩ = some (.slice o' vals.length c') ∧ w6.frozen? ⟨a10, 0, none⟩ = false ∧
      ToldI w a4 a8 a10 Rb Lb st o n cap M tf t e fv (vals ++ [u]) X (w6.setCell ⟨a10, 0, none⟩ (.slice (some ⟨g, 0, none⟩) (vals.length + 1) cap')) ∧
      Moves (fun k => ¬ X k ∧ ¬ SetsDep w Rb Lb k) W (w6.setCell ⟨a10, 0, none⟩ (.slice (some ⟨g, 0, none⟩) (vals.length + 1) cap')) ∧ w6.heap[a8]? = some (rnrO st o n cap (.map (some M))) ∧ Boxed w6 a4 tf fv := by
  obtain ⟨v, h1, h2, h3⟩ := h.ab
  have l4 := (Array.getElem?_eq_some_iff.1 (show W.heap[a4]? = _ from h.fb)).1
  have l8 := (Array.getElem?_eq_some_iff.1 h.rb).1
  have l10 := (Array.getElem?_eq_some_iff.1 (show W.heap[a10]? = _ from h1)).1
  obtain ⟨o', c', rfl⟩ := own_form h2
  have hws := h.bw.size
  obtain ⟨g, cap', w6, hrun, hown, hgr, hwh⟩ := hA W _ _ _ _ u hu h2 (by omega) (by omega)
  have b1 : Below W.heap.size W (W.alloc (.cells #[u] e)) := (Below.refl _ _).alloc (Nat.le_refl _) _
  have hlt := h2.lt
  have m6 : Moves (fun k => (Value.slice o' vals.length c').ownBlock = some k) W w6 := (Moves.of_below b1).trans (moves_grownH hgr)
  have n6 : Boxed w6 a10 t (.slice o' vals.length c') := row_keep h1 m6 (fun e => (h3 _ e).2.2.2.2.2 rfl)
  have m10 : Moves (fun k => k = a10) w6 (w6.setCell ⟨a10, 0, none⟩ (.slice (some ⟨g, 0, none⟩) (vals.length + 1) cap')) := Moves.setCell rfl
  have MV : Moves (fun k => k = a10 ∨ (Value.slice o' vals.length c').ownBlock = some k) W (w6.setCell ⟨a10, 0, none⟩ (.slice (some ⟨g, 0, none⟩) (vals.length + 1) cap')) := (m6.mono fun k e => .inr e).trans (m10.mono fun k e => .inl e)
  have hg : ¬ X g ∧ g ≠ Rb ∧ g ≠ Lb ∧ g ≠ a4 ∧ g ≠ a8 ∧ g ≠ a10 := by
    rcases hwh with h5 | h5
    · exact h3 g h5
    · have := h.lt
      exact ⟨fun hx => by have := hXl g hx; omega, by omega, by omega, by omega, by omega, by omega⟩
  have s6 := m6.size
  refine ⟨o', c', g, cap', w6, h1.cell, hrun, n6.cell, n6.frozen, ⟨row_keep h.rb MV ?_, row_keep h.fb MV ?_, ⟨_, n6.set _, ?_, ?_⟩, h.nx, h.lo, Moves.below h.bw hws MV ?_, ?_⟩, MV.mono ?_, row_keep h.rb m6 (fun e => (h3 _ e).2.2.2.2.1 rfl), row_keep h.fb m6 (fun e => (h3 _ e).2.2.2.1 rfl)⟩
  · rintro (e1 | e1)
    · exact ha.2.2.1 e1.symm
    · exact (h3 _ e1).2.2.2.2.1 rfl
  · rintro (e1 | e1)
    · exact ha.2.1 e1.symm
    · exact (h3 _ e1).2.2.2.1 rfl
  · have := own_movesH hown m10 (fun k hk => by
      obtain rfl : g = k := by simpa [Value.ownBlock] using hk
      exact hg.2.2.2.2.2)
    rw [List.length_append]
    exact this
  · intro k hk
    obtain rfl : g = k := by simpa [Value.ownBlock] using hk
    exact hg
  · rintro k (rfl | hk)
    · exact ha.1
    · have := (hlt k hk).1; omega
  · have := h.lt
    have := MV.size
    omega
  · rintro k (rfl | hk)
    · exact ⟨h.nx.2.2, by rintro (h5 | h5 | h5) <;> omega⟩
    · have h6 := h3 k hk
      have := (hlt k hk).1
      exact ⟨h6.1, by rintro (h5 | h5 | h5); · omega
                      · exact h6.2.1 h5
                      · exact h6.2.2.1 h5⟩
end Go.Proofs.YtjacebnlikhjnaaDoor
