/- Shaken by bunq.py. -/
import Derived.Deep.QuietTactic
import Derived.Maps.AppendAt
import Derived.Test.YtaoooocalpkhjaaGreatDoorBuq1
import Derived.Lib.IndexLaws
import Derived.Test.YtaoooocalpkhjaaGreatDoorBuq5
import Derived.Test.YtaoooocalpkhjaaGreatDoorBuq6
import Derived.Test.YtaoooocalpkhjaaGreatDoorBuq2
namespace Go.Proofs.YtaoooocalpkhjaaGreatDoor
open Go.RowKit Go.Shelf Go.Maps
attribute [local go_sem] Oper.semAt_some

section
variable {P : Program}
end
theorem two_set {w : World} {g : Nat} {u v : Value} {t : TypeId} (a b : Value) (h : w.heap[g]? = some (.cells #[u, v] t (0, 0))) :
    ((w.setCell ⟨g, 0, none⟩ a).setCell ⟨g, 1, none⟩ b).heap[g]? = some (.cells #[a, b] t (0, 0)) ∧ Moves (fun k => k = g) w ((w.setCell ⟨g, 0, none⟩ a).setCell ⟨g, 1, none⟩ b) := by
  have h1 : (w.setCell ⟨g, 0, none⟩ a).heap[g]? = some (.cells #[a, v] t (0, 0)) := by rw [heap_setCell_same _ _ _ _ _ _ h]; rfl
  exact ⟨by rw [heap_setCell_same _ _ _ _ _ _ h1]; rfl, (Moves.setCell (S := fun k => k = g) rfl).trans (Moves.setCell (S := fun k => k = g) rfl)⟩
end Go.Proofs.YtaoooocalpkhjaaGreatDoor
namespace Go.Proofs.YtaoooocalpkhjaaGreatDoor
open Go.RowKit Go.Shelf Go.Maps
attribute [local go_sem] Oper.semAt_some
attribute [local go_sem ↓] app_hide

theorem own_rowJ {w : World} {base n cap : Nat} {o : Option Addr} {e : TypeId} {size : Nat} {xs : List Value} {k : Nat} (h : w.ownsRow base e size (.slice o n cap) n xs) (hk : (Value.slice o n cap).ownBlock = some k) : base ≤ k := by
  rcases h.2 with ⟨hv, _⟩ | ⟨g, cap', cur, hv, hg, _⟩
  · cases hv; cases hk
  · cases hv
    simp [Value.ownBlock] at hk
    omega
end Go.Proofs.YtaoooocalpkhjaaGreatDoor
namespace Go.Proofs.YtaoooocalpkhjaaGreatDoor
open Go.RowKit Go.Shelf Go.Maps
attribute [local go_sem] Oper.semAt_some

abbrev zeroR : Array Value := #[.bool false, .slice none 0 0, .bool false, .slice none 0 0, .bool false]
end Go.Proofs.YtaoooocalpkhjaaGreatDoor
namespace Go.Proofs.YtaoooocalpkhjaaGreatDoor
open Go.RowKit Go.Shelf Go.Maps

theorem infoRul : (Tryz.prog.info? 59).map (fun i => (i.zero, i.size, i.bytes)) = some (some (.agg zeroR), 5, 72) := by kernel_rfl
def rulsC (xs : List RulX) : List Value := xs.flatMap fun x => (rulC x).toList
theorem rulsC_snoc (xs : List RulX) (x : RulX) : rulsC (xs ++ [x]) = rulsC xs ++ (rulC x).toList := by
  unfold rulsC
  rw [List.flatMap_append]
  simp
end Go.Proofs.YtaoooocalpkhjaaGreatDoor
namespace Go.Proofs.YtaoooocalpkhjaaGreatDoor
open Go.RowKit Go.Shelf Go.Maps
attribute [local go_sem] Oper.semAt_some
attribute [local go_sem ↓] app_hide

theorem rul_own {W : World} {base k : Nat} {v : Value} {xs : List Value} (x : RulX) (ho : W.ownsRow base 59 5 v k xs) (hk : k ≤ 1000) (hbase : base ≤ W.heap.size) :
    ∃ g cap w6, (appSem #[22, 22] 22 #[v, .slice (some ⟨W.heap.size, 0, none⟩) 1 1]).run Tryz.prog (W.alloc (rulO x)) = .ok (.slice (some ⟨g, 0, none⟩) (k + 1) cap) w6 ∧
      w6.ownsRow base 59 5 (.slice (some ⟨g, 0, none⟩) (k + 1) cap) (k + 1) (xs ++ (rulC x).toList) ∧ (W.alloc (rulO x)).grownBy w6 v.ownBlock ∧ (∀ j, (Value.slice (some ⟨g, 0, none⟩) (k + 1) cap).ownBlock = some j → v.ownBlock = some j ∨ j = W.heap.size + 1) := by
  obtain ⟨i0, hi, hz0, hz1, hz2⟩ := info_parts infoRul
  have hb : Below W.heap.size W (W.alloc (rulO x)) := (Below.refl _ _).alloc (Nat.le_refl _) _
  obtain ⟨c0, c1, c2, c3, c4⟩ := rul_cells (heap_alloc_new W (rulO x))
  obtain ⟨v', w6, hr, h2, h3, h4, h5⟩ := run_append_own_at (P := Tryz.prog) _ base 22 22 59 i0 (.agg zeroR) 5 72 Tryz.underlying22 hi hz0 hz1 hz2 rfl (by decide) v k xs (own_below ho hb) ⟨W.heap.size, 0, none⟩ 1 1 (rulC x).toList rfl
    (fun j u hj => by
      match j, hj with
      | 0, hj => cases hj; exact c0
      | 1, hj => cases hj; exact c1
      | 2, hj => cases hj; exact c2
      | 3, hj => cases hj; exact c3
      | 4, hj => cases hj; exact c4) (fun u hu => by
      simp only [List.mem_cons, List.not_mem_nil, or_false] at hu
      rcases hu with rfl | rfl | rfl | rfl | rfl <;> rfl) (by unfold maxLen; omega) (by omega) (by simp; omega)
  obtain ⟨g, cap, rfl⟩ := ownsRow_succ h2
  exact ⟨g, cap, w6, hr, h2, h3, fun j hj => h5.imp (fun h => h.symm.trans hj) (fun h => by rw [h] at hj; cases hj; simp)⟩

end Go.Proofs.YtaoooocalpkhjaaGreatDoor
namespace Go.Proofs.YtaoooocalpkhjaaGreatDoor
open Go.RowKit Go.Shelf Go.Maps
attribute [local go_sem] Oper.semAt_some

section
variable {P : Program}
theorem results_cellF {fn : Func} {p : Tmp} {ty : TypeId} (h : fn.results = #[.cell p ty]) (tmps : Array Value) (w : World) (g : Nat) (t : TypeId) (cs : Array Value) (fr : Nat × Nat) (d : TypeDesc)
    (hp : tmps.getD p undef = .pointer (some ⟨g, 0, none⟩)) (hg : w.heap[g]? = some (.cells cs t fr))
    (hu : P.underlying ty = some d) (hd : (match d with | .struct _ | .array _ _ => true | _ => false) = true) (hi : (P.info? ty).map (·.size) = some cs.size) :
    (results fn tmps).run P w = .ok (.agg cs) w := by
  have hp' : tmps[p]?.getD undef = .pointer (some ⟨g, 0, none⟩) := by simpa using hp
  simp [results, h, hp', asAddr, run_loadVar_row w g t ty cs fr d hg hu hd hi]
end
set_option maxRecDepth 100000 in
set_option maxHeartbeats 4000000 in
theorem cutP_any (st : Bool) (o : Option Addr) (xs : List ItemP) (cap : Nat) (hn : xs.length ≤ cap) (w : World) :
    Calls Tryz.prog 72 #[patV st o xs.length cap] w fun e w' => e = .returned (patV st o (xs.take 12).length cap) ∧ Below w.heap.size w w' := by
  have hl : (xs.take 12).length = min xs.length 12 := by rw [List.length_take]; omega
  rw [hl]
  obtain ⟨n, hnn⟩ : ∃ n, xs.length = n := ⟨_, rfl⟩
  rw [hnn] at hn ⊢
  clear hl hnn
  obtain ⟨k, hk⟩ : ∃ k, min n 12 = k := ⟨_, rfl⟩
  have hk2 : min ((n : Nat) : Int) 12 = ((k : Nat) : Int) := by omega
  have hkn : k ≤ n := by omega
  have hkc : k ≤ cap := by omega
  rw [hk]
  obtain ⟨w1, hw1⟩ : ∃ w1, w.alloc (patO st o n cap) = w1 := ⟨_, rfl⟩
  have b1 : Below w.heap.size w w1 := by rw [← hw1]; exact (Below.refl _ _).alloc (Nat.le_refl _) _
  have r1 : w1.heap[w.heap.size]? = some (patO st o n cap) := by rw [← hw1]; exact heap_alloc_new _ _
  have z1 : w1.heap.size = w.heap.size + 1 := by rw [← hw1]; simp
  obtain ⟨w2, hw2⟩ : ∃ w2, w1.alloc (patO false none 0 0) = w2 := ⟨_, rfl⟩
  have b2 : Below w1.heap.size w1 w2 := by rw [← hw2]; exact (Below.refl _ _).alloc (Nat.le_refl _) _
  have r2 : w2.heap[w.heap.size + 1]? = some (patO false none 0 0) := by rw [← hw2, ← z1]; exact heap_alloc_new _ _
  have r1' := row_below r1 b2
  have B2 := b1.trans (b2.mono b1.size)
  obtain ⟨p0, p1⟩ := pat_cells r1'
  obtain ⟨t0, t1⟩ := pat_cells r2
  have f0 := frozen_of_row w2 (w.heap.size + 1) 0 _ _ r2
  have f1 := frozen_of_row w2 (w.heap.size + 1) 1 _ _ r2
  obtain ⟨r3, m3⟩ := two_set (.bool st) (.slice o k cap) r2
  obtain ⟨w3, hw3⟩ : ∃ w3, (w2.setCell ⟨w.heap.size + 1, 0, none⟩ (.bool st)).setCell ⟨w.heap.size + 1, 1, none⟩ (.slice o k cap) = w3 := ⟨_, rfl⟩
  rw [hw3] at r3 m3
  have HB := Lib.hid (Moves.below B2 B2.size m3.drew (fun k hk => by omega))
  have HW1 := Lib.hid hw1
  have HW2 := Lib.hid hw2
  have HW3 := Lib.hid hw3
  have HR3 := Lib.hid r3
  clear hw1 b1 r1 z1 hw2 b2 r2 r1' B2 r3 m3 hw3
  go_enter Tryz.func72, Tryz.ntmps72
  go_wp2_with fail
  rw [HW1.out, HW2.out]
  go_region
  all_goals
    go_wp2_with fail
    rw [HW3.out]
    exact bodyPost_ret (v := patV st o k cap) (results_cellF rfl _ _ (w.heap.size + 1) _ _ _ _ rfl (show w3.drew.heap[w.heap.size + 1]? = _ from HR3.out) Tryz.underlying57 rfl (by kernel_rfl)) rfl ⟨rfl, HB.out⟩
end Go.Proofs.YtaoooocalpkhjaaGreatDoor
namespace Go.Proofs.YtaoooocalpkhjaaGreatDoor
open Go.RowKit Go.Shelf Go.Maps
attribute [local go_sem] Oper.semAt_some
attribute [local go_sem ↓] app_hide

def fewX (x : RulX) : RulX := ((x.1.1, x.1.2.1, x.1.2.2.1.take 12, x.1.2.2.2), (x.2.1.1, x.2.1.2.1, x.2.1.2.2.1.take 12, x.2.1.2.2.2), x.2.2)
def fewL (l : List RulX) : List RulX := (l.take 42).map fewX
set_option maxRecDepth 100000 in
set_option maxHeartbeats 4000000 in
theorem Few_anyJ (o : Option Addr) (l : List RulX) (cap : Nat) (w : World) (hA : AtC w o l) (hI : ItsC w l) :
    Calls Tryz.prog 44 #[.slice o l.length cap] w fun e w' => ∃ o' c', e = .returned (.slice o' (fewL l).length c') ∧ w'.ownsRow w.heap.size 59 5 (.slice o' (fewL l).length c') (fewL l).length (rulsC (fewL l)) ∧ Below w.heap.size w w' := by
  obtain ⟨P, hP⟩ : ∃ P, (fun (e : Ending) (w' : World) => ∃ o' c', e = .returned (.slice o' (fewL l).length c') ∧ w'.ownsRow w.heap.size 59 5 (.slice o' (fewL l).length c') (fewL l).length (rulsC (fewL l)) ∧ Below w.heap.size w w') = P := ⟨_, rfl⟩
  have HP := Lib.hid hP
  rw [hP]
  obtain ⟨n, hnn⟩ : ∃ n, l.length = n := ⟨_, rfl⟩
  have HN := Lib.hid hnn
  have HA := Lib.hid hA
  have HI := Lib.hid hI
  rw [hnn]
  clear hP hnn hA hI
  go_enter Tryz.func44, Tryz.ntmps44
  go_wp2_with fail
  go_loopg [3, 4] 42 (fun k v3 v4 wr => ∃ (j : Nat) (ro : Option Addr) (rc : Nat), v4 = .int .i64 (j : Nat) ∧ v3 = .slice ro j rc ∧ j ≤ 42 ∧ j ≤ n ∧ k = 42 - j ∧ Hid (wr.ownsRow w.heap.size 59 5 (.slice ro j rc) j (rulsC ((l.take j).map fewX))) ∧ Hid (Below w.heap.size w wr))
  case atStart => exact ⟨0, none, 0, rfl, rfl, by omega, by omega, rfl, Lib.hid (World.ownsRow_nil _ _ _ _), Lib.hid (Below.refl _ _)⟩
  case round =>
    obtain ⟨j, ro, rc, rfl, rfl, hj42, hjn, rfl, HO, HB⟩ := hrel
    have DONE : Hid (j = min n 42 → P (.returned (.slice ro j rc)) wr) := Lib.hid fun hjm => by
      have e : (l.take j).map fewX = fewL l := by
        unfold fewL
        congr 1
        rcases Nat.lt_or_ge n 42 with h | h
        · rw [List.take_of_length_le (by rw [HN.out]; omega), List.take_of_length_le (by rw [HN.out]; omega)]
        · rw [show j = 42 by omega]
      have el : (fewL l).length = j := by unfold fewL; rw [List.length_map, List.length_take, HN.out]; omega
      rw [← HP.out]
      refine ⟨ro, rc, by rw [el], ?_, HB.out⟩
      rw [el, ← e]
      exact HO.out
    rcases Nat.lt_or_ge j n with hlt | hge
    · have d1 : decide (((j : Nat) : Int) < ((n : Nat) : Int)) = true := decide_eq_true (by omega)
      rcases Nat.lt_or_ge j 42 with hlt2 | hge2
      · have d2 : decide (((j : Nat) : Int) < 42) = true := decide_eq_true (by omega)
        obtain ⟨x, hx⟩ : ∃ x, l[j]? = some x := ⟨_, List.getElem?_eq_getElem (by rw [HN.out]; exact hlt)⟩
        obtain ⟨g, off, rfl, hc⟩ := HA.out (by rw [HN.out]; omega)
        have HCX := Lib.hid (hc j x hx)
        obtain ⟨⟨i1, l1⟩, i2, l2⟩ := HI.out x (List.mem_of_getElem? hx)
        have hsn : rulsC ((l.take (j + 1)).map fewX) = rulsC ((l.take j).map fewX) ++ (rulC (fewX x)).toList := by
          rw [List.take_add_one, hx, List.map_append]
          exact rulsC_snoc _ _
        have HSN := Lib.hid hsn
        have K1 := Lib.hid (fun W => cutP_any x.1.1 x.1.2.1 x.1.2.2.1 x.1.2.2.2 l1 W)
        have K2 := Lib.hid (fun W => cutP_any x.2.1.1 x.2.1.2.1 x.2.1.2.2.1 x.2.1.2.2.2 l2 W)
        have HBS := HB.out.size
        have HRO : Hid (∀ W, Below wr.heap.size wr W → ∃ g' cap' w6, (appSem #[22, 22] 22 #[.slice ro j rc, .slice (some ⟨W.heap.size, 0, none⟩) 1 1]).run Tryz.prog (W.alloc (rulO (fewX x))) = .ok (.slice (some ⟨g', 0, none⟩) (j + 1) cap') w6 ∧ Hid (w6.ownsRow w.heap.size 59 5 (.slice (some ⟨g', 0, none⟩) (j + 1) cap') (j + 1) (rulsC ((l.take (j + 1)).map fewX))) ∧ Hid (Below w.heap.size w w6)) := Lib.hid fun W hb => by
          have hz := hb.size
          obtain ⟨g', cap', w6, hrun, hown', hgrow, hat⟩ := rul_own (fewX x) (own_below HO.out hb) (by omega) (by omega)
          rw [← HSN.out] at hown'
          exact ⟨g', cap', w6, hrun, Lib.hid hown', Lib.hid (((HB.out.trans (hb.mono HBS)).alloc (by omega) _).grown hgrow (by rw [World.size_alloc]; omega) (fun k hk => own_rowJ HO.out hk))⟩
        have HCE : Hid (∀ W, Below wr.heap.size wr W → W.cell? ⟨g, off + j * 5, none⟩ = some (.bool x.1.1) ∧ W.cell? ⟨g, off + j * 5 + 1, none⟩ = some (.slice x.1.2.1 x.1.2.2.1.length x.1.2.2.2) ∧ W.cell? ⟨g, off + j * 5 + 2, none⟩ = some (.bool x.2.1.1) ∧ W.cell? ⟨g, off + j * 5 + 3, none⟩ = some (.slice x.2.1.2.1 x.2.1.2.2.1.length x.2.1.2.2.2) ∧ W.cell? ⟨g, off + j * 5 + 4, none⟩ = some (.bool x.2.2)) := Lib.hid fun W hb => by
          obtain ⟨q0, q1, q2, q3, q4⟩ := HCX.out
          have hb2 := HB.out.trans (hb.mono HBS)
          exact ⟨cell_keepQ hb2 q0, cell_keepQ hb2 q1, cell_keepQ hb2 q2, cell_keepQ hb2 q3, cell_keepQ hb2 q4⟩
        obtain ⟨⟨s1, p1, xs1, c1⟩, ⟨s2, p2, xs2, c2⟩, br⟩ := x
        simp only [fewX] at K1 K2 HRO HCE
        obtain ⟨a1, ha1⟩ : ∃ k, (xs1.take 12).length = k := ⟨_, rfl⟩
        obtain ⟨a2, ha2⟩ : ∃ k, (xs2.take 12).length = k := ⟨_, rfl⟩
        obtain ⟨m1, hm1⟩ : ∃ k, xs1.length = k := ⟨_, rfl⟩
        obtain ⟨m2, hm2⟩ : ∃ k, xs2.length = k := ⟨_, rfl⟩
        rw [ha1] at K1
        rw [ha2] at K2
        rw [hm1] at K1
        rw [hm2] at K2
        simp only [ha1, ha2, rulO, rulC] at HRO
        simp only [hm1, hm2] at HCE
        have hd : Below wr.heap.size wr wr.drew := (Below.refl _ _).drew
        have HD := Lib.hid hd
        obtain ⟨t0, t1, t2, t3, t4⟩ := HCE.out wr (Below.refl _ _)
        obtain ⟨u0, u1, u2, u3, u4⟩ := HCE.out _ hd
        have K1S : Hid (∀ W, Hid (Below wr.heap.size wr W) → Calls Tryz.prog 72 #[.agg #[.bool s1, .slice p1 m1 c1]] W fun e w' => e = .returned (.agg #[.bool s1, .slice p1 a1 c1]) ∧ Hid (Below wr.heap.size wr w')) := Lib.hid fun W h => (K1.out W).mono fun e w' h2 => ⟨h2.1, Lib.hid (h.out.trans (h2.2.mono h.out.size))⟩
        have K2S : Hid (∀ W, Hid (Below wr.heap.size wr W) → Calls Tryz.prog 72 #[.agg #[.bool s2, .slice p2 m2 c2]] W fun e w' => e = .returned (.agg #[.bool s2, .slice p2 a2 c2]) ∧ Hid (Below wr.heap.size wr w')) := Lib.hid fun W h => (K2.out W).mono fun e w' h2 => ⟨h2.1, Lib.hid (h.out.trans (h2.2.mono h.out.size))⟩
        have hjm : j < 1000000 := by omega
        clear hc hx i1 l1 i2 l2 hsn K1 K2 DONE ha1 ha2 hm1 hm2 hd HCX HSN HO HB HA HI HP
        go_wp2_with fail
        go_region_with (go_at_call 72; first | (with_reducible refine (K1S.out _ (by first | exact hg | exact HD)).mono ?_; rintro e w3 ⟨rfl, hg⟩; obtain ⟨v0, v1, v2, v3, v4⟩ := HCE.out _ hg.out; obtain ⟨g', cap', w6, hrun, HO6, HB6⟩ := HRO.out _ hg.out) | (with_reducible refine (K2S.out _ (by first | exact hg | exact HD)).mono ?_; rintro e w3 ⟨rfl, hg⟩; obtain ⟨v0, v1, v2, v3, v4⟩ := HCE.out _ hg.out; obtain ⟨g', cap', w6, hrun, HO6, HB6⟩ := HRO.out _ hg.out))
        all_goals
          go_wp2
          go_roundg (42 - (j + 1))
          case measure => omega
          case rel => exact ⟨j + 1, _, _, by simp, rfl, by omega, by omega, rfl, HO6, HB6⟩
      · have d2 : decide (((j : Nat) : Int) < 42) = false := decide_eq_false (by omega)
        have HQ := Lib.hid (DONE.out (by omega))
        clear DONE
        go_wp2
        exact HQ.out
    · have d1 : decide (((j : Nat) : Int) < ((n : Nat) : Int)) = false := decide_eq_false (by omega)
      have HQ := Lib.hid (DONE.out (by omega))
      clear DONE
      go_wp2
      exact HQ.out
end Go.Proofs.YtaoooocalpkhjaaGreatDoor
namespace Go.Proofs.YtaoooocalpkhjaaGreatDoor
open Go.RowKit Go.Shelf Go.Maps
attribute [local go_sem] Oper.semAt_some
attribute [local go_sem ↓] app_hide

set_option maxHeartbeats 1000000 in
theorem worth_any (n : Nat) (hn : n ≤ 32) (w : World) : Calls Tryz.prog 147 #[.int .i64 (n : Nat)] w fun e w' => e = .returned (.int .i64 ((2 ^ n : Nat) : Int)) ∧ w = w' := by
  obtain ⟨P, hP⟩ : ∃ P, (fun (e : Ending) w' => e = .returned (.int .i64 ((2 ^ n : Nat) : Int)) ∧ w = w') = P := ⟨_, rfl⟩
  have HP := Lib.hid hP
  rw [hP]
  clear hP
  go_enter Tryz.func147, Tryz.ntmps147
  go_wp2_with fail
  go_loopg [3, 4] n (fun k v i wr => ∃ (j p : Nat), i = .int .i64 (j : Nat) ∧ v = .int .i64 (p : Nat) ∧ j ≤ n ∧ k = n - j ∧ Hid (p = 2 ^ j) ∧ w = wr)
  case atStart => exact ⟨0, 1, rfl, rfl, Nat.zero_le _, rfl, Lib.hid rfl, rfl⟩
  case round =>
    obtain ⟨j, p, rfl, rfl, hj, rfl, hp, rfl⟩ := hrel
    rcases Nat.lt_or_ge j n with hlt | hge
    · have hp2 : Hid (2 * p = 2 ^ (j + 1)) := Lib.hid (by rw [hp.out, Nat.pow_succ, Nat.mul_comm])
      have hpl : p ≤ 4294967296 := by rw [hp.out]; exact two_32 (by omega)
      have hj1 : j < 1000000 := by omega
      go_wp2
      go_roundg (n - (j + 1))
      case measure => omega
      case rel => exact ⟨j + 1, 2 * p, by simp, by simp, by omega, rfl, hp2, rfl⟩
    · obtain rfl : j = n := by omega
      have HQ : Hid (P (.returned (.int .i64 ((p : Nat) : Int))) w) := by
        rw [← HP.out]
        exact Lib.hid ⟨by rw [hp.out], rfl⟩
      go_wp2
      exact HQ.out
set_option maxHeartbeats 1000000 in
theorem refRight_any (s n : Int) (w : World) : Calls Tryz.prog 116 #[.int .i64 s, .int .i64 n] w fun e w' => e = .returned (.bool (rightZ s n)) ∧ w = w' := by
  obtain ⟨P, hP⟩ : ∃ P, (fun (e : Ending) w' => e = .returned (.bool (rightZ s n)) ∧ w = w') = P := ⟨_, rfl⟩
  have HP := Lib.hid hP
  have NO : ¬ (1 ≤ n ∧ n ≤ 32 ∧ 0 ≤ s ∧ s < 2 ^ n.toNat) → Hid (P (.returned (.bool false)) w) := fun h => by
    rw [← HP.out]
    exact Lib.hid ⟨by unfold rightZ; rw [decide_eq_false h], rfl⟩
  have YES : (1 ≤ n ∧ n ≤ 32 ∧ 0 ≤ s ∧ s < 2 ^ n.toNat) → Hid (P (.returned (.bool true)) w) := fun h => by
    rw [← HP.out]
    exact Lib.hid ⟨by unfold rightZ; rw [decide_eq_true h], rfl⟩
  rw [hP]
  clear hP
  by_cases g1 : 1 ≤ n
  · by_cases g2 : n ≤ 32
    · by_cases g3 : 0 ≤ s
      · obtain ⟨m, rfl⟩ := Int.eq_ofNat_of_zero_le (show 0 ≤ n by omega)
        have hm : m ≤ 32 := by omega
        have W1 := Lib.hid (worth_any m hm w)
        have e2 : ((2 : Int) ^ m) = ((2 ^ m : Nat) : Int) := by simp
        rw [Int.toNat_natCast, e2] at NO YES
        obtain ⟨p, hpp⟩ : ∃ p, 2 ^ m = p := ⟨_, rfl⟩
        rw [hpp] at NO YES W1
        by_cases g4 : s < ((p : Nat) : Int)
        · have YY := YES ⟨g1, g2, g3, g4⟩
          have g5 : decide (s < ((p : Nat) : Int)) = true := decide_eq_true g4
          clear NO YES hpp e2
          go_enter Tryz.func116, Tryz.ntmps116
          go_wp2_with fail
          refine W1.out.mono ?_
          rintro e w2 ⟨rfl, rfl⟩
          go_wp2
          exact YY.out
        · have YY := NO fun h => g4 h.2.2.2
          have g5 : decide (s < ((p : Nat) : Int)) = false := decide_eq_false g4
          clear NO YES hpp e2
          go_enter Tryz.func116, Tryz.ntmps116
          go_wp2_with fail
          refine W1.out.mono ?_
          rintro e w2 ⟨rfl, rfl⟩
          go_wp2
          exact YY.out
      · have NN := NO (by omega)
        clear NO YES
        go_enter Tryz.func116, Tryz.ntmps116
        go_wp2
        exact NN.out
    · have NN := NO (by omega)
      clear NO YES
      go_enter Tryz.func116, Tryz.ntmps116
      go_wp2
      exact NN.out
  · have NN := NO (by omega)
    clear NO YES
    go_enter Tryz.func116, Tryz.ntmps116
    go_wp2
    exact NN.out
set_option maxRecDepth 100000 in
set_option maxHeartbeats 1000000 in
theorem refHas_any (s c : Int) (w : World) : Calls Tryz.prog 148 #[.int .i64 s, .int .i64 c] w fun e w' => e = .returned (.bool (hasZ s c)) ∧ w = w' := by
  have H := Lib.hid (refRight_any s 32 w)
  obtain ⟨P, hP⟩ : ∃ P, (fun (e : Ending) w' => e = .returned (.bool (hasZ s c)) ∧ w = w') = P := ⟨_, rfl⟩
  have HP := Lib.hid hP
  have ANS : ∀ b, hasZ s c = b → Hid (P (.returned (.bool b)) w) := fun b h => by
    rw [← HP.out]
    exact Lib.hid ⟨by rw [h], rfl⟩
  rw [hP]
  clear hP
  cases hr : rightZ s 32 with
  | false =>
    rw [hr] at H
    have HQ := ANS false (by unfold hasZ; rw [hr]; rfl)
    clear ANS hr
    go_enter Tryz.func148, Tryz.ntmps148
    go_wp2_with fail
    refine H.out.mono ?_
    rintro e w2 ⟨rfl, rfl⟩
    go_wp2
    exact HQ.out
  | true =>
    obtain ⟨x, m, rfl, hm, _, _, hx⟩ := rightZ_of hr
    have h32 : m = 32 := by omega
    subst h32
    clear hm
    rw [hr] at H
    rw [hasZ_nat hx] at ANS
    by_cases g1 : 0 ≤ c
    · by_cases g2 : c < 32
      · obtain ⟨k, rfl⟩ := Int.eq_ofNat_of_zero_le g1
        have hk : k < 32 := by omega
        have W1 := Lib.hid (worth_any k (by omega) w)
        have hp := two_pos k
        have hdb := div_bit x k
        rw [decide_eq_true ⟨g1, g2⟩, Bool.true_and, Int.toNat_natCast] at ANS
        obtain ⟨p, hpp⟩ : ∃ p, 2 ^ k = p := ⟨_, rfl⟩
        rw [hpp] at W1 hp hdb
        have t1 : ((x : Nat) : Int).tdiv ((p : Nat) : Int) = ((x / p : Nat) : Int) := by rw [Int.tdiv_eq_ediv_of_nonneg (Int.natCast_nonneg _)]; simp
        have t2 : ((x : Nat) : Int) / ((p : Nat) : Int) = ((x / p : Nat) : Int) := by simp
        obtain ⟨q, hq⟩ : ∃ q, x / p = q := ⟨_, rfl⟩
        rw [hq] at t1 t2 hdb
        have t3 : ((q : Nat) : Int).tmod 2 = ((q % 2 : Nat) : Int) := by rw [Int.tmod_eq_emod_of_nonneg (Int.natCast_nonneg _)]; simp
        have HQ := ANS (((q : Nat) : Int) % 2 == 1) (by
          rw [← hdb]
          by_cases h : q % 2 = 1
          · rw [decide_eq_true h]
            have : ((q : Nat) : Int) % 2 = 1 := by omega
            rw [this]; rfl
          · rw [decide_eq_false h]
            have : ((q : Nat) : Int) % 2 = 0 := by omega
            rw [this]; rfl)
        have hpne : ¬ ((p : Nat) : Int) = 0 := by omega
        have hwq : wrap64 ((q : Nat) : Int) = ((q : Nat) : Int) := by
          have : q ≤ x := by rw [← hq]; exact Nat.div_le_self _ _
          exact wrap_idK (by omega) (by omega)
        clear ANS hr hx hdb hpp hq g1 g2
        go_enter Tryz.func148, Tryz.ntmps148
        go_wp2_with fail
        refine H.out.mono ?_
        rintro e w2 ⟨rfl, rfl⟩
        go_wp2_with fail
        refine W1.out.mono ?_
        rintro e w3 ⟨rfl, rfl⟩
        go_wp2
        exact HQ.out
      · have HQ := ANS false (by rw [decide_eq_false (by omega)]; rfl)
        clear ANS hr hx
        go_enter Tryz.func148, Tryz.ntmps148
        go_wp2_with fail
        refine H.out.mono ?_
        rintro e w2 ⟨rfl, rfl⟩
        go_wp2
        exact HQ.out
    · have HQ := ANS false (by rw [decide_eq_false (by omega)]; rfl)
      clear ANS hr hx
      go_enter Tryz.func148, Tryz.ntmps148
      go_wp2_with fail
      refine H.out.mono ?_
      rintro e w2 ⟨rfl, rfl⟩
      go_wp2
      exact HQ.out
end Go.Proofs.YtaoooocalpkhjaaGreatDoor
namespace Go.Proofs.YtaoooocalpkhjaaGreatDoor
open Go.RowKit Go.Shelf Go.Maps
attribute [local go_sem] Oper.semAt_some

theorem goodI_not {m : Int} {x : ItemP} (h : rightZ x.1 m = false ∨ x.2 < 0 ∨ 2 < x.2) : ¬ goodI m x := by
  rintro ⟨h1, h2⟩
  rcases h with h | h
  · rw [h] at h1; cases h1
  · omega
set_option maxRecDepth 100000 in
set_option maxHeartbeats 4000000 in
theorem refRight_anyQ (start : Bool) (o : Option Addr) (xs : List ItemP) (cap : Nat) (m : Int) (hn : xs.length ≤ 100000) (w : World) (hA : AtI w o xs) :
    Calls Tryz.prog 78 #[patV start o xs.length cap, .int .i64 m] w fun e w' => e = .returned (.bool (rightB xs m)) ∧ Below w.heap.size w w' := by
  obtain ⟨n, hnn⟩ : ∃ n, xs.length = n := ⟨_, rfl⟩
  rw [hnn] at hn ⊢
  obtain ⟨P, hP⟩ : ∃ P, (fun (e : Ending) w' => e = .returned (.bool (rightB xs m)) ∧ Below w.heap.size w w') = P := ⟨_, rfl⟩
  have HP := Lib.hid hP
  rw [hP]
  obtain ⟨w1, hw1⟩ : ∃ w1, w.alloc (patO start o n cap) = w1 := ⟨_, rfl⟩
  have b1 : Below w.heap.size w w1 := by rw [← hw1]; exact (Below.refl _ _).alloc (Nat.le_refl _) _
  have r1 : w1.heap[w.heap.size]? = some (patO start o n cap) := by rw [← hw1]; exact heap_alloc_new _ _
  have HN := Lib.hid hnn
  have HA := Lib.hid hA
  have HW1 := Lib.hid hw1
  have HB1 := Lib.hid b1
  have HR1 := Lib.hid r1
  have HK := Lib.hid (fun s W => refRight_any s m W)
  have FIN : Hid (∀ W b, rightB xs m = b → Below w.heap.size w W → P (.returned (.bool b)) W) := Lib.hid fun W b h hb => by
    rw [← HP.out]; exact ⟨by rw [h], hb⟩
  clear hP hnn hA hw1 b1 r1
  go_enter Tryz.func78, Tryz.ntmps78
  go_wp2_with fail
  rw [HW1.out]
  go_loopg [5] (n) (fun k' v5 wr => ∃ (j : Nat), v5 = .int .i64 (j : Nat) ∧ j ≤ n ∧ n - j = k' ∧ Hid (∀ i x, i < j → xs[i]? = some x → goodI m x) ∧ Hid (Below w1.heap.size w1 wr))
  case atStart => exact ⟨0, rfl, Nat.zero_le _, rfl, Lib.hid fun i x h => absurd h (Nat.not_lt_zero _), Lib.hid (Below.refl _ _)⟩
  case round =>
    obtain ⟨j, rfl, hj, rfl, HG, HB⟩ := hrel
    have hj6 : j < 1000000 := by omega
    have HBW := Lib.hid (HB1.out.trans (HB.out.mono HB1.out.size))
    obtain ⟨p0, p1⟩ := pat_cells (row_below HR1.out HB.out)
    rcases Nat.lt_or_ge j n with hlt | hge
    · obtain ⟨x, hx⟩ : ∃ x, xs[j]? = some x := ⟨_, List.getElem?_eq_getElem (by rw [HN.out]; exact hlt)⟩
      obtain ⟨g, off, rfl, hc⟩ := (HA.out.below HBW.out) (by rw [HN.out]; omega)
      obtain ⟨k0, k1⟩ := hc j x hx
      have bb : Below wr.heap.size wr (wr.alloc (itO x)) := (Below.refl _ _).alloc (Nat.le_refl _) _
      have HBB := Lib.hid (HB.out.trans (bb.mono HB.out.size))
      have HBBW := Lib.hid (HBW.out.trans (bb.mono HBW.out.size))
      have HX := Lib.hid hx
      obtain ⟨s, h⟩ := x
      have HKX := Lib.hid (HK.out s (wr.alloc (itO (s, h))))
      simp only at k0 k1
      cases hr : rightZ s m with
      | false =>
        rw [hr] at HKX
        have HF := Lib.hid (FIN.out (wr.alloc (itO (s, h))) false (rightB_bad HX.out (goodI_not (.inl hr))) HBBW.out)
        clear hr hc hx bb
        go_wp2_with fail
        refine HKX.out.mono ?_
        rintro e _ ⟨rfl, rfl⟩
        go_wp2
        first | exact HF.out | (go_ret; exact HF.out)
      | true =>
        rw [hr] at HKX
        by_cases h1 : h < 0
        · have HF := Lib.hid (FIN.out (wr.alloc (itO (s, h))) false (rightB_bad HX.out (goodI_not (.inr (.inl h1)))) HBBW.out)
          clear hr hc hx bb
          go_wp2_with fail
          refine HKX.out.mono ?_
          rintro e _ ⟨rfl, rfl⟩
          go_wp2
          first | exact HF.out | (go_ret; exact HF.out)
        by_cases h2 : 2 < h
        · have HF := Lib.hid (FIN.out (wr.alloc (itO (s, h))) false (rightB_bad HX.out (goodI_not (.inr (.inr h2)))) HBBW.out)
          clear hr hc hx bb
          go_wp2_with fail
          refine HKX.out.mono ?_
          rintro e _ ⟨rfl, rfl⟩
          go_wp2
          first | exact HF.out | (go_ret; exact HF.out)
        have HGN : Hid (∀ i x, i < j + 1 → xs[i]? = some x → goodI m x) := Lib.hid fun i x hi hxi => by
          rcases Nat.lt_or_ge i j with hl | hg
          · exact HG.out i x hl hxi
          · obtain rfl : i = j := by omega
            rw [HX.out] at hxi
            cases hxi
            exact ⟨hr, by simp only; omega⟩
        clear hr hc hx bb
        go_wp2_with fail
        refine HKX.out.mono ?_
        rintro e _ ⟨rfl, rfl⟩
        go_wp2
        go_roundg (n - (j + 1))
        case measure => omega
        case rel => exact ⟨j + 1, by simp, by omega, rfl, HGN, HBB⟩
    · obtain rfl : j = n := by omega
      have hall : ∀ x ∈ xs, goodI m x := fun x hx => by
        obtain ⟨i, hi⟩ := List.getElem?_of_mem hx
        exact HG.out i x (by have := (List.getElem?_eq_some_iff.1 hi).1; have := HN.out; omega) hi
      by_cases m1 : m < 1
      · have HF := Lib.hid (FIN.out wr false (rightB_not (by omega)) HBW.out)
        clear hall
        go_wp2
        first | exact HF.out | (go_ret; exact HF.out)
      by_cases m2 : 32 < m
      · have HF := Lib.hid (FIN.out wr false (rightB_not (by omega)) HBW.out)
        clear hall
        go_wp2
        first | exact HF.out | (go_ret; exact HF.out)
      by_cases m3 : 10 < j
      · have HF := Lib.hid (FIN.out wr false (rightB_not (by have := HN.out; omega)) HBW.out)
        have m7 : decide (((j : Nat) : Int) ≤ 10) = false := decide_eq_false (by omega)
        clear hall
        go_wp2
        first | exact HF.out | (go_ret; exact HF.out)
      · have HF := Lib.hid (FIN.out wr true (rightB_of (by omega) (by have := HN.out; omega) hall) HBW.out)
        have m4 : ((j : Nat) : Int) ≤ 10 := by omega
        have m5 : 1 ≤ m := by omega
        have m6 : m ≤ 32 := by omega
        clear hall
        go_wp2
        first | exact HF.out | (go_ret; exact HF.out)
end Go.Proofs.YtaoooocalpkhjaaGreatDoor
namespace Go.Proofs.YtaoooocalpkhjaaGreatDoor
open Go.RowKit Go.Shelf Go.Maps
attribute [local go_sem] Oper.semAt_some

set_option maxRecDepth 100000 in
set_option maxHeartbeats 4000000 in
theorem refRightJ_any (o : Option Addr) (l : List RulX) (cap : Nat) (m : Int) (hn : l.length ≤ 100000) (hfw : FewC l) (w : World) (hA : AtC w o l) (hI : ItsC w l) :
    Calls Tryz.prog 47 #[.slice o l.length cap, .int .i64 m] w fun e w' => e = .returned (.bool (rightsU (l.map plX) m)) ∧ Below w.heap.size w w' := by
  obtain ⟨P, hP⟩ : ∃ P, (fun (e : Ending) (w' : World) => e = .returned (.bool (rightsU (l.map plX) m)) ∧ Below w.heap.size w w') = P := ⟨_, rfl⟩
  have HP := Lib.hid hP
  rw [hP]
  have HBAD : Hid (∀ (j : Nat) (x : RulX) W, l[j]? = some x → rightU m (plX x) = false → Below w.heap.size w W → P (.returned (.bool false)) W) := Lib.hid fun j x W hx hr hb => by
    rw [← HP.out]
    exact ⟨by rw [rights_bad (j := j) (x := plX x) (by rw [List.getElem?_map, hx]; rfl) hr], hb⟩
  have HEND : Hid ((∀ x ∈ l, rightU m (plX x) = true) → ∀ W, Below w.heap.size w W → P (.returned (.bool (decide (1 ≤ m) && decide (m ≤ 32) && decide (l.length ≤ 40)))) W) := Lib.hid fun h W hb => by
    rw [← HP.out]
    refine ⟨?_, hb⟩
    unfold rightsU
    rw [List.all_eq_true.2 (fun y hy => by
      obtain ⟨x, hx, rfl⟩ := List.mem_map.1 hy
      exact h x hx), Bool.and_true, List.length_map]
  have HRR := Lib.hid (fun (x : RulX) (hx : x ∈ l) W (hb : Below w.heap.size w W) => And.intro (refRight_anyQ x.1.1 x.1.2.1 x.1.2.2.1 x.1.2.2.2 m (by have := (hfw x hx).1; omega) W ((hI x hx).1.1.below hb)) (refRight_anyQ x.2.1.1 x.2.1.2.1 x.2.1.2.2.1 x.2.1.2.2.2 m (by have := (hfw x hx).2; omega) W ((hI x hx).2.1.below hb)))
  obtain ⟨n, hnn⟩ : ∃ n, l.length = n := ⟨_, rfl⟩
  have HN := Lib.hid hnn
  have HA := Lib.hid hA
  rw [hnn] at hn HEND ⊢
  clear hP HP hA hI hfw hnn
  go_enter Tryz.func47, Tryz.ntmps47
  go_wp2_with fail
  go_loopg [5] n (fun k v5 wr => ∃ (j : Nat), v5 = .int .i64 (j : Nat) ∧ j ≤ n ∧ k = n - j ∧ Hid (∀ x ∈ l.take j, rightU m (plX x) = true) ∧ Hid (Below w.heap.size w wr))
  case atStart => exact ⟨0, rfl, Nat.zero_le _, rfl, Lib.hid (fun x hx => by simp at hx), Lib.hid (Below.refl _ _)⟩
  case round =>
    obtain ⟨j, rfl, hj, rfl, HT, HB⟩ := hrel
    rcases Nat.lt_or_ge j n with hlt | hge
    · have d1 : decide (((j : Nat) : Int) < ((n : Nat) : Int)) = true := decide_eq_true (by omega)
      obtain ⟨x, hx⟩ : ∃ x, l[j]? = some x := ⟨_, List.getElem?_eq_getElem (by rw [HN.out]; exact hlt)⟩
      have hxm := List.mem_of_getElem? hx
      obtain ⟨g, off, rfl, hc⟩ := HA.out (by rw [HN.out]; omega)
      obtain ⟨u0, u1, u2, u3, u4⟩ := hc j x hx
      have HC : Hid (∀ W, Below w.heap.size w W → W.cell? ⟨g, off + j * 5, none⟩ = some (.bool x.1.1) ∧ W.cell? ⟨g, off + j * 5 + 1, none⟩ = some (.slice x.1.2.1 x.1.2.2.1.length x.1.2.2.2) ∧ W.cell? ⟨g, off + j * 5 + 2, none⟩ = some (.bool x.2.1.1) ∧ W.cell? ⟨g, off + j * 5 + 3, none⟩ = some (.slice x.2.1.2.1 x.2.1.2.2.1.length x.2.1.2.2.2)) := Lib.hid fun W hb => ⟨cell_keepQ hb u0, cell_keepQ hb u1, cell_keepQ hb u2, cell_keepQ hb u3⟩
      have KR := Lib.hid (HRR.out x hxm)
      have HRU : Hid (rightU m (plX x) = (rightB x.1.2.2.1 m && rightB x.2.1.2.2.1 m && !x.2.1.1)) := Lib.hid rfl
      have HX := Lib.hid hx
      have HOK : Hid (rightU m (plX x) = true → ∀ y ∈ l.take (j + 1), rightU m (plX y) = true) := Lib.hid fun h y hy => by
        rw [List.take_add_one, HX.out] at hy
        rcases List.mem_append.1 hy with hy | hy
        · exact HT.out y hy
        · have : y = x := by simpa using hy
          rw [this]; exact h
      have HBD := Lib.hid (fun W => HBAD.out j x W hx)
      obtain ⟨ru, hru⟩ : ∃ q, rightU m (plX x) = q := ⟨_, rfl⟩
      rw [hru] at HRU HOK HBD
      obtain ⟨⟨s1, p1, xs1, k1⟩, ⟨s2, p2, xs2, k2⟩, br⟩ := x
      simp only at HC KR HRU
      obtain ⟨m1, hm1⟩ : ∃ k, xs1.length = k := ⟨_, rfl⟩
      obtain ⟨m2, hm2⟩ : ∃ k, xs2.length = k := ⟨_, rfl⟩
      obtain ⟨b1, hb1⟩ : ∃ k, rightB xs1 m = k := ⟨_, rfl⟩
      obtain ⟨b2, hb2⟩ : ∃ k, rightB xs2 m = k := ⟨_, rfl⟩
      simp only [hm1, hm2, hb1, hb2] at HC KR HRU
      obtain ⟨t0, t1, t2, t3⟩ := HC.out wr HB.out
      have K1 := Lib.hid (KR.out wr HB.out).1
      have hgw := World.block_lt_of_cell? wr _ t0
      have hjm : j < 1000000 := by omega
      clear hx hxm hc u0 u1 u2 u3 u4 hru hm1 hm2 hb1 hb2 HX HT
      go_wp2_with fail
      refine K1.out.mono ?_
      rintro e w2 ⟨rfl, e2⟩
      have HB2 := Lib.hid (HB.out.trans (e2.mono HB.out.size))
      obtain ⟨v0, v1, v2, v3⟩ := HC.out w2 HB2.out
      clear e2 K1 t0 t1 t2 t3
      cases b1 with
      | false =>
        have HQ := Lib.hid (HBD.out w2 (by rw [HRU.out]; rfl) HB2.out)
        clear HBD HOK HRU KR HC
        go_wp2_with fail
        exact HQ.out
      | true =>
        have K2 := Lib.hid (KR.out w2 HB2.out).2
        have hgw2 := World.block_lt_of_cell? w2 _ v0
        clear KR
        go_wp2_with fail
        refine K2.out.mono ?_
        rintro e w3 ⟨rfl, e3⟩
        have HB3 := Lib.hid (HB2.out.trans (e3.mono HB2.out.size))
        obtain ⟨y0, y1, y2, y3⟩ := HC.out w3 HB3.out
        clear e3 K2 v0 v1 v2 v3 HC
        cases b2 with
        | false =>
          have HQ := Lib.hid (HBD.out w3 (by rw [HRU.out]; rfl) HB3.out)
          clear HBD HOK HRU
          go_wp2_with fail
          exact HQ.out
        | true =>
          cases s2 with
          | true =>
            have HQ := Lib.hid (HBD.out w3 (by rw [HRU.out]; rfl) HB3.out)
            clear HBD HOK HRU
            go_wp2_with fail
            exact HQ.out
          | false =>
            have HT2 := Lib.hid (HOK.out (by rw [HRU.out]; rfl))
            clear HBD HOK HRU
            go_wp2_with fail
            go_roundg (n - (j + 1))
            case measure => omega
            case rel => exact ⟨j + 1, by simp, by omega, rfl, HT2, HB3⟩
    · obtain rfl : j = n := by omega
      have d1 : decide (((j : Nat) : Int) < ((j : Nat) : Int)) = false := decide_eq_false (by omega)
      have hT := HT.out
      rw [List.take_of_length_le (by rw [HN.out]; exact Nat.le_refl _)] at hT
      have HE := Lib.hid (HEND.out hT wr HB.out)
      clear hT HT HEND HBAD HRR
      by_cases h1 : 1 ≤ m
      · have e1 : decide (1 ≤ m) = true := decide_eq_true h1
        rw [e1] at HE
        by_cases h2 : m ≤ 32
        · have e2 : decide (m ≤ 32) = true := decide_eq_true h2
          rw [e2] at HE
          by_cases h3 : j ≤ 40
          · have e3 : decide (((j : Nat) : Int) ≤ 40) = true := decide_eq_true (by omega)
            rw [decide_eq_true h3] at HE
            go_wp2_with fail
            exact HE.out
          · have e3 : decide (((j : Nat) : Int) ≤ 40) = false := decide_eq_false (by omega)
            rw [decide_eq_false h3] at HE
            go_wp2_with fail
            exact HE.out
        · have e2 : decide (m ≤ 32) = false := decide_eq_false h2
          rw [e2] at HE
          go_wp2_with fail
          exact HE.out
      · have e1 : decide (1 ≤ m) = false := decide_eq_false h1
        rw [e1] at HE
        go_wp2_with fail
        exact HE.out
end Go.Proofs.YtaoooocalpkhjaaGreatDoor
namespace Go.Proofs.YtaoooocalpkhjaaGreatDoor

def addN (xs : List ItemP) (s n : Nat) : Nat := s ||| closedH xs (2 ^ n)
def onN (xs : List ItemP) (n : Nat) : Bool := decide (n % 2 = 0) && (match xs[n / 2]? with | some x => decide (x.2 ≠ 0) | none => false)
theorem onN_of {xs : List ItemP} {n : Nat} (h : onN xs n = true) : n % 2 = 0 ∧ ∃ x, xs[n / 2]? = some x ∧ x.2 ≠ 0 := by
  unfold onN at h
  obtain ⟨h0, h1⟩ := Bool.and_eq_true_iff.1 h
  refine ⟨of_decide_eq_true h0, ?_⟩
  cases hx : xs[n / 2]? with
  | none => rw [hx] at h1; cases h1
  | some x => rw [hx] at h1; exact ⟨x, rfl, of_decide_eq_true h1⟩
theorem onN_is {xs : List ItemP} {n : Nat} {x : ItemP} (h0 : n % 2 = 0) (hx : xs[n / 2]? = some x) (hne : x.2 ≠ 0) : onN xs n = true := by
  unfold onN
  rw [hx, decide_eq_true h0]
  show (true && decide (x.2 ≠ 0)) = true
  rw [decide_eq_true hne]; rfl
theorem onN_not {xs : List ItemP} {n : Nat} (h : ∀ x, n % 2 = 0 → xs[n / 2]? = some x → x.2 = 0) : onN xs n = false := by
  cases e : onN xs n with
  | false => rfl
  | true =>
    obtain ⟨h0, x, hx, hne⟩ := onN_of e
    exact absurd (h x h0 hx) hne
theorem path_zero {xs : List ItemP} {j i : Nat} (h : pathH xs j i) : i = j ∨ (∃ x, xs[j]? = some x ∧ x.2 ≠ 0) ∧ pathH xs (j + 1) i := by
  rcases Nat.lt_or_ge j i with g | g
  · obtain ⟨x, hx, h0⟩ := h.2 j (Nat.le_refl _) g
    exact .inr ⟨⟨x, hx, h0⟩, by omega, fun m h1 h2 => h.2 m (by omega) h2⟩
  · exact .inl (by have := h.1; omega)
theorem closed_two_even (xs : List ItemP) (n i : Nat) : (closedH xs (2 ^ n)).testBit (2 * i) = true ↔ n % 2 = 0 ∧ pathH xs (n / 2) i := by
  rw [closed_even, over_iff]
  constructor
  · rintro ⟨j, hj, hp⟩
    have hj : (2 ^ n).testBit (2 * j) = true := hj
    rw [Nat.testBit_two_pow] at hj
    have := of_decide_eq_true hj
    subst this
    refine ⟨by omega, ?_⟩
    rwa [show 2 * j / 2 = j by omega]
  · rintro ⟨h0, hp⟩
    exact ⟨n / 2, by show (2 ^ n).testBit (2 * (n / 2)) = true; rw [Nat.testBit_two_pow]; exact decide_eq_true (by omega), hp⟩
theorem closed_two_odd (xs : List ItemP) (n i : Nat) : (closedH xs (2 ^ n)).testBit (2 * i + 1) = decide (n = 2 * i + 1) := by rw [closed_odd, Nat.testBit_two_pow]
theorem addN_stop {xs : List ItemP} {s n : Nat} (h : onN xs n = false) : addN xs s n = s ||| 2 ^ n := by
  unfold addN
  refine congrArg (s ||| ·) (bits_ext (fun i => ?_) fun i => ?_)
  · rw [Bool.eq_iff_iff, closed_two_even, Nat.testBit_two_pow, decide_eq_true_eq]
    constructor
    · rintro ⟨h0, hp⟩
      rcases path_zero hp with e | ⟨⟨x, hx, hne⟩, _⟩
      · omega
      · rw [onN_is h0 hx hne] at h; cases h
    · intro e; exact ⟨by omega, by rw [show n / 2 = i by omega]; exact pathH_refl xs i⟩
  · rw [closed_two_odd, Nat.testBit_two_pow]
theorem addN_go {xs : List ItemP} {s n : Nat} (h : onN xs n = true) : addN xs s n = addN xs (s ||| 2 ^ n) (n + 2) := by
  obtain ⟨h0, x, hx, hne⟩ := onN_of h
  unfold addN
  rw [Nat.or_assoc]
  refine congrArg (s ||| ·) (bits_ext (fun i => ?_) fun i => ?_)
  · rw [Nat.testBit_or, Bool.eq_iff_iff, Bool.or_eq_true, closed_two_even, closed_two_even, Nat.testBit_two_pow, decide_eq_true_eq, show (n + 2) / 2 = n / 2 + 1 by omega]
    constructor
    · rintro ⟨_, hp⟩
      rcases path_zero hp with e | ⟨_, g⟩
      · left; omega
      · right; exact ⟨by omega, g⟩
    · rintro (e | ⟨_, g⟩)
      · exact ⟨h0, by rw [show n / 2 = i by omega]; exact pathH_refl xs i⟩
      · exact ⟨h0, pathH_next hx hne g⟩
  · rw [Nat.testBit_or, closed_two_odd, closed_two_odd, Nat.testBit_two_pow, decide_eq_false (show ¬ n + 2 = 2 * i + 1 by omega), Bool.or_false]
def outN (xs : List ItemP) (c : Int) (s n : Nat) : Nat := closedH xs (orN 0 ((classesN n s).filterMap (goesH xs c)))
theorem closed_none (xs : List ItemP) : closedH xs 0 = 0 := by
  refine bits_ext (fun i => ?_) fun i => ?_
  · rw [Bool.eq_iff_iff, closed_even, over_iff]
    constructor
    · rintro ⟨j, hj, _⟩
      have hj : (0 : Nat).testBit (2 * j) = true := hj
      rw [Nat.zero_testBit] at hj; cases hj
    · intro h; rw [Nat.zero_testBit] at h; cases h
  · rw [closed_odd]
theorem outN_zero (xs : List ItemP) (c : Int) (s : Nat) : outN xs c s 0 = 0 := closed_none xs
theorem outN_not {xs : List ItemP} {c : Int} {s n : Nat} (h : s.testBit n = false ∨ goesH xs c n = none) : outN xs c s (n + 1) = outN xs c s n := by
  unfold outN
  rw [classesN_snoc, List.filterMap_append]
  rcases h with h | h
  · rw [h]; simp
  · cases s.testBit n with
    | false => simp
    | true => simp [h]
theorem outN_add {xs : List ItemP} {c : Int} {s n m : Nat} (hb : s.testBit n = true) (hg : goesH xs c n = some m) : outN xs c s (n + 1) = addN xs (outN xs c s n) m := by
  unfold outN addN
  rw [classesN_snoc, List.filterMap_append, hb, if_pos rfl]
  have e : List.filterMap (goesH xs c) [n] = [m] := by simp [hg]
  rw [e, ← closed_union]
  refine congrArg (closedH xs) (Nat.eq_of_testBit_eq fun i => ?_)
  rw [orN_bit, Nat.testBit_or, orN_bit, Nat.testBit_two_pow, Bool.eq_iff_iff]
  simp only [Bool.or_eq_true, decide_eq_true_eq, List.mem_append, List.mem_singleton]
  constructor
  · rintro (h | h | h)
    · exact .inl (.inl h)
    · exact .inl (.inr h)
    · exact .inr h.symm
  · rintro ((h | h) | h)
    · exact .inl h
    · exact .inr (.inl h)
    · exact .inr (.inr h.symm)
theorem outN_lt {xs : List ItemP} (hw : howP xs) (c : Int) (s n : Nat) (hn : n ≤ 2 * xs.length) : outN xs c s n < 2 ^ (2 * xs.length + 1) := by
  refine closed_lt (bits_lt fun i hi => ?_)
  rw [orN_bit, Nat.zero_testBit, Bool.false_or]
  refine decide_eq_false fun h => ?_
  obtain ⟨k, hk, hg⟩ := List.mem_filterMap.1 h
  have hm : i ∈ nextsH xs true c s := mem_nexts.2 (.inr ⟨k, Nat.lt_of_lt_of_le (classesN_mem.1 hk).1 hn, (classesN_mem.1 hk).2, hg⟩)
  have h1 := raw_bit.2 hm
  have h2 := raw_lt hw (start := true) (c := c) (s := s)
  rw [bit_lt h2 hi] at h1
  cases h1
theorem step_start (xs : List ItemP) (c : Int) (s : Nat) : stepS xs true c s = outN xs c s (2 * xs.length) := rfl
theorem step_free (xs : List ItemP) (c : Int) (s : Nat) : stepS xs false c s = addN xs (outN xs c s (2 * xs.length)) 0 := by
  unfold stepS outN addN rawH
  rw [← closed_union]
  refine congrArg (closedH xs) (Nat.eq_of_testBit_eq fun i => ?_)
  unfold nextsH
  rw [orN_bit, Nat.testBit_or, orN_bit, Nat.testBit_two_pow, Bool.eq_iff_iff]
  simp only [Bool.or_eq_true, decide_eq_true_eq, List.mem_append]
  constructor
  · rintro (h | h | h)
    · exact .inl (.inl h)
    · have h2 : i = 0 := by simpa using h
      exact .inr h2.symm
    · exact .inl (.inr h)
  · rintro ((h | h) | h)
    · exact .inl h
    · exact .inr (.inr h)
    · exact .inr (.inl (by rw [← h]; simp))
theorem first_add (xs : List ItemP) : addN xs 0 0 = firstS xs := by unfold addN firstS; rw [Nat.zero_or]
end Go.Proofs.YtaoooocalpkhjaaGreatDoor
namespace Go.Proofs.YtaoooocalpkhjaaGreatDoor
open Go.RowKit Go.Shelf Go.Maps
attribute [local go_sem] Oper.semAt_some

def BolsAt (w : World) (o : Option Addr) (l : List Bool) : Prop := 0 < l.length → ∃ g off, o = some ⟨g, off, none⟩ ∧ ∀ (j : Nat) (x : Bool), l[j]? = some x → w.cell? ⟨g, off + j, none⟩ = some (.bool x)
theorem BolsAt.below {w w' : World} {o : Option Addr} {l : List Bool} (h : BolsAt w o l) (hb : Below w.heap.size w w') : BolsAt w' o l := fun hn => by
  obtain ⟨g, off, ho, hc⟩ := h hn
  exact ⟨g, off, ho, fun j x hx => cell_keep hb (hc j x hx)⟩
end Go.Proofs.YtaoooocalpkhjaaGreatDoor
namespace Go.Proofs.YtaoooocalpkhjaaGreatDoor
open Go.RowKit Go.Shelf

def knowA (xs : List ItemP) (s : Int) : Bool := rightB xs 32 && knowsB xs.length s
def stepA (st : Bool) (xs : List ItemP) (s c : Int) : Int := if knowA xs s = true then ((stepS xs st c s.toNat : Nat) : Int) else 0
def numA (b : Bool) : Int := if b = true then 0 else 80
theorem knowA_nat {xs : List ItemP} {s : Int} (h : knowA xs s = true) : rightB xs 32 = true ∧ 0 ≤ s ∧ s.toNat < 2 ^ (2 * xs.length + 1) ∧ s.toNat < 2 ^ 32 := by
  unfold knowA at h
  obtain ⟨hr, hk⟩ := Bool.and_eq_true_iff.1 h
  unfold knowsB at hk
  have hk := of_decide_eq_true hk
  have hp : 0 < 2 ^ (2 * xs.length + 1) := Nat.pow_pos (by decide)
  have hl := (rightB_parts hr).2.1
  have h1 : s.toNat < 2 ^ (2 * xs.length + 1) := by omega
  exact ⟨hr, hk.1, h1, Nat.lt_of_lt_of_le h1 (Nat.pow_le_pow_right (by decide) (by omega))⟩
end Go.Proofs.YtaoooocalpkhjaaGreatDoor
namespace Go.Proofs.YtaoooocalpkhjaaGreatDoor
open Go.RowKit Go.Shelf Go.Maps
attribute [local go_sem] Oper.semAt_some

set_option maxHeartbeats 1000000 in
theorem refBit_any (n : Nat) (hn : n ≤ 32) (w : World) : Calls Tryz.prog 118 #[.int .i64 (n : Nat)] w fun e w' => e = .returned (.int .i64 ((2 ^ n : Nat) : Int)) ∧ w = w' := by
  obtain ⟨P, hP⟩ : ∃ P, (fun (e : Ending) w' => e = .returned (.int .i64 ((2 ^ n : Nat) : Int)) ∧ w = w') = P := ⟨_, rfl⟩
  have HP := Lib.hid hP
  rw [hP]
  clear hP
  go_enter Tryz.func118, Tryz.ntmps118
  go_wp2_with fail
  go_loopg [3, 4] n (fun k v i wr => ∃ (j p : Nat), i = .int .i64 (j : Nat) ∧ v = .int .i64 (p : Nat) ∧ j ≤ n ∧ k = n - j ∧ Hid (p = 2 ^ j) ∧ w = wr)
  case atStart => exact ⟨0, 1, rfl, rfl, Nat.zero_le _, rfl, Lib.hid rfl, rfl⟩
  case round =>
    obtain ⟨j, p, rfl, rfl, hj, rfl, hp, rfl⟩ := hrel
    rcases Nat.lt_or_ge j n with hlt | hge
    · have hp2 : Hid (2 * p = 2 ^ (j + 1)) := Lib.hid (by rw [hp.out, Nat.pow_succ, Nat.mul_comm])
      have hpl : p ≤ 4294967296 := by rw [hp.out]; exact two_32 (by omega)
      have hj1 : j < 1000000 := by omega
      go_wp2
      go_roundg (n - (j + 1))
      case measure => omega
      case rel => exact ⟨j + 1, 2 * p, by simp, by simp, by omega, rfl, hp2, rfl⟩
    · obtain rfl : j = n := by omega
      have HQ : Hid (P (.returned (.int .i64 ((p : Nat) : Int))) w) := by
        rw [← HP.out]
        exact Lib.hid ⟨by rw [hp.out], rfl⟩
      go_wp2
      exact HQ.out
set_option maxRecDepth 100000 in
set_option maxHeartbeats 1000000 in
theorem refHasH_any (x k : Nat) (hx : x < 2 ^ 32) (hk : k ≤ 32) (w : World) : Calls Tryz.prog 117 #[.int .i64 (x : Nat), .int .i64 (k : Nat)] w fun e w' => e = .returned (.bool (x.testBit k)) ∧ w = w' := by
  have W1 := Lib.hid (refBit_any k hk w)
  have hp := two_pos k
  have hdb := div_bit x k
  have h32 : (2 : Nat) ^ 32 = 4294967296 := by decide
  rw [h32] at hx
  rw [← hdb]
  obtain ⟨p, hpp⟩ : ∃ p, 2 ^ k = p := ⟨_, rfl⟩
  rw [hpp] at W1 hp ⊢
  have t1 : ((x : Nat) : Int).tdiv ((p : Nat) : Int) = ((x / p : Nat) : Int) := by rw [Int.tdiv_eq_ediv_of_nonneg (Int.natCast_nonneg _)]; simp
  have t2 : ((x : Nat) : Int) / ((p : Nat) : Int) = ((x / p : Nat) : Int) := by simp
  have hle : x / p ≤ x := Nat.div_le_self _ _
  obtain ⟨q, hq⟩ : ∃ q, x / p = q := ⟨_, rfl⟩
  rw [hq] at t1 t2 hle ⊢
  have t3 : ((q : Nat) : Int).tmod 2 = ((q % 2 : Nat) : Int) := by rw [Int.tmod_eq_emod_of_nonneg (Int.natCast_nonneg _)]; simp
  obtain ⟨P, hP⟩ : ∃ P, (fun (e : Ending) w' => e = .returned (.bool (decide (q % 2 = 1))) ∧ w = w') = P := ⟨_, rfl⟩
  have HQ : Hid (P (.returned (.bool (((q : Nat) : Int) % 2 == 1))) w) := Lib.hid (by
    rw [← hP]
    refine ⟨?_, rfl⟩
    by_cases h : q % 2 = 1
    · rw [decide_eq_true h]
      have : ((q : Nat) : Int) % 2 = 1 := by omega
      rw [this]; rfl
    · rw [decide_eq_false h]
      have : ((q : Nat) : Int) % 2 = 0 := by omega
      rw [this]; rfl)
  have hpne : ¬ ((p : Nat) : Int) = 0 := by omega
  have hwq : wrap64 ((q : Nat) : Int) = ((q : Nat) : Int) := wrap_idK (by omega) (by omega)
  rw [hP]
  clear hP hdb hpp hq hx hle h32
  go_enter Tryz.func117, Tryz.ntmps117
  go_wp2_with fail
  refine W1.out.mono ?_
  rintro e w3 ⟨rfl, rfl⟩
  go_wp2
  exact HQ.out
set_option maxRecDepth 100000 in
set_option maxHeartbeats 4000000 in
theorem refAdd_step (st : Bool) (o : Option Addr) (xs : List ItemP) (cap : Nat) (hxl : xs.length ≤ 10) (s n : Nat) (hs : s < 2 ^ (2 * xs.length + 1)) (hn : n ≤ 2 * xs.length) (w : World) (hA : AtI w o xs)
    (hIH : ∀ s', s' < 2 ^ (2 * xs.length + 1) → n + 2 ≤ 2 * xs.length → ∀ W, Below w.heap.size w W → Calls Tryz.prog 79 #[patV st o xs.length cap, .int .i64 (s' : Nat), .int .i64 ((n + 2 : Nat) : Int)] W fun e w' => e = .returned (.int .i64 ((addN xs s' (n + 2) : Nat) : Int)) ∧ Below W.heap.size W w') :
    Calls Tryz.prog 79 #[patV st o xs.length cap, .int .i64 (s : Nat), .int .i64 (n : Nat)] w fun e w' => e = .returned (.int .i64 ((addN xs s n : Nat) : Int)) ∧ Below w.heap.size w w' := by
  obtain ⟨z, hz⟩ : ∃ z, xs.length = z := ⟨_, rfl⟩
  obtain ⟨w1, hw1⟩ : ∃ w1, w.alloc (patO st o z cap) = w1 := ⟨_, rfl⟩
  have b1 : Below w.heap.size w w1 := by rw [← hw1]; exact (Below.refl _ _).alloc (Nat.le_refl _) _
  have r1 : w1.heap[w.heap.size]? = some (patO st o z cap) := by rw [← hw1]; exact heap_alloc_new _ _
  obtain ⟨p0, p1⟩ := pat_cells r1
  have hn32 : n ≤ 32 := by omega
  have h21 : 2 ^ (2 * xs.length + 1) ≤ 2 ^ 21 := Nat.pow_le_pow_right (by decide) (by omega)
  have e21 : (2 : Nat) ^ 21 = 2097152 := by decide
  have e32 : (2 : Nat) ^ 32 = 4294967296 := by decide
  have hs21 : s < 2097152 := by omega
  have hs32 : s < 2 ^ 32 := by omega
  have HH := Lib.hid (refHasH_any s n hs32 hn32 w1)
  have HW := Lib.hid (refBit_any n hn32 w1)
  have hr : s ||| 2 ^ n < 2 ^ (2 * xs.length + 1) := Nat.or_lt_two_pow hs (Nat.pow_lt_pow_right (by decide) (by omega))
  have hr21 : s ||| 2 ^ n < 2097152 := by omega
  have IH : Hid (onN xs n = true → Calls Tryz.prog 79 #[patV st o z cap, .int .i64 ((s ||| 2 ^ n : Nat) : Int), .int .i64 ((n + 2 : Nat) : Int)] w1 fun e w' => e = .returned (.int .i64 ((addN xs s n : Nat) : Int)) ∧ Below w.heap.size w w') := Lib.hid fun h => by
    obtain ⟨h0, x, hx, _⟩ := onN_of h
    have hlt := (List.getElem?_eq_some_iff.1 hx).1
    have := hIH (s ||| 2 ^ n) hr (by omega) w1 b1
    rw [← addN_go h, hz] at this
    exact this.mono fun e w' h => ⟨h.1, b1.trans (h.2.mono b1.size)⟩
  have STOP : Hid (onN xs n = false → addN xs s n = s ||| 2 ^ n) := Lib.hid fun h => addN_stop h
  have HZ := Lib.hid hz
  have HA1 := Lib.hid (hA.below b1)
  have HW1 := Lib.hid hw1
  have HB1 := Lib.hid b1
  have hwx : s.testBit n = false → wrap64 (((s : Nat) : Int) + ((2 ^ n : Nat) : Int)) = ((s ||| 2 ^ n : Nat) : Int) := fun h => by
    rw [or_two h] at hr21 ⊢
    generalize 2 ^ n = p at hr21 ⊢
    rw [← Int.natCast_add]
    exact wrap_idK (by omega) (by omega)
  have hrs : s.testBit n = true → s ||| 2 ^ n = s := or_two_has
  obtain ⟨v, hv⟩ : ∃ v, addN xs s n = v := ⟨_, rfl⟩
  obtain ⟨r, hrr⟩ : ∃ r, s ||| 2 ^ n = r := ⟨_, rfl⟩
  obtain ⟨p, hpp⟩ : ∃ p, 2 ^ n = p := ⟨_, rfl⟩
  rw [hrr] at IH STOP hwx hrs hr21
  rw [hpp] at HW hwx
  rw [hv] at IH STOP
  rw [hz, hv]
  clear hw1 b1 r1 hpp hrr hr hs32 h21 e21 e32 hA hs hv hIH
  rw [hz] at hxl hn
  clear hz
  go_enter Tryz.func79, Tryz.ntmps79
  go_wp2_with fail
  rw [HW1.out]
  refine HH.out.mono ?_
  rintro e _ ⟨rfl, rfl⟩
  have hrpos : ((r : Nat) : Int) < 2097152 := by omega
  have h2 : n % 2 = 1 ∨ (n % 2 = 0 ∧ ((xs[n / 2]? = none ∧ z ≤ n / 2) ∨ ∃ x, xs[n / 2]? = some x ∧ n / 2 < z)) := by
    rcases Nat.mod_two_eq_zero_or_one n with g | g
    · right
      refine ⟨g, ?_⟩
      cases hx : xs[n / 2]? with
      | none => left; exact ⟨rfl, by have := List.getElem?_eq_none_iff.1 hx; rw [HZ.out] at this; exact this⟩
      | some x => right; exact ⟨x, rfl, by have := (List.getElem?_eq_some_iff.1 hx).1; rw [HZ.out] at this; exact this⟩
    · exact .inl g
  cases hb : s.testBit n with
  | true =>
    obtain rfl := hrs hb
    clear hwx hrs hb HW
    rcases h2 with g | ⟨g, ⟨hx, hz⟩ | ⟨x, hx, hz⟩⟩
    · have hv := STOP.out (onN_not fun x h0 _ => by omega)
      subst hv
      have g2 : ((n : Nat) : Int) % 2 = 1 := by omega
      clear IH STOP
      go_wp2_with fail
      go_ret
      exact ⟨rfl, HB1.out⟩
    · have hv := STOP.out (onN_not fun x h0 h => by rw [hx] at h; cases h)
      subst hv
      have g2 : ((n : Nat) : Int) % 2 = 0 := by omega
      obtain ⟨i, hi⟩ : ∃ i, n / 2 = i := ⟨_, rfl⟩
      have g3 : ((n : Nat) : Int) / 2 = ((i : Nat) : Int) := by omega
      rw [hi] at hz
      have g4 : ¬ i < z := by omega
      clear IH STOP hx hi
      go_wp2_with fail
      go_ret
      exact ⟨rfl, HB1.out⟩
    · obtain ⟨g0, off, rfl, hc⟩ := HA1.out (by rw [HZ.out]; omega)
      obtain ⟨k0, k1⟩ := hc (n / 2) x hx
      have g2 : ((n : Nat) : Int) % 2 = 0 := by omega
      obtain ⟨i, hi⟩ : ∃ i, n / 2 = i := ⟨_, rfl⟩
      have g3 : ((n : Nat) : Int) / 2 = ((i : Nat) : Int) := by omega
      rw [hi] at hz k0 k1
      have hi6 : i < 1000000 := by omega
      by_cases h0 : x.2 = 0
      · have hv := STOP.out (onN_not fun y _ h => by rw [hx] at h; cases h; exact h0)
        subst hv
        rw [h0] at k1
        clear IH STOP hx hi hc h0
        go_wp2_with fail
        go_ret
        exact ⟨rfl, HB1.out⟩
      · have HC := Lib.hid (IH.out (onN_is g hx h0))
        have e2 : ((n + 2 : Nat) : Int) = ((n : Nat) : Int) + 2 := by omega
        have hne : (x.2 != 0) = true := by simpa using h0
        rw [e2] at HC
        clear IH STOP hx hi hc e2 h0
        go_wp2_with fail
        refine HC.out.mono ?_
        rintro e w' ⟨rfl, hb'⟩
        have HB' := Lib.hid hb'
        clear hb'
        go_wp2_with fail
        go_ret
        exact ⟨rfl, HB'.out⟩
  | false =>
    have hw := hwx hb
    clear hwx hrs hb
    rcases h2 with g | ⟨g, ⟨hx, hz⟩ | ⟨x, hx, hz⟩⟩
    · have hv := STOP.out (onN_not fun x h0 _ => by omega)
      subst hv
      have g2 : ((n : Nat) : Int) % 2 = 1 := by omega
      clear IH STOP
      go_wp2_with fail
      refine HW.out.mono ?_
      rintro e _ ⟨rfl, rfl⟩
      go_wp2_with fail
      go_ret
      exact ⟨congrArg (fun z : Int => Ending.returned (Value.int .i64 z)) hw, HB1.out⟩
    · have hv := STOP.out (onN_not fun x h0 h => by rw [hx] at h; cases h)
      subst hv
      have g2 : ((n : Nat) : Int) % 2 = 0 := by omega
      obtain ⟨i, hi⟩ : ∃ i, n / 2 = i := ⟨_, rfl⟩
      have g3 : ((n : Nat) : Int) / 2 = ((i : Nat) : Int) := by omega
      rw [hi] at hz
      have g4 : ¬ i < z := by omega
      clear IH STOP hx hi
      go_wp2_with fail
      refine HW.out.mono ?_
      rintro e _ ⟨rfl, rfl⟩
      go_wp2_with fail
      go_ret
      exact ⟨congrArg (fun z : Int => Ending.returned (Value.int .i64 z)) hw, HB1.out⟩
    · obtain ⟨g0, off, rfl, hc⟩ := HA1.out (by rw [HZ.out]; omega)
      obtain ⟨k0, k1⟩ := hc (n / 2) x hx
      have g2 : ((n : Nat) : Int) % 2 = 0 := by omega
      obtain ⟨i, hi⟩ : ∃ i, n / 2 = i := ⟨_, rfl⟩
      have g3 : ((n : Nat) : Int) / 2 = ((i : Nat) : Int) := by omega
      rw [hi] at hz k0 k1
      have hi6 : i < 1000000 := by omega
      by_cases h0 : x.2 = 0
      · have hv := STOP.out (onN_not fun y _ h => by rw [hx] at h; cases h; exact h0)
        subst hv
        rw [h0] at k1
        clear IH STOP hx hi hc h0
        go_wp2_with fail
        refine HW.out.mono ?_
        rintro e _ ⟨rfl, rfl⟩
        go_wp2_with fail
        go_ret
        exact ⟨congrArg (fun z : Int => Ending.returned (Value.int .i64 z)) hw, HB1.out⟩
      · have HC := Lib.hid (IH.out (onN_is g hx h0))
        have e2 : ((n + 2 : Nat) : Int) = ((n : Nat) : Int) + 2 := by omega
        have hne : (x.2 != 0) = true := by simpa using h0
        rw [e2] at HC
        clear IH STOP hx hi hc e2 h0
        go_wp2_with fail
        refine HW.out.mono ?_
        rintro e _ ⟨rfl, rfl⟩
        go_wp2_with fail
        refine HC.out.mono ?_
        rintro e w' ⟨rfl, hb'⟩
        have HB' := Lib.hid hb'
        clear hb'
        go_wp2_with fail
        go_ret
        exact ⟨rfl, HB'.out⟩
theorem refAdd_any (st : Bool) (o : Option Addr) (xs : List ItemP) (cap : Nat) (hxl : xs.length ≤ 10) : ∀ (f s n : Nat), 2 * xs.length + 2 - n ≤ f → s < 2 ^ (2 * xs.length + 1) → n ≤ 2 * xs.length → ∀ (w : World), AtI w o xs →
    Calls Tryz.prog 79 #[patV st o xs.length cap, .int .i64 (s : Nat), .int .i64 (n : Nat)] w fun e w' => e = .returned (.int .i64 ((addN xs s n : Nat) : Int)) ∧ Below w.heap.size w w'
  | 0, s, n, hf, _, hn, _, _ => by omega
  | f + 1, s, n, hf, hs, hn, w, hA =>
    refAdd_step st o xs cap hxl s n hs hn w hA fun s' hs' hn' W hb => refAdd_any st o xs cap hxl f s' (n + 2) (by omega) hs' hn' W (hA.below hb)
end Go.Proofs.YtaoooocalpkhjaaGreatDoor
namespace Go.Proofs.YtaoooocalpkhjaaGreatDoor
open Go.RowKit Go.Shelf Go.Maps
attribute [local go_sem] Oper.semAt_some

theorem goes_x {xs : List ItemP} {c : Int} {j i : Nat} {x : ItemP} (hi : j / 2 = i) (hx : xs[i]? = some x) : goesH xs c j = if hasZ x.1 c then some (if j % 2 = 1 then j - 1 else j + farH x.2) else none := by
  subst hi
  unfold goesH
  rw [hx]
  rfl
set_option maxRecDepth 100000 in
set_option maxHeartbeats 4000000 in
theorem refStepL_any (st : Bool) (o : Option Addr) (xs : List ItemP) (cap : Nat) (hr : rightB xs 32 = true) (s : Nat) (hs : s < 2 ^ (2 * xs.length + 1)) (c : Int) (w : World) (hA : AtI w o xs) :
    Calls Tryz.prog 120 #[patV st o xs.length cap, .int .i64 (s : Nat), .int .i64 c] w fun e w' => e = .returned (.int .i64 ((stepS xs st c s : Nat) : Int)) ∧ Below w.heap.size w w' := by
  have hlen := (rightB_parts hr).2.1
  have hw := rightB_how hr
  obtain ⟨w1, hw1⟩ : ∃ w1, w.alloc (patO st o xs.length cap) = w1 := ⟨_, rfl⟩
  have b1 : Below w.heap.size w w1 := by rw [← hw1]; exact (Below.refl _ _).alloc (Nat.le_refl _) _
  have r1 : w1.heap[w.heap.size]? = some (patO st o xs.length cap) := by rw [← hw1]; exact heap_alloc_new _ _
  have h21 : 2 ^ (2 * xs.length + 1) ≤ 2 ^ 32 := Nat.pow_le_pow_right (by decide) (by omega)
  have HHAS := Lib.hid (fun (j : Nat) (hj : j ≤ 2 * xs.length) W => refHasH_any s j (Nat.lt_of_lt_of_le hs h21) (by omega) W)
  have HADD := Lib.hid (fun (v m : Nat) (hv : v < 2 ^ (2 * xs.length + 1)) (hm : m ≤ 2 * xs.length) W (hb : Below w.heap.size w W) => refAdd_any st o xs cap hlen (2 * xs.length + 2) v m (by omega) hv hm W (hA.below hb))
  have HOUT := Lib.hid (fun j (hj : j ≤ 2 * xs.length) => outN_lt hw c s j hj)
  have HNOT := Lib.hid (fun j => @outN_not xs c s j)
  have HYES := Lib.hid (fun j m => @outN_add xs c s j m)
  have HGO := Lib.hid (fun j i x => @goes_x xs c j i x)
  have HT : Hid (stepS xs true c s = outN xs c s (2 * xs.length)) := Lib.hid (step_start xs c s)
  have HF : Hid (stepS xs false c s = addN xs (outN xs c s (2 * xs.length)) 0) := Lib.hid (step_free xs c s)
  have HHOW := Lib.hid hw
  obtain ⟨z, hz⟩ : ∃ z, xs.length = z := ⟨_, rfl⟩
  rw [hz] at hlen r1 hw1 HHAS HADD HOUT HT HF ⊢
  have HN := Lib.hid hz
  have HA := Lib.hid hA
  have HW1 := Lib.hid hw1
  have HB1 := Lib.hid b1
  have HR1 := Lib.hid r1
  clear hw1 b1 r1 hz hA hr hs h21 hw
  go_enter Tryz.func120, Tryz.ntmps120
  go_wp2_with fail
  rw [HW1.out]
  go_loopg [7, 8] (2 * z) (fun k v i wr => ∃ (j v' : Nat), i = .int .i64 (j : Nat) ∧ v = .int .i64 (v' : Nat) ∧ j ≤ 2 * z ∧ k = 2 * z - j ∧ Hid (v' = outN xs c s j) ∧ Hid (Below w1.heap.size w1 wr))
  case atStart => exact ⟨0, 0, rfl, rfl, Nat.zero_le _, rfl, Lib.hid (outN_zero xs c s).symm, Lib.hid (Below.refl _ _)⟩
  case round =>
    obtain ⟨j, v, rfl, rfl, hj, rfl, HV, HB⟩ := hrel
    have hj6 : j < 1000000 := by omega
    have HBW := Lib.hid (HB1.out.trans (HB.out.mono HB1.out.size))
    obtain ⟨p0, p1⟩ := pat_cells (row_below HR1.out HB.out)
    rcases Nat.lt_or_ge j (2 * z) with hlt | hge
    · obtain ⟨i, hi⟩ : ∃ i, j / 2 = i := ⟨_, rfl⟩
      have hiz : i < z := by omega
      have hi6 : i < 1000000 := by omega
      have e2 : ((j : Nat) : Int) / 2 = ((i : Nat) : Int) := by omega
      obtain ⟨x, hx⟩ : ∃ x, xs[i]? = some x := ⟨_, List.getElem?_eq_getElem (by rw [HN.out]; exact hiz)⟩
      obtain ⟨g, off, rfl, hc⟩ := (HA.out.below HBW.out) (by rw [HN.out]; omega)
      obtain ⟨k0, k1⟩ := hc i x hx
      have HG := Lib.hid (HGO.out j i x hi hx)
      have hwx := HHOW.out x (List.mem_of_getElem? hx)
      obtain ⟨a, h⟩ := x
      simp only at k0 k1 HG hwx
      have bb : Below wr.heap.size wr (wr.alloc (itO (a, h))) := (Below.refl _ _).alloc (Nat.le_refl _) _
      have hltw : w.heap.size < wr.heap.size := (Array.getElem?_eq_some_iff.1 (row_below HR1.out HB.out)).1
      have HBB := Lib.hid (HB.out.trans (bb.mono HB.out.size))
      have HBBW := Lib.hid (HBW.out.trans (bb.mono HBW.out.size))
      have HH := Lib.hid (HHAS.out j hj (wr.alloc (itO (a, h))))
      have HS := Lib.hid (refHas_any a c (wr.alloc (itO (a, h))))
      have hv21 : v < 2 ^ (2 * z + 1) := by rw [HV.out]; exact HOUT.out j hj
      have HV21 := Lib.hid hv21
      cases hb : s.testBit j with
      | false =>
        have HV2 : Hid (v = outN xs c s (j + 1)) := Lib.hid (by rw [HNOT.out j (.inl hb)]; exact HV.out)
        rw [hb] at HH
        clear hb hc hx bb hv21 hi hwx
        go_wp2_with fail
        refine HH.out.mono ?_
        rintro e _ ⟨rfl, rfl⟩
        go_wp2
        go_roundg (2 * z - (j + 1))
        case measure => omega
        case rel => exact ⟨j + 1, v, by simp, rfl, by omega, rfl, HV2, HBB⟩
      | true =>
        rw [hb] at HH
        cases hh : hasZ a c with
        | false =>
          have HV2 : Hid (v = outN xs c s (j + 1)) := Lib.hid (by rw [HNOT.out j (.inr (by rw [HG.out, hh]; rfl))]; exact HV.out)
          rw [hh] at HS
          clear hb hc hx bb hv21 hi hwx hh
          go_wp2_with fail
          refine HH.out.mono ?_
          rintro e _ ⟨rfl, rfl⟩
          go_wp2_with fail
          refine HS.out.mono ?_
          rintro e _ ⟨rfl, rfl⟩
          go_wp2
          go_roundg (2 * z - (j + 1))
          case measure => omega
          case rel => exact ⟨j + 1, v, by simp, rfl, by omega, rfl, HV2, HBB⟩
        | true =>
          rw [hh] at HS
          have HGM : Hid (goesH xs c j = some (if j % 2 = 1 then j - 1 else j + farH h)) := Lib.hid (by rw [HG.out, hh]; rfl)
          rcases Nat.mod_two_eq_zero_or_one j with g2 | g2
          · have f2 : ((j : Nat) : Int) % 2 = 0 := by omega
            rcases hwx with rfl | rfl | rfl
            · have hm : j + 2 ≤ 2 * z := by omega
              have HV2 : Hid (addN xs v (j + 2) = outN xs c s (j + 1)) := Lib.hid (by
                rw [HYES.out j (j + 2) hb (by rw [HGM.out, if_neg (by omega)]; rfl), HV.out])
              have HC := Lib.hid (HADD.out v (j + 2) HV21.out hm (wr.alloc (itO (a, 0))) HBBW.out)
              have e3 : ((j + 2 : Nat) : Int) = ((j : Nat) : Int) + 2 := by omega
              rw [e3] at HC
              obtain ⟨u, hu⟩ : ∃ u, addN xs v (j + 2) = u := ⟨_, rfl⟩
              rw [hu] at HC HV2
              clear hb hc hx bb hv21 hi hh HG HGM hm e3 hu
              go_wp2_with fail
              refine HH.out.mono ?_
              rintro e _ ⟨rfl, rfl⟩
              go_wp2_with fail
              refine HS.out.mono ?_
              rintro e _ ⟨rfl, rfl⟩
              go_wp2_with fail
              refine HC.out.mono ?_
              rintro e w9 ⟨rfl, b9⟩
              have HB9 := Lib.hid (HBB.out.trans (b9.mono HBB.out.size))
              clear b9
              go_wp2
              go_roundg (2 * z - (j + 1))
              case measure => omega
              case rel => exact ⟨j + 1, u, by simp, rfl, by omega, rfl, HV2, HB9⟩
            · have hm : j ≤ 2 * z := by omega
              have HV2 : Hid (addN xs v j = outN xs c s (j + 1)) := Lib.hid (by
                rw [HYES.out j j hb (by rw [HGM.out, if_neg (by omega)]; rfl), HV.out])
              have HC := Lib.hid (HADD.out v j HV21.out hm (wr.alloc (itO (a, 1))) HBBW.out)
              obtain ⟨u, hu⟩ : ∃ u, addN xs v j = u := ⟨_, rfl⟩
              rw [hu] at HC HV2
              clear hb hc hx bb hv21 hi hh HG HGM hm hu
              go_wp2_with fail
              refine HH.out.mono ?_
              rintro e _ ⟨rfl, rfl⟩
              go_wp2_with fail
              refine HS.out.mono ?_
              rintro e _ ⟨rfl, rfl⟩
              go_wp2_with fail
              refine HC.out.mono ?_
              rintro e w9 ⟨rfl, b9⟩
              have HB9 := Lib.hid (HBB.out.trans (b9.mono HBB.out.size))
              clear b9
              go_wp2
              go_roundg (2 * z - (j + 1))
              case measure => omega
              case rel => exact ⟨j + 1, u, by simp, rfl, by omega, rfl, HV2, HB9⟩
            · have hm : j + 1 ≤ 2 * z := by omega
              have HV2 : Hid (addN xs v (j + 1) = outN xs c s (j + 1)) := Lib.hid (by
                rw [HYES.out j (j + 1) hb (by rw [HGM.out, if_neg (by omega)]; rfl), HV.out])
              have HC := Lib.hid (HADD.out v (j + 1) HV21.out hm (wr.alloc (itO (a, 2))) HBBW.out)
              have e3 : ((j + 1 : Nat) : Int) = ((j : Nat) : Int) + 1 := by omega
              rw [e3] at HC
              obtain ⟨u, hu⟩ : ∃ u, addN xs v (j + 1) = u := ⟨_, rfl⟩
              rw [hu] at HC HV2
              clear hb hc hx bb hv21 hi hh HG HGM hm e3 hu
              go_wp2_with fail
              refine HH.out.mono ?_
              rintro e _ ⟨rfl, rfl⟩
              go_wp2_with fail
              refine HS.out.mono ?_
              rintro e _ ⟨rfl, rfl⟩
              go_wp2_with fail
              refine HC.out.mono ?_
              rintro e w9 ⟨rfl, b9⟩
              have HB9 := Lib.hid (HBB.out.trans (b9.mono HBB.out.size))
              clear b9
              go_wp2
              go_roundg (2 * z - (j + 1))
              case measure => omega
              case rel => exact ⟨j + 1, u, by simp, rfl, by omega, rfl, HV2, HB9⟩
          · have f2 : ((j : Nat) : Int) % 2 = 1 := by omega
            have hm : j - 1 ≤ 2 * z := by omega
            have HV2 : Hid (addN xs v (j - 1) = outN xs c s (j + 1)) := Lib.hid (by
              rw [HYES.out j (j - 1) hb (by rw [HGM.out, if_pos g2]), HV.out])
            have HC := Lib.hid (HADD.out v (j - 1) HV21.out hm (wr.alloc (itO (a, h))) HBBW.out)
            have e3 : ((j - 1 : Nat) : Int) = ((j : Nat) : Int) - 1 := by omega
            rw [e3] at HC
            obtain ⟨u, hu⟩ : ∃ u, addN xs v (j - 1) = u := ⟨_, rfl⟩
            rw [hu] at HC HV2
            clear hb hc hx bb hv21 hi hh HG HGM hm e3 hu hwx
            go_wp2_with fail
            refine HH.out.mono ?_
            rintro e _ ⟨rfl, rfl⟩
            go_wp2_with fail
            refine HS.out.mono ?_
            rintro e _ ⟨rfl, rfl⟩
            go_wp2_with fail
            refine HC.out.mono ?_
            rintro e w9 ⟨rfl, b9⟩
            have HB9 := Lib.hid (HBB.out.trans (b9.mono HBB.out.size))
            clear b9
            go_wp2
            go_roundg (2 * z - (j + 1))
            case measure => omega
            case rel => exact ⟨j + 1, u, by simp, rfl, by omega, rfl, HV2, HB9⟩
    · obtain rfl : j = 2 * z := by omega
      cases st with
      | true =>
        have hv : v = stepS xs true c s := by rw [HT.out]; exact HV.out
        have HX := Lib.hid hv.symm
        clear hv
        go_wp2_with fail
        go_ret
        exact ⟨by rw [HX.out]; rfl, HBW.out⟩
      | false =>
        have hv21 : v < 2 ^ (2 * z + 1) := by rw [HV.out]; exact HOUT.out _ hj
        have HC := Lib.hid (HADD.out v 0 hv21 (Nat.zero_le _) wr HBW.out)
        have HX : Hid (addN xs v 0 = stepS xs false c s) := Lib.hid (by rw [HF.out, HV.out])
        rw [HX.out] at HC
        clear hv21
        go_wp2_with fail
        refine HC.out.mono ?_
        rintro e w9 ⟨rfl, b9⟩
        have HB9 := Lib.hid (HBW.out.trans (b9.mono HBW.out.size))
        clear b9
        go_wp2_with fail
        go_ret
        exact ⟨rfl, HB9.out⟩
end Go.Proofs.YtaoooocalpkhjaaGreatDoor
namespace Go.Proofs.YtaoooocalpkhjaaGreatDoor
open Go.RowKit Go.Shelf Go.Maps
attribute [local go_sem] Oper.semAt_some

def mostA (xs : List ItemP) : Int := if rightB xs 32 = true then ((mostS xs : Nat) : Int) else 0
def firstA (xs : List ItemP) : Int := if rightB xs 32 = true then ((firstS xs : Nat) : Int) else 0
set_option maxRecDepth 100000 in
set_option maxHeartbeats 4000000 in
theorem refMost_any (st : Bool) (o : Option Addr) (xs : List ItemP) (cap : Nat) (hxl : xs.length ≤ 100000) (w : World) (hA : AtI w o xs) :
    Calls Tryz.prog 119 #[patV st o xs.length cap] w fun e w' => e = .returned (.int .i64 (mostA xs)) ∧ Below w.heap.size w w' := by
  obtain ⟨w1, hw1⟩ : ∃ w1, w.alloc (patO st o xs.length cap) = w1 := ⟨_, rfl⟩
  have b1 : Below w.heap.size w w1 := by rw [← hw1]; exact (Below.refl _ _).alloc (Nat.le_refl _) _
  have r1 : w1.heap[w.heap.size]? = some (patO st o xs.length cap) := by rw [← hw1]; exact heap_alloc_new _ _
  have HR := Lib.hid (refRight_anyQ st o xs cap 32 hxl w1 (hA.below b1))
  unfold mostA
  obtain ⟨z, hz⟩ : ∃ z, xs.length = z := ⟨_, rfl⟩
  have HW1 := Lib.hid hw1
  have HB1 := Lib.hid b1
  have HR1 := Lib.hid r1
  cases hr : rightB xs 32 with
  | false =>
    rw [hr] at HR
    rw [hz] at HR HW1 ⊢
    clear hw1 b1 r1 hA hr hz hxl HR1
    go_enter Tryz.func119, Tryz.ntmps119
    go_wp2_with fail
    rw [HW1.out]
    refine HR.out.mono ?_
    rintro e w2 ⟨rfl, b2⟩
    have HB2 := Lib.hid (HB1.out.trans (b2.mono HB1.out.size))
    clear b2
    go_wp2_with fail
    go_ret
    exact ⟨rfl, HB2.out⟩
  | true =>
    have hlen := (rightB_parts hr).2.1
    rw [hr] at HR
    have HP : Hid (∀ W, Calls Tryz.prog 118 #[.int .i64 ((2 * xs.length : Nat) : Int)] W fun e w' => e = .returned (.int .i64 ((2 ^ (2 * xs.length) : Nat) : Int)) ∧ W = w') := Lib.hid fun W => refBit_any (2 * xs.length) (by omega) W
    have hm : mostS xs = 2 * 2 ^ (2 * xs.length) - 1 := by unfold mostS; rw [Nat.pow_succ, Nat.mul_comm]
    have hp := two_pos (2 * xs.length)
    have h21 : 2 ^ (2 * xs.length) ≤ 2 ^ 20 := Nat.pow_le_pow_right (by decide) (by omega)
    have e20 : (2 : Nat) ^ 20 = 1048576 := by decide
    rw [hm, if_pos rfl]
    rw [hz] at HR HW1 HR1 HP hp h21 hlen ⊢
    obtain ⟨p, hpp⟩ : ∃ p, 2 ^ (2 * z) = p := ⟨_, rfl⟩
    rw [hpp] at HP hp h21 ⊢
    have hp1 : p ≤ 1048576 := by omega
    have em : ((2 * p - 1 : Nat) : Int) = 2 * ((p : Nat) : Int) - 1 := by omega
    have ec : ((2 * z : Nat) : Int) = 2 * ((z : Nat) : Int) := by omega
    rw [em]
    clear hw1 b1 r1 hA hr hz hxl hm hpp h21 e20 em
    go_enter Tryz.func119, Tryz.ntmps119
    go_wp2_with fail
    rw [HW1.out]
    refine HR.out.mono ?_
    rintro e w2 ⟨rfl, b2⟩
    have HB2 := Lib.hid (HB1.out.trans (b2.mono HB1.out.size))
    obtain ⟨q0, q1⟩ := pat_cells (row_below HR1.out b2)
    have HC := Lib.hid (HP.out w2)
    clear b2 ec
    go_wp2_with fail
    first | refine HC.out.mono ?_ | (trace_state; fail)
    rintro e _ ⟨rfl, rfl⟩
    go_wp2_with fail
    go_ret
    exact ⟨by simp, HB2.out⟩
set_option maxRecDepth 100000 in
set_option maxHeartbeats 4000000 in
theorem refFirst_any (st : Bool) (o : Option Addr) (xs : List ItemP) (cap : Nat) (hxl : xs.length ≤ 100000) (w : World) (hA : AtI w o xs) :
    Calls Tryz.prog 48 #[patV st o xs.length cap] w fun e w' => e = .returned (.tuple #[.int .i64 (firstA xs), .int .i64 (numA (rightB xs 32))]) ∧ Below w.heap.size w w' := by
  obtain ⟨w1, hw1⟩ : ∃ w1, w.alloc (patO st o xs.length cap) = w1 := ⟨_, rfl⟩
  have b1 : Below w.heap.size w w1 := by rw [← hw1]; exact (Below.refl _ _).alloc (Nat.le_refl _) _
  have r1 : w1.heap[w.heap.size]? = some (patO st o xs.length cap) := by rw [← hw1]; exact heap_alloc_new _ _
  have HR := Lib.hid (refRight_anyQ st o xs cap 32 hxl w1 (hA.below b1))
  unfold firstA numA
  obtain ⟨z, hz⟩ : ∃ z, xs.length = z := ⟨_, rfl⟩
  have HW1 := Lib.hid hw1
  have HB1 := Lib.hid b1
  have HR1 := Lib.hid r1
  cases hr : rightB xs 32 with
  | false =>
    rw [hr] at HR
    rw [hz] at HR HW1 ⊢
    clear hw1 b1 r1 hA hr hz hxl HR1
    go_enter Tryz.func48, Tryz.ntmps48
    go_wp2_with fail
    rw [HW1.out]
    refine HR.out.mono ?_
    rintro e w2 ⟨rfl, b2⟩
    have HB2 := Lib.hid (HB1.out.trans (b2.mono HB1.out.size))
    clear b2
    go_wp2_with fail
    exact bodyPost_ret (results_tmp2 (t := 2) (u := 3) rfl _ _ _) rfl ⟨rfl, HB2.out⟩
  | true =>
    have hlen := (rightB_parts hr).2.1
    rw [hr] at HR
    have HADD := Lib.hid (fun W (hb : Below w.heap.size w W) => refAdd_any st o xs cap hlen (2 * xs.length + 2) 0 0 (by omega) (Nat.pow_pos (by decide)) (Nat.zero_le _) W (hA.below hb))
    rw [first_add] at HADD
    rw [hz] at HR HW1 HR1 HADD ⊢
    clear hw1 b1 r1 hA hr hz hxl
    go_enter Tryz.func48, Tryz.ntmps48
    go_wp2_with fail
    rw [HW1.out]
    refine HR.out.mono ?_
    rintro e w2 ⟨rfl, b2⟩
    have HB2 := Lib.hid (HB1.out.trans (b2.mono HB1.out.size))
    obtain ⟨q0, q1⟩ := pat_cells (row_below HR1.out b2)
    have HC := Lib.hid (HADD.out w2 HB2.out)
    clear b2
    go_wp2_with fail
    refine HC.out.mono ?_
    rintro e w3 ⟨rfl, b3⟩
    have HB3 := Lib.hid (HB2.out.trans (b3.mono HB2.out.size))
    clear b3
    go_wp2_with fail
    exact bodyPost_ret (results_tmp2 (t := 2) (u := 3) rfl _ _ _) rfl ⟨rfl, HB3.out⟩
theorem knowA_parts {xs : List ItemP} {s : Int} : knowA xs s = false → rightB xs 32 = false ∨ (rightB xs 32 = true ∧ (s < 0 ∨ (0 ≤ s ∧ ((mostS xs : Nat) : Int) < s))) := fun h => by
  cases hr : rightB xs 32 with
  | false => exact .inl rfl
  | true =>
    unfold knowA knowsB at h
    rw [hr, Bool.true_and] at h
    have := of_decide_eq_false h
    unfold mostS
    exact .inr ⟨rfl, by omega⟩
theorem knowA_most {xs : List ItemP} {s : Int} (h : knowA xs s = true) : s ≤ ((mostS xs : Nat) : Int) := by
  unfold knowA knowsB at h
  obtain ⟨_, h⟩ := Bool.and_eq_true_iff.1 h
  exact (of_decide_eq_true h).2
theorem most_is {xs : List ItemP} (h : rightB xs 32 = true) : mostA xs = ((mostS xs : Nat) : Int) := by unfold mostA; rw [if_pos h]
set_option maxRecDepth 100000 in
set_option maxHeartbeats 4000000 in
theorem refStep_any (st : Bool) (o : Option Addr) (xs : List ItemP) (cap : Nat) (s c : Int) (hxl : xs.length ≤ 100000) (w : World) (hA : AtI w o xs) :
    Calls Tryz.prog 80 #[patV st o xs.length cap, .int .i64 s, .int .i64 c] w fun e w' => e = .returned (.tuple #[.int .i64 (stepA st xs s c), .int .i64 (numA (knowA xs s))]) ∧ Below w.heap.size w w' := by
  obtain ⟨w1, hw1⟩ : ∃ w1, w.alloc (patO st o xs.length cap) = w1 := ⟨_, rfl⟩
  have b1 : Below w.heap.size w w1 := by rw [← hw1]; exact (Below.refl _ _).alloc (Nat.le_refl _) _
  have r1 : w1.heap[w.heap.size]? = some (patO st o xs.length cap) := by rw [← hw1]; exact heap_alloc_new _ _
  have HR := Lib.hid (refRight_anyQ st o xs cap 32 hxl w1 (hA.below b1))
  have HM := Lib.hid (fun W (hb : Below w.heap.size w W) => refMost_any st o xs cap hxl W (hA.below hb))
  have HSTP := Lib.hid (fun (hr : rightB xs 32 = true) (hs : s.toNat < 2 ^ (2 * xs.length + 1)) W (hb : Below w.heap.size w W) => refStepL_any st o xs cap hr s.toNat hs c W (hA.below hb))
  unfold stepA numA
  obtain ⟨z, hz⟩ : ∃ z, xs.length = z := ⟨_, rfl⟩
  have HW1 := Lib.hid hw1
  have HB1 := Lib.hid b1
  have HR1 := Lib.hid r1
  clear hw1 b1 r1 hA hxl
  cases hk : knowA xs s with
  | false =>
    rw [if_neg (by decide), if_neg (by decide)]
    rcases knowA_parts hk with hr | ⟨hr, h0 | ⟨h0, h1⟩⟩
    · rw [hr] at HR
      rw [hz] at HR HW1 ⊢
      clear hr hz hk HR1 HM HSTP
      go_enter Tryz.func80, Tryz.ntmps80
      go_wp2_with fail
      rw [HW1.out]
      refine HR.out.mono ?_
      rintro e w2 ⟨rfl, b2⟩
      have HB2 := Lib.hid (HB1.out.trans (b2.mono HB1.out.size))
      clear b2
      go_wp2_with fail
      exact bodyPost_ret (results_tmp2 (t := 6) (u := 7) rfl _ _ _) rfl ⟨rfl, HB2.out⟩
    · rw [hr] at HR
      rw [hz] at HR HW1 ⊢
      clear hr hz hk HR1 HM HSTP
      go_enter Tryz.func80, Tryz.ntmps80
      go_wp2_with fail
      rw [HW1.out]
      refine HR.out.mono ?_
      rintro e w2 ⟨rfl, b2⟩
      have HB2 := Lib.hid (HB1.out.trans (b2.mono HB1.out.size))
      clear b2
      go_wp2_with fail
      exact bodyPost_ret (results_tmp2 (t := 6) (u := 7) rfl _ _ _) rfl ⟨rfl, HB2.out⟩
    · rw [hr] at HR
      rw [most_is hr] at HM
      rw [hz] at HR HW1 HR1 HM ⊢
      obtain ⟨m, hm⟩ : ∃ m, mostS xs = m := ⟨_, rfl⟩
      rw [hm] at HM h1
      have h2 : ¬ s < 0 := by omega
      clear hr hz hk HSTP hm
      go_enter Tryz.func80, Tryz.ntmps80
      go_wp2_with fail
      rw [HW1.out]
      refine HR.out.mono ?_
      rintro e w2 ⟨rfl, b2⟩
      have HB2 := Lib.hid (HB1.out.trans (b2.mono HB1.out.size))
      obtain ⟨q0, q1⟩ := pat_cells (row_below HR1.out b2)
      have HC := Lib.hid (HM.out w2 HB2.out)
      clear b2
      go_wp2_with fail
      refine HC.out.mono ?_
      rintro e w3 ⟨rfl, b3⟩
      have HB3 := Lib.hid (HB2.out.trans (b3.mono HB2.out.size))
      clear b3
      go_wp2_with fail
      exact bodyPost_ret (results_tmp2 (t := 6) (u := 7) rfl _ _ _) rfl ⟨rfl, HB3.out⟩
  | true =>
    obtain ⟨hr, h0, hs, _⟩ := knowA_nat hk
    have h1 := knowA_most hk
    rw [if_pos rfl, if_pos rfl]
    have HST := Lib.hid (HSTP.out hr hs)
    rw [hr] at HR
    rw [most_is hr] at HM
    have es : ((s.toNat : Nat) : Int) = s := Int.toNat_of_nonneg h0
    rw [es] at HST
    rw [hz] at HR HW1 HR1 HM HST ⊢
    obtain ⟨m, hm⟩ : ∃ m, mostS xs = m := ⟨_, rfl⟩
    obtain ⟨u, hu⟩ : ∃ u, stepS xs st c s.toNat = u := ⟨_, rfl⟩
    rw [hm] at HM h1
    rw [hu] at HST ⊢
    have h2 : ¬ s < 0 := by omega
    have h3 : ¬ ((m : Nat) : Int) < s := by omega
    clear hr hz hk HSTP hm hs es hu
    go_enter Tryz.func80, Tryz.ntmps80
    go_wp2_with fail
    rw [HW1.out]
    refine HR.out.mono ?_
    rintro e w2 ⟨rfl, b2⟩
    have HB2 := Lib.hid (HB1.out.trans (b2.mono HB1.out.size))
    obtain ⟨q0, q1⟩ := pat_cells (row_below HR1.out b2)
    have HC := Lib.hid (HM.out w2 HB2.out)
    have HR2 := Lib.hid (row_below HR1.out b2)
    clear b2
    go_wp2_with fail
    refine HC.out.mono ?_
    rintro e w3 ⟨rfl, b3⟩
    have HB3 := Lib.hid (HB2.out.trans (b3.mono HB2.out.size))
    obtain ⟨t0, t1⟩ := pat_cells (row_below HR2.out b3)
    have HD := Lib.hid (HST.out w3 HB3.out)
    clear b3 q0 q1
    go_wp2_with fail
    refine HD.out.mono ?_
    rintro e w4 ⟨rfl, b4⟩
    have HB4 := Lib.hid (HB3.out.trans (b4.mono HB3.out.size))
    clear b4
    go_wp2_with fail
    exact bodyPost_ret (results_tmp2 (t := 6) (u := 7) rfl _ _ _) rfl ⟨rfl, HB4.out⟩
set_option maxRecDepth 100000 in
set_option maxHeartbeats 4000000 in
theorem refDone_any (st : Bool) (o : Option Addr) (xs : List ItemP) (cap : Nat) (s : Int) (hxl : xs.length ≤ 100000) (w : World) (hA : AtI w o xs) :
    Calls Tryz.prog 81 #[patV st o xs.length cap, .int .i64 s] w fun e w' => e = .returned (.bool (knowA xs s && doneS xs s.toNat)) ∧ Below w.heap.size w w' := by
  obtain ⟨w1, hw1⟩ : ∃ w1, w.alloc (patO st o xs.length cap) = w1 := ⟨_, rfl⟩
  have b1 : Below w.heap.size w w1 := by rw [← hw1]; exact (Below.refl _ _).alloc (Nat.le_refl _) _
  have r1 : w1.heap[w.heap.size]? = some (patO st o xs.length cap) := by rw [← hw1]; exact heap_alloc_new _ _
  have HR := Lib.hid (refRight_anyQ st o xs cap 32 hxl w1 (hA.below b1))
  have HM := Lib.hid (fun W (hb : Below w.heap.size w W) => refMost_any st o xs cap hxl W (hA.below hb))
  obtain ⟨z, hz⟩ : ∃ z, xs.length = z := ⟨_, rfl⟩
  have HW1 := Lib.hid hw1
  have HB1 := Lib.hid b1
  have HR1 := Lib.hid r1
  clear hw1 b1 r1 hA hxl
  cases hk : knowA xs s with
  | false =>
    rw [Bool.false_and]
    rcases knowA_parts hk with hr | ⟨hr, h0 | ⟨h0, h1⟩⟩
    · rw [hr] at HR
      rw [hz] at HR HW1 ⊢
      clear hr hz hk HR1 HM
      go_enter Tryz.func81, Tryz.ntmps81
      go_wp2_with fail
      rw [HW1.out]
      refine HR.out.mono ?_
      rintro e w2 ⟨rfl, b2⟩
      have HB2 := Lib.hid (HB1.out.trans (b2.mono HB1.out.size))
      clear b2
      go_wp2_with fail
      go_ret
      exact ⟨rfl, HB2.out⟩
    · rw [hr] at HR
      rw [hz] at HR HW1 ⊢
      have h2 : ¬ 0 ≤ s := by omega
      clear hr hz hk HR1 HM
      go_enter Tryz.func81, Tryz.ntmps81
      go_wp2_with fail
      rw [HW1.out]
      refine HR.out.mono ?_
      rintro e w2 ⟨rfl, b2⟩
      have HB2 := Lib.hid (HB1.out.trans (b2.mono HB1.out.size))
      clear b2
      go_wp2_with fail
      go_ret
      exact ⟨rfl, HB2.out⟩
    · rw [hr] at HR
      rw [most_is hr] at HM
      rw [hz] at HR HW1 HR1 HM ⊢
      obtain ⟨m, hm⟩ : ∃ m, mostS xs = m := ⟨_, rfl⟩
      rw [hm] at HM h1
      have h2 : ¬ s ≤ ((m : Nat) : Int) := by omega
      clear hr hz hk hm
      go_enter Tryz.func81, Tryz.ntmps81
      go_wp2_with fail
      rw [HW1.out]
      refine HR.out.mono ?_
      rintro e w2 ⟨rfl, b2⟩
      have HB2 := Lib.hid (HB1.out.trans (b2.mono HB1.out.size))
      obtain ⟨q0, q1⟩ := pat_cells (row_below HR1.out b2)
      have HC := Lib.hid (HM.out w2 HB2.out)
      clear b2
      go_wp2_with fail
      refine HC.out.mono ?_
      rintro e w3 ⟨rfl, b3⟩
      have HB3 := Lib.hid (HB2.out.trans (b3.mono HB2.out.size))
      clear b3
      go_wp2_with fail
      go_ret
      exact ⟨rfl, HB3.out⟩
  | true =>
    obtain ⟨hr, h0, hs, hs32⟩ := knowA_nat hk
    have h1 := knowA_most hk
    have hlen := (rightB_parts hr).2.1
    have HHAS : Hid (∀ W, Calls Tryz.prog 117 #[.int .i64 s, .int .i64 (2 * ((xs.length : Nat) : Int))] W fun e w' => e = .returned (.bool (doneS xs s.toNat)) ∧ W = w') := Lib.hid fun W => by
      have := refHasH_any s.toNat (2 * xs.length) hs32 (by omega) W
      rwa [Int.toNat_of_nonneg h0, show ((2 * xs.length : Nat) : Int) = 2 * ((xs.length : Nat) : Int) by omega] at this
    rw [Bool.true_and]
    rw [hr] at HR
    rw [most_is hr] at HM
    rw [hz] at HR HW1 HR1 HM HHAS hlen ⊢
    obtain ⟨m, hm⟩ : ∃ m, mostS xs = m := ⟨_, rfl⟩
    obtain ⟨d, hd⟩ : ∃ d, doneS xs s.toNat = d := ⟨_, rfl⟩
    rw [hm] at HM h1
    rw [hd] at HHAS ⊢
    clear hr hz hk hm hs hs32 hd
    go_enter Tryz.func81, Tryz.ntmps81
    go_wp2_with fail
    rw [HW1.out]
    refine HR.out.mono ?_
    rintro e w2 ⟨rfl, b2⟩
    have HB2 := Lib.hid (HB1.out.trans (b2.mono HB1.out.size))
    obtain ⟨q0, q1⟩ := pat_cells (row_below HR1.out b2)
    have HC := Lib.hid (HM.out w2 HB2.out)
    have HR2 := Lib.hid (row_below HR1.out b2)
    clear b2
    go_wp2_with fail
    refine HC.out.mono ?_
    rintro e w3 ⟨rfl, b3⟩
    have HB3 := Lib.hid (HB2.out.trans (b3.mono HB2.out.size))
    obtain ⟨t0, t1⟩ := pat_cells (row_below HR2.out b3)
    have HD := Lib.hid (HHAS.out w3)
    clear b3 q0 q1
    go_wp2_with fail
    first | refine HD.out.mono ?_ | (trace_state; fail)
    rintro e _ ⟨rfl, rfl⟩
    go_wp2_with fail
    go_ret
    exact ⟨rfl, HB3.out⟩
end Go.Proofs.YtaoooocalpkhjaaGreatDoor
