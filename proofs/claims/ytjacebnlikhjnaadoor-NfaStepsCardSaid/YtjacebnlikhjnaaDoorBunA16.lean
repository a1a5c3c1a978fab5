/- sets, bools: two lists compared. Printed by gensameh.py. Cut, few: the first items, the first numbers. shown: what the law asks ahead of all. What the cards' own ties give, of nfa: the two sentinels, how far; a world for the witness; openings of arguments; the last step of each row. States of patterns: what follows, plainly. Two numbers' bits together; Step and Done, whatever comes in. -/
import Derived.Test.YtjacebnlikhjnaaDoorBunA15
import Derived.Deep.QuietTactic
import Derived.Test.YtjacebnlikhjnaaDoorCards
import Derived.Test.YtjacebnlikhjnaaDoorTie
import Derived.Test.YtjacebnlikhjnaaDoorChecked
import Derived.ProofKit
import Derived.OpenShut
import Derived.Below
import Derived.ChangeSame
import Derived.ChangeMaps5
import Derived.Carry
import Derived.Deep.DeepHandedRow
import Derived.Deep.DeepWitnessRowRef
import Derived.LaidSub
import Derived.LaidHandle
import Derived.Lay
import Derived.MakeChecks
import Derived.Shelf.Vars
import Derived.LaidMore
import Derived.Stop.LaidTwo
import Derived.Test.YtjacebnlikhjnaaDoorBunA5
import Derived.Test.YtjacebnlikhjnaaDoorBunA6
namespace Go.Proofs.YtjacebnlikhjnaaDoor
open Go.RowKit Go.Shelf Go.Maps
attribute [local go_sem] Oper.semAt_some

theorem below_drewH1 (w : World) (q : Nat) : Below w.heap.size w (w.drewN q) := Moves.below (Below.refl _ _) (Nat.le_refl _) (moves_drewNQ _ _) (fun _ h => h.elim)
theorem below_drewH2 (w : World) (q p : Nat) : Below w.heap.size w ((w.drewN q).drewN p) := by rw [World.drewN_drewN]; exact below_drewH1 _ _
def BolsAt (w : World) (o : Option Addr) (l : List Bool) : Prop := 0 < l.length → ∃ g off, o = some ⟨g, off, none⟩ ∧ ∀ (j : Nat) (x : Bool), l[j]? = some x → w.cell? ⟨g, off + j, none⟩ = some (.bool x)
theorem BolsAt.below {w w' : World} {o : Option Addr} {l : List Bool} (h : BolsAt w o l) (hb : Below w.heap.size w w') : BolsAt w' o l := fun hn => by
  obtain ⟨g, off, ho, hc⟩ := h hn
  exact ⟨g, off, ho, fun j x hx => cell_keep hb (hc j x hx)⟩
theorem take_eqH {α : Type} {l l2 : List α} {j : Nat} {x y : α} (h : l.take j = l2.take j) (hx : l[j]? = some x) (hy : l2[j]? = some y) (hxy : x = y) : l.take (j + 1) = l2.take (j + 1) := by
  rw [List.take_add_one, List.take_add_one, hx, hy, h, hxy]
theorem nums_ownH {w : World} {base cap : Nat} {o : Option Addr} {e : TypeId} {l : List Nat} (h : w.ownsRow base e 1 (.slice o l.length cap) l.length (l.map fun s => .int .i64 ((s : Nat) : Int))) : NumsAt w o (natsZ l) := fun hn => by
  obtain ⟨g, ho, hc⟩ := row_placeK h (by simpa using hn)
  refine ⟨g, 0, ho, fun j x hx => ?_⟩
  rw [Nat.zero_add]
  rw [List.getElem?_map] at hx
  obtain ⟨y, hy, rfl⟩ := Option.map_eq_some_iff.1 hx
  exact hc j _ (by rw [List.getElem?_map, hy]; rfl)
theorem bols_ownH {w : World} {base cap : Nat} {o : Option Addr} {e : TypeId} {l : List Bool} (h : w.ownsRow base e 1 (.slice o l.length cap) l.length (l.map fun s => .bool s)) : BolsAt w o l := fun hn => by
  obtain ⟨g, ho, hc⟩ := row_placeK h hn
  refine ⟨g, 0, ho, fun j x hx => ?_⟩
  rw [Nat.zero_add]
  exact hc j _ (by rw [List.getElem?_map, hx]; rfl)
set_option maxRecDepth 100000 in
set_option maxHeartbeats 2000000 in
theorem setsL_any (o o2 : Option Addr) (l l2 : List Int) (cap cap2 : Nat) (hn : l.length ≤ 1000000) (w : World) (hA : NumsAt w o l) (hA2 : NumsAt w o2 l2) :
    Calls Tryd.prog 23 #[.slice o l.length cap, .slice o2 l2.length cap2] w fun e w' => e = .returned (.bool (decide (l = l2))) ∧ Below w.heap.size w w' := by
  obtain ⟨n, hnn⟩ : ∃ n, l.length = n := ⟨_, rfl⟩
  obtain ⟨n2, hnn2⟩ : ∃ n, l2.length = n := ⟨_, rfl⟩
  rw [hnn] at hn ⊢
  rw [hnn2]
  have HN := Lib.hid hnn
  have HN2 := Lib.hid hnn2
  have HA := Lib.hid hA
  have HA2 := Lib.hid hA2
  obtain ⟨P, hP⟩ : ∃ P, (fun (e : Ending) w' => e = .returned (.bool (decide (l = l2))) ∧ Below w.heap.size w w') = P := ⟨_, rfl⟩
  have HP := Lib.hid hP
  rw [hP]
  clear hP hA hA2 hnn hnn2
  go_enter Tryd.func23, Tryd.ntmps23
  by_cases hnl : n = n2
  · subst hnl
    go_wp2_with fail
    go_loopg [5] n (fun k v wr => ∃ (j q : Nat), v = .int .i64 (j : Nat) ∧ j ≤ n ∧ k = n - j ∧ l.take j = l2.take j ∧ wr = w.drewN q)
    case atStart => exact ⟨0, 0, rfl, Nat.zero_le _, rfl, rfl, rfl⟩
    case round =>
      obtain ⟨j, q, rfl, hj, rfl, htk, rfl⟩ := hrel
      rcases Nat.lt_or_ge j n with hlt | hge
      · have hj1 : j < 1000000 := by omega
        obtain ⟨x, hx⟩ : ∃ x, l[j]? = some x := ⟨_, List.getElem?_eq_getElem (by rw [HN.out]; exact hlt)⟩
        obtain ⟨y, hy⟩ : ∃ y, l2[j]? = some y := ⟨_, List.getElem?_eq_getElem (by rw [HN2.out]; exact hlt)⟩
        obtain ⟨g, off, rfl, hc⟩ := HA.out (by rw [HN.out]; omega)
        have k0 := hc j x hx
        obtain ⟨g2, off2, rfl, hc2⟩ := HA2.out (by rw [HN2.out]; omega)
        have m0 := hc2 j y hy
        have hg := World.block_lt_of_cell? w _ k0
        have hg2 := World.block_lt_of_cell? w _ m0
        have HX := Lib.hid hx
        have HY := Lib.hid hy
        have HT := Lib.hid htk
        clear hc hc2 hx hy htk
        by_cases hxy : x = y
        · have HT2 := Lib.hid (take_eqH HT.out HX.out HY.out hxy)
          subst hxy
          go_wp2_with fail
          go_quiet (fail)
          go_wp2
          go_roundg (n - (j + 1))
          case measure => omega
          case rel => exact ⟨j + 1, q + nq, by simp, by omega, rfl, HT2.out, rfl⟩
        · have HPP : Hid (∀ nq, P (.returned (.bool false)) ((w.drewN q).drewN nq)) := by
            rw [← HP.out]
            refine Lib.hid fun nq => ⟨?_, below_drewH2 _ _ _⟩
            rw [decide_eq_false fun he => hxy ?_]
            have h1 := HX.out
            rw [he, HY.out] at h1
            exact (Option.some.inj h1).symm
          have hxy2 : (x == y) = false := by rw [beq_eq_false_iff_ne]; exact hxy
          go_wp2_with fail
          go_quiet (fail)
          go_wp2
          exact HPP.out _
      · obtain rfl : j = n := by omega
        have HPP : Hid (P (.returned (.bool true)) (w.drewN q)) := by
          rw [← HP.out]
          refine Lib.hid ⟨?_, below_drewH1 _ _⟩
          have h := htk
          rw [List.take_of_length_le (by rw [HN.out]; exact Nat.le_refl _), List.take_of_length_le (by rw [HN2.out]; exact Nat.le_refl _)] at h
          rw [decide_eq_true h]
        clear htk
        go_wp2
        exact HPP.out
  · have HPP : Hid (P (.returned (.bool false)) w) := by
      rw [← HP.out]
      refine Lib.hid ⟨?_, Below.refl _ _⟩
      rw [decide_eq_false fun he => hnl ?_]
      rw [← HN.out, ← HN2.out, he]
    go_wp2
    exact HPP.out
set_option maxRecDepth 100000 in
set_option maxHeartbeats 2000000 in
theorem bolsL_any (o o2 : Option Addr) (l l2 : List Bool) (cap cap2 : Nat) (hn : l.length ≤ 1000000) (w : World) (hA : BolsAt w o l) (hA2 : BolsAt w o2 l2) :
    Calls Tryd.prog 24 #[.slice o l.length cap, .slice o2 l2.length cap2] w fun e w' => e = .returned (.bool (decide (l = l2))) ∧ Below w.heap.size w w' := by
  obtain ⟨n, hnn⟩ : ∃ n, l.length = n := ⟨_, rfl⟩
  obtain ⟨n2, hnn2⟩ : ∃ n, l2.length = n := ⟨_, rfl⟩
  rw [hnn] at hn ⊢
  rw [hnn2]
  have HN := Lib.hid hnn
  have HN2 := Lib.hid hnn2
  have HA := Lib.hid hA
  have HA2 := Lib.hid hA2
  obtain ⟨P, hP⟩ : ∃ P, (fun (e : Ending) w' => e = .returned (.bool (decide (l = l2))) ∧ Below w.heap.size w w') = P := ⟨_, rfl⟩
  have HP := Lib.hid hP
  rw [hP]
  clear hP hA hA2 hnn hnn2
  go_enter Tryd.func24, Tryd.ntmps24
  by_cases hnl : n = n2
  · subst hnl
    go_wp2_with fail
    go_loopg [5] n (fun k v wr => ∃ (j q : Nat), v = .int .i64 (j : Nat) ∧ j ≤ n ∧ k = n - j ∧ l.take j = l2.take j ∧ wr = w.drewN q)
    case atStart => exact ⟨0, 0, rfl, Nat.zero_le _, rfl, rfl, rfl⟩
    case round =>
      obtain ⟨j, q, rfl, hj, rfl, htk, rfl⟩ := hrel
      rcases Nat.lt_or_ge j n with hlt | hge
      · have hj1 : j < 1000000 := by omega
        obtain ⟨x, hx⟩ : ∃ x, l[j]? = some x := ⟨_, List.getElem?_eq_getElem (by rw [HN.out]; exact hlt)⟩
        obtain ⟨y, hy⟩ : ∃ y, l2[j]? = some y := ⟨_, List.getElem?_eq_getElem (by rw [HN2.out]; exact hlt)⟩
        obtain ⟨g, off, rfl, hc⟩ := HA.out (by rw [HN.out]; omega)
        have k0 := hc j x hx
        obtain ⟨g2, off2, rfl, hc2⟩ := HA2.out (by rw [HN2.out]; omega)
        have m0 := hc2 j y hy
        have hg := World.block_lt_of_cell? w _ k0
        have hg2 := World.block_lt_of_cell? w _ m0
        have HX := Lib.hid hx
        have HY := Lib.hid hy
        have HT := Lib.hid htk
        clear hc hc2 hx hy htk
        by_cases hxy : x = y
        · have HT2 := Lib.hid (take_eqH HT.out HX.out HY.out hxy)
          subst hxy
          go_wp2_with fail
          go_quiet (fail)
          go_wp2
          go_roundg (n - (j + 1))
          case measure => omega
          case rel => exact ⟨j + 1, q + nq, by simp, by omega, rfl, HT2.out, rfl⟩
        · have HPP : Hid (∀ nq, P (.returned (.bool false)) ((w.drewN q).drewN nq)) := by
            rw [← HP.out]
            refine Lib.hid fun nq => ⟨?_, below_drewH2 _ _ _⟩
            rw [decide_eq_false fun he => hxy ?_]
            have h1 := HX.out
            rw [he, HY.out] at h1
            exact (Option.some.inj h1).symm
          have hxy2 : (x == y) = false := by rw [beq_eq_false_iff_ne]; exact hxy
          go_wp2_with fail
          go_quiet (fail)
          go_wp2
          exact HPP.out _
      · obtain rfl : j = n := by omega
        have HPP : Hid (P (.returned (.bool true)) (w.drewN q)) := by
          rw [← HP.out]
          refine Lib.hid ⟨?_, below_drewH1 _ _⟩
          have h := htk
          rw [List.take_of_length_le (by rw [HN.out]; exact Nat.le_refl _), List.take_of_length_le (by rw [HN2.out]; exact Nat.le_refl _)] at h
          rw [decide_eq_true h]
        clear htk
        go_wp2
        exact HPP.out
  · have HPP : Hid (P (.returned (.bool false)) w) := by
      rw [← HP.out]
      refine Lib.hid ⟨?_, Below.refl _ _⟩
      rw [decide_eq_false fun he => hnl ?_]
      rw [← HN.out, ← HN2.out, he]
    go_wp2
    exact HPP.out
end Go.Proofs.YtjacebnlikhjnaaDoor

namespace Go.Proofs.YtjacebnlikhjnaaDoor
open Go.RowKit Go.Shelf Go.Maps
attribute [local go_sem] Oper.semAt_some

section
variable {P : Program}
theorem results_cellH {fn : Func} {p : Tmp} {ty : TypeId} (h : fn.results = #[.cell p ty]) (tmps : Array Value) (w : World) (g : Nat) (t : TypeId) (cs : Array Value) (fr : Nat × Nat) (d : TypeDesc)
    (hp : tmps.getD p undef = .pointer (some ⟨g, 0, none⟩)) (hg : w.heap[g]? = some (.cells cs t fr))
    (hu : P.underlying ty = some d) (hd : (match d with | .struct _ | .array _ _ => true | _ => false) = true) (hi : (P.info? ty).map (·.size) = some cs.size) :
    (results fn tmps).run P w = .ok (.agg cs) w := by
  have hp' : tmps[p]?.getD undef = .pointer (some ⟨g, 0, none⟩) := by simpa using hp
  simp [results, h, hp', asAddr, run_loadVar_row w g t ty cs fr d hg hu hd hi]
end
theorem two_setH {w : World} {g : Nat} {u v : Value} {t : TypeId} (a b : Value) (h : w.heap[g]? = some (.cells #[u, v] t (0, 0))) :
    ((w.setCell ⟨g, 0, none⟩ a).setCell ⟨g, 1, none⟩ b).heap[g]? = some (.cells #[a, b] t (0, 0)) ∧ Moves (fun k => k = g) w ((w.setCell ⟨g, 0, none⟩ a).setCell ⟨g, 1, none⟩ b) := by
  have h1 : (w.setCell ⟨g, 0, none⟩ a).heap[g]? = some (.cells #[a, v] t (0, 0)) := by rw [heap_setCell_same _ _ _ _ _ _ h]; rfl
  exact ⟨by rw [heap_setCell_same _ _ _ _ _ _ h1]; rfl, (Moves.setCell (S := fun k => k = g) rfl).trans (Moves.setCell (S := fun k => k = g) rfl)⟩
theorem fewH_any (lo : Option Addr) (l : List Int) (cap : Nat) (hn : l.length ≤ cap) (w : World) :
    Calls Tryd.prog 18 #[.slice lo l.length cap] w fun e w' => e = .returned (.slice lo (l.take 40).length cap) ∧ w = w' := by
  have hl : (l.take 40).length = min l.length 40 := by rw [List.length_take]; omega
  rw [hl]
  obtain ⟨n, hnn⟩ : ∃ n, l.length = n := ⟨_, rfl⟩
  rw [hnn] at hn ⊢
  clear hl hnn
  rcases Nat.lt_or_ge n 41 with h | h
  · have h1 : min n 40 = n := by omega
    have h2 : min ((n : Nat) : Int) 40 = ((n : Nat) : Int) := by omega
    rw [h1]
    go_enter Tryd.func18, Tryd.ntmps18
    go_wp2_with fail
    go_ret
    exact ⟨rfl, rfl⟩
  · have h1 : min n 40 = 40 := by omega
    have h2 : min ((n : Nat) : Int) 40 = 40 := by omega
    have h3 : 40 ≤ cap := by omega
    rw [h1]
    go_enter Tryd.func18, Tryd.ntmps18
    go_wp2_with fail
    go_ret
    exact ⟨rfl, rfl⟩
set_option maxRecDepth 100000 in
set_option maxHeartbeats 4000000 in
theorem cutH_any (st : Bool) (o : Option Addr) (xs : List ItemP) (cap : Nat) (hn : xs.length ≤ cap) (w : World) :
    Calls Tryd.prog 9 #[patV st o xs.length cap] w fun e w' => e = .returned (patV st o (xs.take 12).length cap) ∧ Below w.heap.size w w' := by
  have hl : (xs.take 12).length = min xs.length 12 := by rw [List.length_take]; omega
  rw [hl]
  obtain ⟨n, hnn⟩ : ∃ n, xs.length = n := ⟨_, rfl⟩
  rw [hnn] at hn ⊢
  clear hl hnn
  obtain ⟨k, hk⟩ : ∃ k, min n 12 = k := ⟨_, rfl⟩
  have hk2 : min ((n : Nat) : Int) 12 = ((k : Nat) : Int) := by omega
  have hkn : k ≤ n := by omega
  have hkc : k ≤ cap := by omega
  rw [hk]
  obtain ⟨w1, hw1⟩ : ∃ w1, w.alloc (patO st o n cap) = w1 := ⟨_, rfl⟩
  have b1 : Below w.heap.size w w1 := by rw [← hw1]; exact (Below.refl _ _).alloc (Nat.le_refl _) _
  have r1 : w1.heap[w.heap.size]? = some (patO st o n cap) := by rw [← hw1]; exact heap_alloc_new _ _
  have z1 : w1.heap.size = w.heap.size + 1 := by rw [← hw1]; simp
  obtain ⟨w2, hw2⟩ : ∃ w2, w1.alloc (patO false none 0 0) = w2 := ⟨_, rfl⟩
  have b2 : Below w1.heap.size w1 w2 := by rw [← hw2]; exact (Below.refl _ _).alloc (Nat.le_refl _) _
  have r2 : w2.heap[w.heap.size + 1]? = some (patO false none 0 0) := by rw [← hw2, ← z1]; exact heap_alloc_new _ _
  have r1' := row_below r1 b2
  have B2 := b1.trans (b2.mono b1.size)
  obtain ⟨p0, p1⟩ := pat_cellsH r1'
  obtain ⟨t0, t1⟩ := pat_cellsH r2
  have f0 := frozen_of_row w2 (w.heap.size + 1) 0 _ _ r2
  have f1 := frozen_of_row w2 (w.heap.size + 1) 1 _ _ r2
  obtain ⟨r3, m3⟩ := two_setH (.bool st) (.slice o k cap) r2
  obtain ⟨w3, hw3⟩ : ∃ w3, (w2.setCell ⟨w.heap.size + 1, 0, none⟩ (.bool st)).setCell ⟨w.heap.size + 1, 1, none⟩ (.slice o k cap) = w3 := ⟨_, rfl⟩
  rw [hw3] at r3 m3
  have HB := Lib.hid (Moves.below B2 B2.size m3.drew (fun k hk => by omega))
  have HW1 := Lib.hid hw1
  have HW2 := Lib.hid hw2
  have HW3 := Lib.hid hw3
  have HR3 := Lib.hid r3
  clear hw1 b1 r1 z1 hw2 b2 r2 r1' B2 r3 m3 hw3
  go_enter Tryd.func9, Tryd.ntmps9
  go_wp2_with fail
  rw [HW1.out, HW2.out]
  go_region
  all_goals
    go_wp2_with fail
    rw [HW3.out]
    exact bodyPost_ret (v := patV st o k cap) (results_cellH rfl _ _ (w.heap.size + 1) _ _ _ _ rfl (show w3.drew.heap[w.heap.size + 1]? = _ from HR3.out) Tryd.underlying24 rfl (by kernel_rfl)) rfl ⟨rfl, HB.out⟩
end Go.Proofs.YtjacebnlikhjnaaDoor

namespace Go.Proofs.YtjacebnlikhjnaaDoor
open Go.RowKit Go.Shelf Go.Maps
attribute [local go_sem] Oper.semAt_some

abbrev shIts : List ItemP := [(1, 0), (2, 1)]
theorem sh_right : rightB shIts 32 = true := by decide +kernel
theorem sh_run : runsS shIts false [0, 1] = [1, 21, 21] := by decide +kernel
theorem sh_fits : (runsS shIts false [0, 1, 0, 5]).map (fun s => Value.bool (doneS shIts s)) = [false, true, true, true, false].map fun b => Value.bool b := by
  have : (runsS shIts false [0, 1, 0, 5]).map (doneS shIts) = [false, true, true, true, false] := by decide +kernel
  rw [← this, List.map_map]
  rfl
theorem sh_most : mostS shIts = 31 := by decide +kernel
theorem sh_knows : knowsB shIts.length 32 = false := by decide +kernel
theorem sh_cells {w : World} {g : Nat} {t : TypeId} (h : w.heap[g]? = some (.cells #[.int .i64 1, .int .i64 0, .int .i64 2, .int .i64 1] t (0, 0))) : AtI w (some ⟨g, 0, none⟩) shIts := fun _ => ⟨g, 0, rfl, fun j x hx => by
  match j, hx with
  | 0, hx => cases hx; exact ⟨cell_of_row _ _ 0 _ _ _ h, cell_of_row _ _ 1 _ _ _ h⟩
  | 1, hx => cases hx; exact ⟨cell_of_row _ _ 2 _ _ _ h, cell_of_row _ _ 3 _ _ _ h⟩⟩
theorem row_ints {w : World} {g : Nat} {t : TypeId} : ∀ {l : List Int}, w.heap[g]? = some (.cells (l.map fun x => Value.int .i64 x).toArray t (0, 0)) → NumsAt w (some ⟨g, 0, none⟩) l := fun {l} h _ => ⟨g, 0, rfl, fun j x hx => by
  rw [Nat.zero_add, cell_of_row _ _ j _ _ _ h]
  simp [hx]⟩
theorem row_bols {w : World} {g : Nat} {t : TypeId} : ∀ {l : List Bool}, w.heap[g]? = some (.cells (l.map fun x => Value.bool x).toArray t (0, 0)) → BolsAt w (some ⟨g, 0, none⟩) l := fun {l} h _ => ⟨g, 0, rfl, fun j x hx => by
  rw [Nat.zero_add, cell_of_row _ _ j _ _ _ h]
  simp [hx]⟩
set_option maxRecDepth 100000 in
set_option maxHeartbeats 4000000 in
theorem shown_any (w : World) (aP aS : Addr) (hQ : GlobH w aP aS) : Calls Tryd.prog 8 #[] w fun e w' => e = .returned (.bool true) ∧ Below w.heap.size w w' := by
  have HRUN := Lib.hid (fun (o lo : Option Addr) (W : World) (hb : Below w.heap.size w W) (hA : AtI W o shIts) (hL : NumsAt W lo [0, 1]) => Run_right false o lo shIts [0, 1] 2 2 sh_right (by simp) W aP aS (hQ.below hb) hA hL)
  rw [sh_run] at HRUN
  have HFIT := Lib.hid (fun (o lo : Option Addr) (W : World) (hb : Below w.heap.size w W) (hA : AtI W o shIts) (hL : NumsAt W lo [0, 1, 0, 5]) => Fits_right false o lo shIts [0, 1, 0, 5] 2 4 sh_right (by simp) W aP aS (hQ.below hb) hA hL)
  rw [sh_fits] at HFIT
  have HSTP := Lib.hid (fun (o : Option Addr) (W : World) (hb : Below w.heap.size w W) (hA : AtI W o shIts) => Step_not false o shIts 2 sh_right 32 0 sh_knows W aP aS (hQ.below hb) hA)
  have HMST := Lib.hid (fun (o : Option Addr) (W : World) (hA : AtI W o shIts) => Most_right false o shIts 2 sh_right W hA)
  rw [sh_most] at HMST
  obtain ⟨wa, hwa⟩ : ∃ wa, w.alloc (.cells #[.int .i64 1, .int .i64 0, .int .i64 2, .int .i64 1] 48 (0, 0)) = wa := ⟨_, rfl⟩
  have ba : Below w.heap.size w wa := by rw [← hwa]; exact (Below.refl _ _).alloc (Nat.le_refl _) _
  have za : wa.heap.size = w.heap.size + 1 := by rw [← hwa]; simp
  have ia : AtI wa (some ⟨w.heap.size, 0, none⟩) shIts := by rw [← hwa]; exact sh_cells (heap_alloc_new _ _)
  obtain ⟨wb, hwb⟩ : ∃ wb, wa.alloc (patO false (some ⟨w.heap.size, 0, none⟩) 2 2) = wb := ⟨_, rfl⟩
  have bb : Below wa.heap.size wa wb := by rw [← hwb]; exact (Below.refl _ _).alloc (Nat.le_refl _) _
  have zb : wb.heap.size = w.heap.size + 2 := by rw [← hwb]; simp; omega
  have rb : wb.heap[w.heap.size + 1]? = some (patO false (some ⟨w.heap.size, 0, none⟩) 2 2) := by rw [← hwb, ← za]; exact heap_alloc_new _ _
  have B := ba.trans (bb.mono ba.size)
  -- what stands of all worlds behind
  have HK : Hid (∀ W, Below wb.heap.size wb W → Below w.heap.size w W ∧ AtI W (some ⟨w.heap.size, 0, none⟩) shIts ∧ W.heap[w.heap.size + 1]? = some (patO false (some ⟨w.heap.size, 0, none⟩) 2 2)) := Lib.hid fun W b => ⟨B.trans (b.mono (by omega)), (ia.below bb).below b, row_below rb b⟩
  obtain ⟨w1, hw1⟩ : ∃ w1, wb.alloc (.cells #[.int .i64 0, .int .i64 1] 3) = w1 := ⟨_, rfl⟩
  have b1 : Below wb.heap.size wb w1 := by rw [← hw1]; exact (Below.refl _ _).alloc (Nat.le_refl _) _
  have n1 : NumsAt w1 (some ⟨w.heap.size + 1 + 1, 0, none⟩) [0, 1] := by
    rw [← hw1, show w.heap.size + 1 + 1 = wb.heap.size by omega]
    exact row_ints (heap_alloc_new _ _)
  have HW1 : Hid (((w.alloc (.cells #[.int .i64 1, .int .i64 0, .int .i64 2, .int .i64 1] 48)).alloc (patO false (some ⟨w.heap.size, 0, none⟩) 2 2)).alloc (.cells #[.int .i64 0, .int .i64 1] 3) = w1) := Lib.hid (by rw [hwa, hwb, hw1])
  obtain ⟨k1, k2, k3⟩ := HK.out w1 b1
  have HC1 := Lib.hid (HRUN.out _ _ w1 k1 k2 n1)
  have HB1 := Lib.hid b1
  clear hwa ba za ia hwb bb zb rb B hw1 b1 n1 k1 k2 k3 hQ
  go_enter Tryd.func8, Tryd.ntmps8
  go_wp2_with fail
  rw [HW1.out]
  refine HC1.out.mono ?_
  rintro e W3 ⟨o3, c3, rfl, own3, b3⟩
  have B3 := HB1.out.trans (b3.mono HB1.out.size)
  obtain ⟨w4, hw4⟩ : ∃ w4, W3.alloc (.cells #[.int .i64 0, .int .i64 1, .int .i64 0, .int .i64 5] 3) = w4 := ⟨_, rfl⟩
  have b4 : Below W3.heap.size W3 w4 := by rw [← hw4]; exact (Below.refl _ _).alloc (Nat.le_refl _) _
  have B4 := B3.trans (b4.mono B3.size)
  have n4 : NumsAt w4 (some ⟨W3.heap.size, 0, none⟩) [0, 1, 0, 5] := by rw [← hw4]; exact row_ints (heap_alloc_new _ _)
  obtain ⟨k1, k2, k3⟩ := HK.out w4 B4
  obtain ⟨p0, p1⟩ := pat_cellsH (HK.out W3 B3).2.2
  have HC4 := Lib.hid (HFIT.out _ _ w4 k1 k2 n4)
  have HW4 := Lib.hid hw4
  have HB4 := Lib.hid B4
  have HN3 : Hid (NumsAt w4 o3 [1, 21, 21]) := Lib.hid ((nums_ownH (l := [1, 21, 21]) own3).below b4)
  clear hw4 b4 b3 n4 k1 k2 k3 own3 B3 B4
  go_wp2_with fail
  rw [HW4.out]
  refine HC4.out.mono ?_
  rintro e W5 ⟨o5, c5, rfl, own5, b5⟩
  have B5 := HB4.out.trans (b5.mono HB4.out.size)
  obtain ⟨k1, k2, k3⟩ := HK.out W5 B5
  obtain ⟨q0, q1⟩ := pat_cellsH k3
  have HC5 := Lib.hid (HSTP.out _ W5 k1 k2)
  have HB5 := Lib.hid B5
  have HN5 := Lib.hid (HN3.out.below b5)
  have HF5 : Hid (BolsAt W5 o5 [false, true, true, true, false]) := Lib.hid (bols_ownH (l := [false, true, true, true, false]) own5)
  clear b5 k1 k2 k3 own5 B5 p0 p1
  go_wp2_with fail
  refine HC5.out.mono ?_
  rintro e W6 ⟨rfl, b6⟩
  have B6 := HB5.out.trans (b6.mono HB5.out.size)
  obtain ⟨w7, hw7⟩ : ∃ w7, W6.alloc (.cells #[.int .i64 1, .int .i64 21, .int .i64 21] 2) = w7 := ⟨_, rfl⟩
  have b7 : Below W6.heap.size W6 w7 := by rw [← hw7]; exact (Below.refl _ _).alloc (Nat.le_refl _) _
  have n7 : NumsAt w7 (some ⟨W6.heap.size, 0, none⟩) [1, 21, 21] := by rw [← hw7]; exact row_ints (heap_alloc_new _ _)
  have HC7 := Lib.hid (setsL_any o3 (some ⟨W6.heap.size, 0, none⟩) [1, 21, 21] [1, 21, 21] c3 3 (by simp) w7 ((HN5.out.below b6).below b7) n7)
  have HW7 := Lib.hid hw7
  have HB7 := Lib.hid (B6.trans (b7.mono B6.size))
  have HF7 := Lib.hid ((HF5.out.below b6).below b7)
  clear hw7 b7 n7 b6 B6 q0 q1
  go_wp2_with fail
  rw [HW7.out]
  refine HC7.out.mono ?_
  rintro e W8 ⟨rfl, b8⟩
  have B8 := HB7.out.trans (b8.mono HB7.out.size)
  obtain ⟨w9, hw9⟩ : ∃ w9, W8.alloc (.cells #[.bool false, .bool true, .bool true, .bool true, .bool false] 4) = w9 := ⟨_, rfl⟩
  have b9 : Below W8.heap.size W8 w9 := by rw [← hw9]; exact (Below.refl _ _).alloc (Nat.le_refl _) _
  have n9 : BolsAt w9 (some ⟨W8.heap.size, 0, none⟩) [false, true, true, true, false] := by rw [← hw9]; exact row_bols (heap_alloc_new _ _)
  have HC9 := Lib.hid (bolsL_any o5 (some ⟨W8.heap.size, 0, none⟩) [false, true, true, true, false] [false, true, true, true, false] c5 5 (by simp) w9 ((HF7.out.below b8).below b9) n9)
  have HW9 := Lib.hid hw9
  have HB9 := Lib.hid (B8.trans (b9.mono B8.size))
  clear hw9 b9 n9 b8 B8
  go_wp2_with fail
  rw [HW9.out]
  refine HC9.out.mono ?_
  rintro e W10 ⟨rfl, b10⟩
  have B10 := HB9.out.trans (b10.mono HB9.out.size)
  obtain ⟨k1, k2, k3⟩ := HK.out W10 B10
  obtain ⟨q0, q1⟩ := pat_cellsH k3
  have HC10 := Lib.hid (HMST.out _ W10 k2)
  have HB10 := Lib.hid k1
  clear b10 k1 k2 k3 B10
  go_wp2_with fail
  refine HC10.out.mono ?_
  rintro e W11 ⟨rfl, b11⟩
  have HB11 := Lib.hid (HB10.out.trans (b11.mono HB10.out.size))
  clear b11
  go_wp2_with fail
  go_ret
  exact ⟨by simp, HB11.out⟩
end Go.Proofs.YtjacebnlikhjnaaDoor

namespace Go.Proofs.YtjacebnlikhjnaaDoor
open Go.ChangeShapes Go.WideShapes Go.ChangeAt Go.RowKit Go.ChangeMaps Go.Shelf

theorem ownQ : ownKnob Tryd.prog.godebug = none := by kernel_rfl
theorem gPatQ : Tryd.prog.globalNamed "virama/nfa.errPattern" = some 0 := by kernel_rfl
theorem gStaQ : Tryd.prog.globalNamed "virama/nfa.errStates" = some 1 := by kernel_rfl
theorem gFarQ : Tryd.prog.globalNamed "virama/nfa.far" = some 2 := by kernel_rfl
theorem gPatTypeQ : (Tryd.prog.globals[0]?).map (·.type) = some 51 := by kernel_rfl
theorem gStaTypeQ : (Tryd.prog.globals[1]?).map (·.type) = some 51 := by kernel_rfl
theorem gFarTypeQ : (Tryd.prog.globals[2]?).map (·.type) = some 127 := by kernel_rfl
theorem cellsEQ : Tryd.prog.cellsOf 153 = 1 := by kernel_rfl
theorem cellsSQ : Tryd.prog.cellsOf 9 = 1 := by kernel_rfl
theorem starEQ : "*" ++ "errors.errorString" = "*errors.errorString" := by decide
theorem rowEQ (u : TypeId) (h : Tryd.prog.typeName? 3 u = some "*errors.errorString") : u = 128 :=
  typeName_ptr_named (nm := "errors.errorString") (by rw [starEQ]; kernel_rfl) (by kernel_rfl) (by decide) u (by rw [starEQ]; exact h)
abbrev laid2Q : List (String × DataW Unit) := [("virama/nfa.errPattern", Rows.laid_virama_nfa_errPattern), ("virama/nfa.errStates", Rows.laid_virama_nfa_errStates)]
abbrev laidTQ : List (String × DataW Unit) := [("virama/nfa.far", Rows.laid_virama_nfa_far)]
abbrev laidAQ : List (String × DataW Unit) := [("virama/nfa.errPattern", Rows.laid_virama_nfa_errPattern), ("virama/nfa.errStates", Rows.laid_virama_nfa_errStates), ("virama/nfa.far", Rows.laid_virama_nfa_far)]
theorem far_of_laidQ {W : World} (h : laidMetH Tryd.prog laidAQ W) : ∀ j x, j < 3 → [(2 : Int), 0, 1][j]? = some x → W.cell? ⟨2, j, none⟩ = some (.int .i64 x) := by
  intro j x hj hx
  have h1 := laidMetH.filter (fun x => x.1 == "virama/nfa.far") h
  have h2 : laidMetH Tryd.prog laidTQ W := h1
  rw [MakeChecks.laidMetH_plain _ _ _ (by kernel_rfl)] at h2
  obtain ⟨ps, ⟨g, t, cs, fuel, p, q, hg, ht, hv, hd, _, _⟩, _, _⟩ := h2
  obtain rfl := Option.some.inj (gFarQ.symm.trans hg)
  obtain rfl := Option.some.inj (gFarTypeQ.symm.trans ht)
  obtain ⟨xs, m, _, ex, _, hl, hel⟩ := DataW.trod_array Tryd.underlying127 hd
  have c5 : Tryd.prog.cellsOf 3 = 1 := by kernel_rfl
  have hlt : j < xs.length := by clear ex hd hel; omega
  have hE := hel j hj
  rw [c5, Nat.mul_one, List.getElem?_eq_getElem hlt] at hE
  obtain ⟨z, e1, e2, _⟩ := DataW.trod_int Tryd.underlying3 hE
  have e3 : .agg (xs.map (·.1)) = Rows.laid_virama_nfa_far (H := Unit) := (Prod.mk.inj ex).1.symm
  have e4 : (xs.map (·.1))[j]? = some (.lit (.int .i64 x)) := by
    have := DataW.agg.inj e3
    rw [this]
    match j, hj, hx with
    | 0, _, hx => cases hx; rfl
    | 1, _, hx => cases hx; rfl
    | 2, _, hx => cases hx; rfl
  rw [List.getElem?_map, List.getElem?_eq_getElem hlt, Option.map_some, e2] at e4
  have hz : z = x := by simpa using e4
  rw [World.var?_cell gFarQ hv j]
  have h0 : ((cs.toList.drop j).take 1)[0]? = some (.int .i64 z) := by rw [e1]; rfl
  rw [hz] at h0
  simpa using h0
theorem glob_ofQ {W : World} (h : laidMetH Tryd.prog laidAQ W) : ∃ aP aS, GlobH W aP aS := by
  have h1 := laidMetH.filter (fun x => x.1 == "virama/nfa.errPattern" || x.1 == "virama/nfa.errStates") h
  have h2 : laidMetH Tryd.prog laid2Q W := h1
  have h' : laidMet Tryd.prog laid2Q W := by rw [MakeChecks.laidMetH_plain _ _ _ (by kernel_rfl)] at h2; exact h2
  obtain ⟨a0, a1, s0, s1, c0, c1, t0, t1, hv0, hv1, hc0, hs0, hz0, hc1, hs1, hz1, hne, hb0, hb1⟩ :=
    laid_sentinels2 h' gPatQ gPatTypeQ gStaQ gStaTypeQ Tryd.underlying51 rowEQ Tryd.underlying128 Tryd.underlying153 rfl rfl Tryd.underlying9 cellsEQ cellsSQ
  have hP : W.cell? ⟨0, 0, none⟩ = some (errVQ a0) := by simpa using World.var?_cell gPatQ hv0 0
  have hS : W.cell? ⟨1, 0, none⟩ = some (errVQ a1) := by simpa using World.var?_cell gStaQ hv1 0
  have lt : ∀ {g j : Nat} {v : Value}, W.cell? ⟨g, j, none⟩ = some v → g < W.heap.size := by
    intro g j v hc
    exact World.block_lt_of_cell? W _ hc
  have f0 := far_of_laidQ h 0 2 (by decide) rfl
  have f1 := far_of_laidQ h 1 0 (by decide) rfl
  have f2 := far_of_laidQ h 2 1 (by decide) rfl
  exact ⟨a0, a1, hP, hS, hne, ⟨c0, t0, hb0⟩, ⟨c1, t1, hb1⟩, lt hP, lt hS, lt f0, f0, f1, f2⟩

/-- A WORLD FOR THE WITNESS. -/
noncomputable def lowQ : Nat := (World.holding Tryd.prog default ⟨#[], #[], []⟩).heap.size
abbrev patSQ : ByteArray := ⟨#[110, 102, 97, 58, 32, 97, 32, 112, 97, 116, 116, 101, 114, 110, 32, 116, 104, 97, 116, 32, 105, 115, 32, 110, 111, 116, 32, 114, 105, 103, 104, 116]⟩
abbrev staSQ : ByteArray := ⟨#[110, 102, 97, 58, 32, 115, 116, 97, 116, 101, 115, 32, 116, 104, 97, 116, 32, 116, 104, 101, 32, 112, 97, 116, 116, 101, 114, 110, 32, 104, 97, 115, 32, 110, 111, 116]⟩
noncomputable def baseWorldQ (os : Os) : World :=
  let w0 := World.holding Tryd.prog os ⟨#[.cells #[.string patSQ] 153, .cells #[.string staSQ] 153], #[], []⟩
  { w0 with heap := (w0.heap.modify 0 fun
      | .cells _ t frozen => .cells #[errVQ ⟨lowQ, 0, none⟩] t frozen
      | o => o).modify 1 fun
      | .cells _ t frozen => .cells #[errVQ ⟨lowQ + 1, 0, none⟩] t frozen
      | o => o }
noncomputable def laidWorldQ (os : Os) : World := (baseWorldQ os).layVars Tryd.prog laidTQ
theorem laidWorld_osQ (os : Os) : (laidWorldQ os).os = os := World.layVars_os _ _ _
set_option maxRecDepth 100000 in
theorem laid_met_wQ (os : Os) (args : Array Value) : laidMet Tryd.prog laidAQ ((laidWorldQ os).forCall (fun _ _ => 0) ⟨#[], args, []⟩).memory :=
  laidMet_of_run' 8 (by kernel_rfl) (by kernel_rfl)
theorem laid_metQ (os : Os) (args : Array Value) : laidMetH Tryd.prog laidAQ ((laidWorldQ os).forCall (fun _ _ => 0) ⟨#[], args, []⟩).memory := by
  rw [MakeChecks.laidMetH_plain _ _ _ (by kernel_rfl)]
  exact laid_met_wQ os args

/-- WHAT EACH ROW ASKS OF A CALL THAT ANSWERS true AND LEAVES WHAT LAY BEFORE IT AS IT LAY. -/
theorem true_postQ {H : Type} {enc : TypeId × Value → H} {f : Func} {s : ChangeSpec} {W W' : World} {args : Array Value} {ds gs : List (DataW H)} {before : List MemPlace}
    (hW : DataW.Whole enc Tryd.prog f.params.toList s.vars false W args.toList ds gs before) (hr : f.resultTypes = #[4]) (hfn : s.fn H (ds ++ gs) = { results := [.lit (.bool true)], args := ds }) (hv : s.vars = [])
    (hargs : DataW.TrodAll enc Tryd.prog W' 0 (fun b => decide (b < W.heap.size)) true f.params.toList args.toList ds before) (hb : Below W.heap.size W W') :
    s.post enc Tryd.prog f false true false false W args (.bool true) W' := by
  refine ⟨ds, gs, before, [], before, [], hW, ?_, ?_, ?_, ?_, fun h => by cases h⟩
  · rw [hr, hfn]
    exact trodAll_cons_mk (shut_bool Tryd.underlying4 _) trodAll_mk0
  · rw [hfn]
    exact hargs
  · rw [hv, hfn]
    rfl
  · exact World.keptBut_mono (fun p hp => ⟨hp, .inr (.inl hp)⟩) (hb.frame (· ∈ before))

/-- Numbers of 64 bits. -/
abbrev In64K (n : Int) : Prop := -9223372036854775808 ≤ n ∧ n ≤ 9223372036854775807
/-- Numbers that came in, wherever they lie. -/
def NumsInQ (w : World) (o : Option Addr) (l : List Int) : Prop := NumsAt w o l ∧ ∀ c ∈ l, In64K c
theorem in64_wfQ {n : Int} (h : (Lit.int .i64 n).wf = true) : In64K n := by
  simp [Lit.wf, IntKind.min, IntKind.max, IntKind.signed, IntKind.bits] at h
  exact h
theorem list_ofQ {α : Type} {Q : Nat → α → Prop} : ∀ n : Nat, (∀ i, i < n → ∃ x, Q i x) → ∃ l : List α, l.length = n ∧ ∀ i x, l[i]? = some x → Q i x
  | 0, _ => ⟨[], rfl, fun i x h => by simp at h⟩
  | n + 1, h => by
    obtain ⟨l, hl, hq⟩ := list_ofQ n fun i hi => h i (by omega)
    obtain ⟨y, hy⟩ := h n (by omega)
    refine ⟨l ++ [y], by simp [hl], fun i x hx => ?_⟩
    rcases Nat.lt_or_ge i l.length with hi | hi
    · rw [List.getElem?_append_left hi] at hx
      exact hq i x hx
    · rw [List.getElem?_append_right hi] at hx
      have hi2 : i - l.length = 0 := by
        have := (List.getElem?_eq_some_iff.1 hx).1
        simp at this
        omega
      rw [hi2] at hx
      cases hx
      rw [show i = n from by omega]
      exact hy
theorem add_atQ2 (g off k : Nat) : (⟨g, off, none⟩ : Addr).add k = ⟨g, off + k, none⟩ := by unfold Addr.add; split <;> simp_all
theorem cellsIntQ : Tryd.prog.cellsOf 3 = 1 := by kernel_rfl
theorem cellsI64Q : Tryd.prog.cellsOf 2 = 1 := by kernel_rfl
theorem cellsStrQ : Tryd.prog.cellsOf 9 = 1 := by kernel_rfl
theorem cellsBoolQ : Tryd.prog.cellsOf 4 = 1 := by kernel_rfl
theorem cellsItQ : Tryd.prog.cellsOf 48 = 2 := by kernel_rfl
theorem cellsItsQ : Tryd.prog.cellsOf 22 = 1 := by kernel_rfl
theorem cellsPatQ : Tryd.prog.cellsOf 24 = 2 := by kernel_rfl
section
variable {H : Type} {enc : TypeId × Value → H} {W : World}
theorem open_intsQ {fuel : Nat} {v : Value} {x : DataW H × List MemPlace} (h : DataW.trod enc Tryd.prog W 0 (fun _ => true) true fuel 34 [v] = some x) :
    ∃ (o : Option Addr) (l : List Int) (cap : Nat), v = .slice o l.length cap ∧ (NumsInQ W o l ∧ (o = none → cap = 0) ∧ ∀ p, o = some p → 0 < cap → p.spot = none) ∧ l.length ≤ cap := by
  rcases DataW.trod_slice Tryd.underlying34 h with ⟨hv, _⟩ | ⟨a, len, cap, elems, rest, n, _, hv, _, _, hle, hcap, hlen, hc, hr, _⟩
  · obtain rfl : v = .slice none 0 0 := by simpa using hv
    exact ⟨none, [], 0, rfl, ⟨⟨fun h => absurd h (Nat.not_lt_zero _), fun c h => by cases h⟩, fun _ => rfl, fun p h => by cases h⟩, Nat.le_refl _⟩
  · obtain rfl : v = .slice (some a) len cap := by simpa using hv
    have hall : ∀ i, i < len → ∃ X : Int, W.cell? ((a.add (i * 1)).add 0) = some (.int .i64 X) ∧ In64K X := fun i hi => by
      have he := hc i hi
      rw [cellsIntQ, List.getElem?_eq_getElem (by omega)] at he
      obtain ⟨cs, hcs, ht⟩ := Option.bind_eq_some_iff.1 he
      obtain ⟨_, hl, hg⟩ := World.cells?_some hcs
      obtain ⟨b, c1, _, cw⟩ := DataW.trod_int Tryd.underlying3 ht
      exact ⟨b, by rw [hg 0 (by omega), c1]; rfl, in64_wfQ cw⟩
    have hsp : 0 < cap → a.spot = none := fun h0 => by
      rcases Nat.eq_zero_or_pos len with hz | hz
      · obtain ⟨hrl, hrc⟩ := hr rfl
        have h0l : 0 < rest.length := by rw [hrl, hz]; exact h0
        have he := hrc 0 (by rw [hz]; exact h0)
        rw [cellsIntQ, hz, List.getElem?_eq_getElem h0l] at he
        obtain ⟨cs, hcs, ht⟩ := Option.bind_eq_some_iff.1 he
        obtain ⟨_, hl, hg⟩ := World.cells?_some hcs
        have h1 := hg 0 (by omega)
        rw [List.getElem?_eq_getElem (by rw [hl]; exact Nat.one_pos)] at h1
        simpa [Addr.add] using World.cell?_spot h1
      · obtain ⟨X, h1, _⟩ := hall 0 hz
        simpa [Addr.add] using World.cell?_spot h1
    obtain ⟨rs, hrl, hrs⟩ := list_ofQ len hall
    subst hrl
    refine ⟨some a, rs, cap, rfl, ⟨⟨fun hn => ?_, fun c hc => by obtain ⟨i, hi⟩ := List.getElem?_of_mem hc; exact (hrs i c hi).2⟩, (fun h => by cases h), (fun p h h0 => by cases h; exact hsp h0)⟩, by omega⟩
    have h0 := (hrs 0 _ (List.getElem?_eq_getElem hn)).1
    obtain ⟨g, off, spot⟩ := a
    have hspot : spot = none := by simpa [Addr.add] using World.cell?_spot h0
    subst hspot
    refine ⟨g, off, rfl, fun j x hx => ?_⟩
    have c0 := (hrs j x hx).1
    rwa [add_atQ2, add_atQ2, Nat.mul_one, Nat.add_zero] at c0
theorem list1Q {α : Type} {cs : List α} (h : cs.length = 1) : ∃ c0, cs = [c0] := by
  match cs, h with
  | [c0], _ => exact ⟨c0, rfl⟩
theorem list2Q {α : Type} {cs : List α} (h : cs.length = 2) : ∃ c0 c1, cs = [c0, c1] := by
  match cs, h with
  | [c0, c1], _ => exact ⟨c0, c1, rfl⟩
theorem open_itQ {fuel : Nat} {cs : List Value} {x : DataW H × List MemPlace} (h : DataW.trod enc Tryd.prog W 0 (fun _ => true) true fuel 48 cs = some x) : ∃ X : ItemP, cs = [.int .i64 X.1, .int .i64 X.2] ∧ In64K X.1 ∧ In64K X.2 := by
  obtain ⟨y0, y1, n, _, hl, h0, h1⟩ := trod_struct2 Tryd.underlying48 h
  rw [cellsItQ] at hl
  obtain ⟨k0, k1, rfl⟩ := list2Q hl
  change DataW.trod enc Tryd.prog W 0 (fun _ => true) true n 2 (List.take (Tryd.prog.cellsOf 2) (List.drop 0 [k0, k1])) = _ at h0
  change DataW.trod enc Tryd.prog W 0 (fun _ => true) true n 3 (List.take (Tryd.prog.cellsOf 3) (List.drop 1 [k0, k1])) = _ at h1
  rw [cellsI64Q] at h0
  rw [cellsIntQ] at h1
  obtain ⟨a, e0, _, w0⟩ := DataW.trod_int Tryd.underlying2 h0
  obtain ⟨b, e1, _, w1⟩ := DataW.trod_int Tryd.underlying3 h1
  obtain rfl : k0 = .int .i64 a := by simpa using e0
  obtain rfl : k1 = .int .i64 b := by simpa using e1
  exact ⟨(a, b), rfl, in64_wfQ w0, in64_wfQ w1⟩
/-- Items that came in. -/
def ItsInQ (w : World) (o : Option Addr) (l : List ItemP) : Prop := AtI w o l ∧ ∀ x ∈ l, In64K x.1 ∧ In64K x.2
theorem open_itsQ {fuel : Nat} {v : Value} {x : DataW H × List MemPlace} (h : DataW.trod enc Tryd.prog W 0 (fun _ => true) true fuel 22 [v] = some x) :
    ∃ (o : Option Addr) (l : List ItemP) (cap : Nat), v = .slice o l.length cap ∧ ItsInQ W o l ∧ l.length ≤ cap := by
  rcases DataW.trod_slice Tryd.underlying22 h with ⟨hv, _⟩ | ⟨a, len, cap, elems, rest, n, _, hv, _, _, hle, hcap, hlen, hc, _, _⟩
  · obtain rfl : v = .slice none 0 0 := by simpa using hv
    exact ⟨none, [], 0, rfl, ⟨fun h => absurd h (Nat.not_lt_zero _), fun c h => by cases h⟩, Nat.le_refl _⟩
  · obtain rfl : v = .slice (some a) len cap := by simpa using hv
    have hall : ∀ i, i < len → ∃ X : ItemP, W.cell? ((a.add (i * 2)).add 0) = some (.int .i64 X.1) ∧ W.cell? ((a.add (i * 2)).add 1) = some (.int .i64 X.2) ∧ In64K X.1 ∧ In64K X.2 := fun i hi => by
      have he := hc i hi
      rw [cellsItQ, List.getElem?_eq_getElem (by omega)] at he
      obtain ⟨cs, hcs, ht⟩ := Option.bind_eq_some_iff.1 he
      obtain ⟨_, hl, hg⟩ := World.cells?_some hcs
      obtain ⟨X, rfl, h1, h2⟩ := open_itQ ht
      exact ⟨X, by rw [hg 0 (by omega)]; rfl, by rw [hg 1 (by omega)]; rfl, h1, h2⟩
    obtain ⟨rs, hrl, hrs⟩ := list_ofQ len hall
    subst hrl
    refine ⟨some a, rs, cap, rfl, ⟨fun hn => ?_, fun c hc => by obtain ⟨i, hi⟩ := List.getElem?_of_mem hc; exact ⟨(hrs i c hi).2.2.1, (hrs i c hi).2.2.2⟩⟩, by omega⟩
    have h0 := (hrs 0 _ (List.getElem?_eq_getElem hn)).1
    obtain ⟨g, off, spot⟩ := a
    have hspot : spot = none := by simpa [Addr.add] using World.cell?_spot h0
    subst hspot
    refine ⟨g, off, rfl, fun j x hx => ?_⟩
    obtain ⟨c0, c1, _⟩ := hrs j x hx
    rw [add_atQ2, add_atQ2] at c0 c1
    exact ⟨c0, c1⟩
theorem open_pat {fuel : Nat} {cs : List Value} {x : DataW H × List MemPlace} (h : DataW.trod enc Tryd.prog W 0 (fun _ => true) true fuel 24 cs = some x) :
    ∃ (st : Bool) (o : Option Addr) (xs : List ItemP) (cap : Nat), cs = [.bool st, .slice o xs.length cap] ∧ ItsInQ W o xs ∧ xs.length ≤ cap := by
  obtain ⟨y0, y1, n, _, hl, h0, h1⟩ := trod_struct2 Tryd.underlying24 h
  rw [cellsPatQ] at hl
  obtain ⟨k0, k1, rfl⟩ := list2Q hl
  change DataW.trod enc Tryd.prog W 0 (fun _ => true) true n 4 (List.take (Tryd.prog.cellsOf 4) (List.drop 0 [k0, k1])) = _ at h0
  change DataW.trod enc Tryd.prog W 0 (fun _ => true) true n 22 (List.take (Tryd.prog.cellsOf 22) (List.drop 1 [k0, k1])) = _ at h1
  rw [cellsBoolQ] at h0
  rw [cellsItsQ] at h1
  obtain ⟨st, e0, _⟩ := DataW.trod_bool Tryd.underlying4 h0
  obtain rfl : k0 = .bool st := by simpa using e0
  obtain ⟨o, xs, cap, rfl, hI, hc⟩ := open_itsQ (v := k1) h1
  exact ⟨st, o, xs, cap, rfl, hI, hc⟩
end
end Go.Proofs.YtjacebnlikhjnaaDoor

namespace Go.Proofs.YtjacebnlikhjnaaDoor

/-- Steps of two sets together are both's steps together. -/
theorem raw_union {xs : List ItemP} (hw : howP xs) (start : Bool) (c : Int) (a b : Nat) : rawH xs start c (a ||| b) = rawH xs start c a ||| rawH xs start c b := by
  refine bits_ext (fun i => ?_) fun i => ?_
  · rw [Nat.testBit_or, Bool.eq_iff_iff, Bool.or_eq_true, raw_even hw, raw_even hw, raw_even hw]
    simp only [Nat.testBit_or, Bool.or_eq_true]
    constructor
    · rintro (h | ⟨x, hx, hc, (⟨h, (g | g)⟩ | (g | g))⟩ | ⟨j, x, h1, hx, hc, h0, (g | g)⟩)
      · exact .inl (.inl h)
      · exact .inl (.inr (.inl ⟨x, hx, hc, .inl ⟨h, g⟩⟩))
      · exact .inr (.inr (.inl ⟨x, hx, hc, .inl ⟨h, g⟩⟩))
      · exact .inl (.inr (.inl ⟨x, hx, hc, .inr g⟩))
      · exact .inr (.inr (.inl ⟨x, hx, hc, .inr g⟩))
      · exact .inl (.inr (.inr ⟨j, x, h1, hx, hc, h0, g⟩))
      · exact .inr (.inr (.inr ⟨j, x, h1, hx, hc, h0, g⟩))
    · rintro ((h | ⟨x, hx, hc, (⟨h, g⟩ | g)⟩ | ⟨j, x, h1, hx, hc, h0, g⟩) | (h | ⟨x, hx, hc, (⟨h, g⟩ | g)⟩ | ⟨j, x, h1, hx, hc, h0, g⟩))
      · exact .inl h
      · exact .inr (.inl ⟨x, hx, hc, .inl ⟨h, .inl g⟩⟩)
      · exact .inr (.inl ⟨x, hx, hc, .inr (.inl g)⟩)
      · exact .inr (.inr ⟨j, x, h1, hx, hc, h0, .inl g⟩)
      · exact .inl h
      · exact .inr (.inl ⟨x, hx, hc, .inl ⟨h, .inr g⟩⟩)
      · exact .inr (.inl ⟨x, hx, hc, .inr (.inr g)⟩)
      · exact .inr (.inr ⟨j, x, h1, hx, hc, h0, .inr g⟩)
  · rw [Nat.testBit_or, Bool.eq_iff_iff, Bool.or_eq_true, raw_odd hw, raw_odd hw, raw_odd hw]
    simp only [Nat.testBit_or, Bool.or_eq_true]
    constructor
    · rintro ⟨x, hx, hc, h, (g | g)⟩
      · exact .inl ⟨x, hx, hc, h, g⟩
      · exact .inr ⟨x, hx, hc, h, g⟩
    · rintro (⟨x, hx, hc, h, g⟩ | ⟨x, hx, hc, h, g⟩)
      · exact ⟨x, hx, hc, h, .inl g⟩
      · exact ⟨x, hx, hc, h, .inr g⟩
theorem closed_union (xs : List ItemP) (a b : Nat) : closedH xs (a ||| b) = closedH xs a ||| closedH xs b := by
  refine bits_ext (fun i => ?_) fun i => ?_
  · rw [Nat.testBit_or, closed_even, closed_even, closed_even, Bool.eq_iff_iff, Bool.or_eq_true, over_iff, over_iff, over_iff]
    simp only [Nat.testBit_or, Bool.or_eq_true]
    constructor
    · rintro ⟨j, (h | h), hp⟩
      · exact .inl ⟨j, h, hp⟩
      · exact .inr ⟨j, h, hp⟩
    · rintro (⟨j, h, hp⟩ | ⟨j, h, hp⟩)
      · exact ⟨j, .inl h, hp⟩
      · exact ⟨j, .inr h, hp⟩
  · rw [Nat.testBit_or, closed_odd, closed_odd, closed_odd, Nat.testBit_or]
theorem step_union {xs : List ItemP} (hw : howP xs) (start : Bool) (c : Int) (a b : Nat) : stepS xs start c (a ||| b) = stepS xs start c a ||| stepS xs start c b := by
  unfold stepS
  rw [raw_union hw, closed_union]
theorem done_union (xs : List ItemP) (a b : Nat) : doneS xs (a ||| b) = (doneS xs a || doneS xs b) := by unfold doneS; rw [Nat.testBit_or]
/-- One set within another one. -/
def inS (a b : Nat) : Prop := ∀ i, a.testBit i = true → b.testBit i = true
theorem raw_within {xs : List ItemP} (hw : howP xs) (start : Bool) (c : Int) {a b : Nat} (h : inS a b) : inS (rawH xs start c a) (rawH xs false c b) := fun m hm => by
  rcases Nat.mod_two_eq_zero_or_one m with g | g
  · rw [show m = 2 * (m / 2) by omega, raw_even hw] at hm ⊢
    rcases hm with ⟨h1, h2⟩ | ⟨x, hx, hc, (⟨h1, h2⟩ | h2)⟩ | ⟨j, x, h1, hx, hc, h0, h2⟩
    · exact .inl ⟨rfl, h2⟩
    · exact .inr (.inl ⟨x, hx, hc, .inl ⟨h1, h _ h2⟩⟩)
    · exact .inr (.inl ⟨x, hx, hc, .inr (h _ h2)⟩)
    · exact .inr (.inr ⟨j, x, h1, hx, hc, h0, h _ h2⟩)
  · rw [show m = 2 * (m / 2) + 1 by omega, raw_odd hw] at hm ⊢
    obtain ⟨x, hx, hc, h1, h2⟩ := hm
    exact ⟨x, hx, hc, h1, h _ h2⟩
theorem closed_within (xs : List ItemP) {a b : Nat} (h : inS a b) : inS (closedH xs a) (closedH xs b) := fun m hm => by
  rcases Nat.mod_two_eq_zero_or_one m with g | g
  · rw [show m = 2 * (m / 2) by omega, closed_even, over_iff] at hm ⊢
    obtain ⟨j, hj, hp⟩ := hm
    exact ⟨j, h _ hj, hp⟩
  · rw [show m = 2 * (m / 2) + 1 by omega, closed_odd] at hm ⊢
    exact h _ hm
theorem step_within {xs : List ItemP} (hw : howP xs) (start : Bool) (c : Int) {a b : Nat} (h : inS a b) : inS (stepS xs start c a) (stepS xs false c b) := closed_within xs (raw_within hw start c h)
theorem run_within_rev {xs : List ItemP} (hw : howP xs) (start : Bool) : ∀ r : List Int, inS (runS xs start r.reverse) (runS xs false r.reverse)
  | [] => fun _ h => h
  | c :: r => by
    rw [List.reverse_cons, runS_snoc, runS_snoc]
    exact step_within hw start c (run_within_rev hw start r)
theorem run_within {xs : List ItemP} (hw : howP xs) (start : Bool) (l : List Int) : inS (runS xs start l) (runS xs false l) := by
  have := run_within_rev hw start l.reverse
  rwa [List.reverse_reverse] at this
/-- State 0. -/
theorem first_zero (xs : List ItemP) : (firstS xs).testBit 0 = true := by
  have := closed_even xs 1 0
  exact this
theorem step_zero {xs : List ItemP} (hw : howP xs) (c : Int) (s : Nat) : (stepS xs false c s).testBit 0 = true := by
  have h := closed_even xs (rawH xs false c s) 0
  have h2 := (raw_even hw (start := false) (c := c) (s := s) (i := 0)).2 (.inl ⟨rfl, rfl⟩)
  unfold stepS
  rw [show (0 : Nat) = 2 * 0 from rfl, h]
  exact h2
theorem run_zero {xs : List ItemP} (hw : howP xs) {start : Bool} {l : List Int} (h : start = false ∨ l = []) : (runS xs start l).testBit 0 = true := by
  rcases List.eq_nil_or_concat l with rfl | ⟨r, c, rfl⟩
  · exact first_zero xs
  · rcases h with rfl | h
    · rw [List.concat_eq_append, runS_snoc]
      exact step_zero hw c _
    · simp at h
/-- What the states behind some numbers are. -/
def startH (start : Bool) (a : Nat) : Prop := start = true → a = 0
def evenH (xs : List ItemP) (start : Bool) (l : List Int) (t s : Nat) : Prop := ∀ i, i ≤ xs.length → (s.testBit (2 * i) = true ↔ ∃ a, a ≤ t ∧ startH start a ∧ nextP xs i (segP l a t))
def oddH (xs : List ItemP) (start : Bool) (l : List Int) (t s : Nat) : Prop := ∀ i, i < xs.length → (s.testBit (2 * i + 1) = true ↔ ∃ a, a ≤ t ∧ startH start a ∧ halfP xs i (segP l a t))
theorem first_even {xs : List ItemP} (hw : howP xs) (start : Bool) (l : List Int) : evenH xs start l 0 (firstS xs) := fun i hi => by
  have hb := begin_next hw i hi
  unfold firstS
  rw [closed_even, show (fun i => (1 : Nat).testBit (2 * i)) = (fun i : Nat => decide (i = 0)) from funext fun i => by
    rw [show (1 : Nat) = 2 ^ 0 from rfl, Nat.testBit_two_pow]
    exact decide_eq_decide.2 ⟨fun h => by omega, fun h => by omega⟩, hb]
  constructor
  · intro h; exact ⟨0, Nat.le_refl _, fun _ => rfl, by rwa [segP_self]⟩
  · rintro ⟨a, ha, _, h⟩
    obtain rfl : a = 0 := by omega
    rwa [segP_self] at h
theorem first_odd {xs : List ItemP} (start : Bool) (l : List Int) : oddH xs start l 0 (firstS xs) := fun i hi => by
  unfold firstS
  rw [closed_odd, show (1 : Nat) = 2 ^ 0 from rfl, Nat.testBit_two_pow]
  constructor
  · intro h
    have := of_decide_eq_true h
    omega
  · rintro ⟨a, ha, _, h⟩
    obtain rfl : a = 0 := by omega
    rw [segP_self] at h
    exact absurd h halfP_nil
theorem step_even {xs : List ItemP} (hw : howP xs) {start : Bool} {l : List Int} {t s : Nat} {c : Int} (hc : l[t]? = some c) (hN : evenH xs start l t s) (hH : oddH xs start l t s) : evenH xs start l (t + 1) (stepS xs start c s) := by
  have seg : ∀ a, a ≤ t → segP l a (t + 1) = segP l a t ++ [c] := fun a ha => segP_snoc ha hc
  have own : ∀ i, i ≤ xs.length → ((∃ x, xs[i]? = some x ∧ hasZ x.1 c = true ∧ ((x.2 = 1 ∧ s.testBit (2 * i) = true) ∨ s.testBit (2 * i + 1) = true)) ↔ ∃ a, a ≤ t ∧ startH start a ∧ ∃ x, xs[i]? = some x ∧ hasZ x.1 c = true ∧ ((x.2 = 1 ∧ nextP xs i (segP l a t)) ∨ (x.2 = 2 ∧ halfP xs i (segP l a t)))) := by
    intro i hi
    constructor
    · rintro ⟨x, hx, hcx, h⟩
      have hlt := (List.getElem?_eq_some_iff.1 hx).1
      rcases h with ⟨h1, h2⟩ | h2
      · obtain ⟨a, ha, hs, h3⟩ := (hN i hi).1 h2
        exact ⟨a, ha, hs, x, hx, hcx, .inl ⟨h1, h3⟩⟩
      · obtain ⟨a, ha, hs, h3⟩ := (hH i hlt).1 h2
        obtain ⟨_, _, y, _, hy, hy2, _, _⟩ := id h3
        rw [hx] at hy
        cases hy
        exact ⟨a, ha, hs, x, hx, hcx, .inr ⟨hy2, h3⟩⟩
    · rintro ⟨a, ha, hs, x, hx, hcx, h⟩
      have hlt := (List.getElem?_eq_some_iff.1 hx).1
      rcases h with ⟨h1, h2⟩ | ⟨h1, h2⟩
      · exact ⟨x, hx, hcx, .inl ⟨h1, (hN i hi).2 ⟨a, ha, hs, h2⟩⟩⟩
      · exact ⟨x, hx, hcx, .inr ((hH i hlt).2 ⟨a, ha, hs, h2⟩)⟩
  intro i
  induction i with
  | zero =>
    intro hi
    unfold stepS
    rw [closed_even]
    show (rawH xs start c s).testBit (2 * 0) = true ↔ _
    rw [raw_even hw, own 0 hi]
    constructor
    · rintro (⟨h1, _⟩ | ⟨a, ha, hs, h⟩ | ⟨j, x, h1, _⟩)
      · exact ⟨t + 1, Nat.le_refl _, (fun h => by rw [h1] at h; cases h), by rw [segP_self]; exact nextP_of_fits rfl⟩
      · exact ⟨a, by omega, hs, by rw [seg a ha, nextP_snoc]; exact .inr h⟩
      · omega
    · rintro ⟨a, ha, hs, h⟩
      rcases Nat.lt_or_ge t a with g | g
      · obtain rfl : a = t + 1 := by omega
        left
        refine ⟨?_, rfl⟩
        cases start with
        | false => rfl
        | true => have := hs rfl; omega
      · rw [seg a g, nextP_snoc] at h
        rcases h with h | h
        · have : segP l a t ++ [c] = [] := h
          simp at this
        · exact .inr (.inl ⟨a, g, hs, h⟩)
  | succ i ih =>
    intro hi
    have hlt : i < xs.length := by omega
    obtain ⟨x, hx⟩ : ∃ x, xs[i]? = some x := ⟨_, List.getElem?_eq_getElem hlt⟩
    have hwx := hw x (List.mem_of_getElem? hx)
    have ihi := ih (by omega)
    unfold stepS at ihi ⊢
    rw [closed_even] at ihi ⊢
    show ((rawH xs start c s).testBit (2 * (i + 1)) || (match xs[i]? with | some x => overN xs (fun i => (rawH xs start c s).testBit (2 * i)) i && decide (x.2 ≠ 0) | none => false)) = true ↔ _
    rw [hx]
    simp only [Bool.or_eq_true, Bool.and_eq_true, decide_eq_true_eq, ihi]
    rw [raw_even hw, own (i + 1) hi]
    constructor
    · rintro ((⟨_, h⟩ | ⟨a, ha, hs, h⟩ | ⟨j, y, h1, hy, hcy, h0, h⟩) | ⟨⟨a, ha, hs, h⟩, h0⟩)
      · omega
      · exact ⟨a, by omega, hs, by rw [seg a ha, nextP_snoc]; exact .inr h⟩
      · obtain rfl : i = j := by omega
        rw [hx] at hy
        cases hy
        obtain ⟨a, ha, hs, h3⟩ := (hN i (by omega)).1 h
        refine ⟨a, by omega, hs, ?_⟩
        rw [seg a ha, nextP_snoc, fits_next hx hwx]
        exact .inl (.inr ⟨h0, _, c, rfl, hcy, (nextP_once hx h0 _).1 h3⟩)
      · refine ⟨a, ha, hs, ?_⟩
        rcases Nat.lt_or_ge t a with g | g
        · obtain rfl : a = t + 1 := by omega
          rw [segP_self] at h ⊢
          rw [nextP_nil hw i (by omega)] at h
          rw [nextP_nil hw (i + 1) hi, take_more hx]
          intro y hy
          rcases List.mem_append.1 hy with hy | hy
          · exact h y hy
          · rw [List.mem_singleton.1 hy]; exact h0
        · rw [seg a g] at h ⊢
          rw [nextP_snoc, fits_next hx hwx]
          exact .inl (.inl ⟨h0, h⟩)
    · rintro ⟨a, ha, hs, h⟩
      rcases Nat.lt_or_ge t a with g | g
      · obtain rfl : a = t + 1 := by omega
        rw [segP_self, nextP_nil hw (i + 1) hi, take_more hx] at h
        refine .inr ⟨⟨t + 1, Nat.le_refl _, hs, ?_⟩, h x (by simp)⟩
        rw [segP_self, nextP_nil hw i (by omega)]
        exact fun y hy => h y (List.mem_append_left _ hy)
      · rw [seg a g, nextP_snoc, fits_next hx hwx] at h
        rcases h with (⟨h0, h⟩ | ⟨h0, b, d, hab, hcx, h⟩) | h
        · exact .inr ⟨⟨a, ha, hs, by rw [seg a g]; exact h⟩, h0⟩
        · obtain ⟨rfl, e⟩ := List.append_inj' hab (by simp)
          injection e with e _
          subst e
          exact .inl (.inr (.inr ⟨i, x, rfl, hx, hcx, h0, (hN i (by omega)).2 ⟨a, g, hs, (nextP_once hx h0 _).2 h⟩⟩))
        · exact .inl (.inr (.inl ⟨a, g, hs, h⟩))
theorem step_odd {xs : List ItemP} (hw : howP xs) {start : Bool} {l : List Int} {t s : Nat} {c : Int} (hc : l[t]? = some c) (hN : evenH xs start l t s) : oddH xs start l (t + 1) (stepS xs start c s) := fun i hi => by
  have seg : ∀ a, a ≤ t → segP l a (t + 1) = segP l a t ++ [c] := fun a ha => segP_snoc ha hc
  unfold stepS
  rw [closed_odd, raw_odd hw]
  constructor
  · rintro ⟨x, hx, hcx, h2, h⟩
    obtain ⟨a, ha, hs, h3⟩ := (hN i (by omega)).1 h
    exact ⟨a, by omega, hs, by rw [seg a ha, halfP_snoc]; exact ⟨x, hx, h2, hcx, h3⟩⟩
  · rintro ⟨a, ha, hs, h⟩
    rcases Nat.lt_or_ge t a with g | g
    · obtain rfl : a = t + 1 := by omega
      rw [segP_self] at h
      exact absurd h halfP_nil
    · rw [seg a g, halfP_snoc] at h
      obtain ⟨x, hx, h2, hcx, h3⟩ := h
      exact ⟨x, hx, hcx, h2, (hN i (by omega)).2 ⟨a, g, hs, h3⟩⟩
theorem run_states {xs : List ItemP} (hw : howP xs) (start : Bool) (l : List Int) : ∀ t, t ≤ l.length → evenH xs start l t (runS xs start (l.take t)) ∧ oddH xs start l t (runS xs start (l.take t))
  | 0, _ => ⟨first_even hw start l, first_odd start l⟩
  | t + 1, ht => by
    obtain ⟨h1, h2⟩ := run_states hw start l t (by omega)
    obtain ⟨c, hc⟩ : ∃ c, l[t]? = some c := ⟨_, List.getElem?_eq_getElem (by omega)⟩
    rw [List.take_add_one, hc]
    have e : l.take t ++ (some c).toList = l.take t ++ [c] := rfl
    rw [e, runS_snoc]
    exact ⟨step_even hw hc h1 h2, step_odd hw hc h1⟩
/-- A set is done just where the pattern fits behind that place. -/
theorem done_behind {xs : List ItemP} (hr : rightB xs 32 = true) (start : Bool) {l : List Int} {t : Nat} (ht : t ≤ l.length) : doneS xs (runS xs start (l.take t)) = behindA start xs l ((t : Nat) : Int) := by
  have hw := rightB_how hr
  have h := (run_states hw start l t ht).1 xs.length (Nat.le_refl _)
  unfold doneS behindA
  rw [hr, decide_eq_true (show 0 ≤ ((t : Nat) : Int) ∧ ((t : Nat) : Int) ≤ ((l.length : Nat) : Int) by omega), Int.toNat_natCast, Bool.true_and, Bool.true_and, Bool.eq_iff_iff, h]
  cases start with
  | true =>
    rw [if_pos rfl, fitsB_iff hw]
    constructor
    · rintro ⟨a, _, hs, h⟩
      obtain rfl : a = 0 := hs rfl
      exact (nextP_all _ _).1 h
    · intro h; exact ⟨0, Nat.zero_le _, fun _ => rfl, (nextP_all _ _).2 h⟩
  | false =>
    rw [if_neg (by decide), List.any_eq_true]
    constructor
    · rintro ⟨a, ha, _, h⟩
      exact ⟨a, List.mem_range.2 (by omega), (fitsB_iff hw _).2 ((nextP_all _ _).1 h)⟩
    · rintro ⟨a, ha, h⟩
      have := List.mem_range.1 ha
      exact ⟨a, by omega, (fun h => by cases h), (nextP_all _ _).2 ((fitsB_iff hw _).1 h)⟩
end Go.Proofs.YtjacebnlikhjnaaDoor

namespace Go.Proofs.YtjacebnlikhjnaaDoor
open Go.RowKit Go.Shelf

theorem wrap_bits (X : BitVec 64) : IntKind.i64.wrap ((X.toNat : Nat) : Int) = X.toInt := by
  have h := X.isLt
  rw [IntKind.wrap_i64, BitVec.toInt_eq_toNat_cond]
  split <;> omega
def orZ (a b : Int) : Int := IntKind.i64.wrap ((BitVec.ofInt 64 a ||| BitVec.ofInt 64 b).toNat : Int)
theorem orZ_pos {a b : Int} (ha : In64K a) (hb : In64K b) (h : 0 ≤ orZ a b) : 0 ≤ a ∧ 0 ≤ b := by
  unfold orZ at h
  rw [wrap_bits] at h
  have hm : (BitVec.ofInt 64 a ||| BitVec.ofInt 64 b).msb = false := by rw [BitVec.msb_eq_toInt]; exact decide_eq_false (by omega)
  rw [BitVec.msb_or, Bool.or_eq_false_iff, BitVec.msb_eq_toInt, BitVec.msb_eq_toInt] at hm
  have e1 : (BitVec.ofInt 64 a).toInt = a := by rw [BitVec.toInt_ofInt, Int.bmod_def]; unfold In64K at ha; omega
  have e2 : (BitVec.ofInt 64 b).toInt = b := by rw [BitVec.toInt_ofInt, Int.bmod_def]; unfold In64K at hb; omega
  rw [e1, e2] at hm
  have h1 := of_decide_eq_false hm.1
  have h2 := of_decide_eq_false hm.2
  omega
theorem orZ_nat (x y : Nat) (hx : x < 2 ^ 32) (hy : y < 2 ^ 32) : orZ ((x : Nat) : Int) ((y : Nat) : Int) = ((x ||| y : Nat) : Int) := by
  unfold orZ
  have h32 : (2 : Nat) ^ 32 = 4294967296 := by decide
  have hz : x ||| y < 2 ^ 32 := Nat.or_lt_two_pow hx hy
  have e1 : (BitVec.ofInt 64 ((x : Nat) : Int)) = BitVec.ofNat 64 x := by simp
  have e2 : (BitVec.ofInt 64 ((y : Nat) : Int)) = BitVec.ofNat 64 y := by simp
  rw [e1, e2, BitVec.toNat_or, BitVec.toNat_ofNat, BitVec.toNat_ofNat, Nat.mod_eq_of_lt (by omega), Nat.mod_eq_of_lt (by omega), IntKind.wrap_i64]
  omega
def knowA (xs : List ItemP) (s : Int) : Bool := rightB xs 32 && knowsB xs.length s
def stepA (st : Bool) (xs : List ItemP) (s c : Int) : Int := if knowA xs s = true then ((stepS xs st c s.toNat : Nat) : Int) else 0
def numA (b : Bool) : Int := if b = true then 0 else 80
theorem Step_anyH (st : Bool) (o : Option Addr) (xs : List ItemP) (cap : Nat) (s c : Int) (hxl : xs.length ≤ 1000000) (w : World) (aP aS : Addr) (hQ : GlobH w aP aS) (hA : AtI w o xs) :
    Calls Tryd.prog 12 #[patV st o xs.length cap, .int .i64 s, .int .i64 c] w fun e w' => e = .returned (.tuple #[.int .i64 (stepA st xs s c), .int .i64 (numA (knowA xs s))]) ∧ Below w.heap.size w w' := by
  unfold stepA knowA numA
  cases hr : rightB xs 32 with
  | false => exact Step_wrong st o xs cap hxl hr s c w aP aS hQ hA
  | true =>
    cases hk : knowsB xs.length s with
    | false => exact Step_not st o xs cap hr s c hk w aP aS hQ hA
    | true => exact Step_right st o xs cap hr s c hk w aP aS hQ hA
theorem Done_anyH (st : Bool) (o : Option Addr) (xs : List ItemP) (cap : Nat) (s : Int) (hxl : xs.length ≤ 1000000) (w : World) (aP aS : Addr) (hQ : GlobH w aP aS) (hA : AtI w o xs) :
    Calls Tryd.prog 14 #[patV st o xs.length cap, .int .i64 s] w fun e w' => e = .returned (.bool (knowA xs s && doneS xs s.toNat)) ∧ Below w.heap.size w w' := by
  unfold knowA
  cases hr : rightB xs 32 with
  | false => exact Done_wrong st o xs cap hxl hr s w aP aS hQ hA
  | true => exact Done_right st o xs cap hr s w hA
theorem knowA_nat {xs : List ItemP} {s : Int} (h : knowA xs s = true) : rightB xs 32 = true ∧ 0 ≤ s ∧ s.toNat < 2 ^ (2 * xs.length + 1) ∧ s.toNat < 2 ^ 32 := by
  unfold knowA at h
  obtain ⟨hr, hk⟩ := Bool.and_eq_true_iff.1 h
  unfold knowsB at hk
  have hk := of_decide_eq_true hk
  have hp : 0 < 2 ^ (2 * xs.length + 1) := Nat.pow_pos (by decide)
  have hl := (rightB_parts hr).2.1
  have h1 : s.toNat < 2 ^ (2 * xs.length + 1) := by omega
  exact ⟨hr, hk.1, h1, Nat.lt_of_lt_of_le h1 (Nat.pow_le_pow_right (by decide) (by omega))⟩
theorem knowA_of {xs : List ItemP} {s : Nat} (hr : rightB xs 32 = true) (h : s < 2 ^ (2 * xs.length + 1)) : knowA xs ((s : Nat) : Int) = true := by
  unfold knowA knowsB
  rw [hr, Bool.true_and]
  have hp : 0 < 2 ^ (2 * xs.length + 1) := Nat.pow_pos (by decide)
  exact decide_eq_true ⟨Int.natCast_nonneg _, by omega⟩
end Go.Proofs.YtjacebnlikhjnaaDoor
