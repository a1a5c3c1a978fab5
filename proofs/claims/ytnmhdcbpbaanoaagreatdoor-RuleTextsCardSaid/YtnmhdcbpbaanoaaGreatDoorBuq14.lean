/- Shaken by bunq.py. -/
import Derived.Test.YtnmhdcbpbaanoaaGreatDoorBuq13
import Derived.Test.YtnmhdcbpbaanoaaGreatDoorBuq11
import Derived.Test.YtnmhdcbpbaanoaaGreatDoorBuq8
import Derived.Lib.AppendStr
import Derived.Lib.Builder
import Derived.Test.YtnmhdcbpbaanoaaGreatDoorBuq3
import Derived.Laws.RangeAny
import Derived.Lib.DecodeN
import Derived.Test.YtnmhdcbpbaanoaaGreatDoorBuq1
import Derived.Test.YtnmhdcbpbaanoaaGreatDoorBuq4
import Derived.Test.YtnmhdcbpbaanoaaGreatDoorBuq9
import Derived.Maps.OwnIn
namespace Go.Proofs.YtnmhdcbpbaanoaaGreatDoor
open Go.RowKit Go.Shelf Go.Maps
attribute [local go_sem] Oper.semAt_some

theorem two_setJ {w : World} {g : Nat} {u v : Value} {t : TypeId} (a b : Value) (h : w.heap[g]? = some (.cells #[u, v] t (0, 0))) :
    ((w.setCell ⟨g, 0, none⟩ a).setCell ⟨g, 1, none⟩ b).heap[g]? = some (.cells #[a, b] t (0, 0)) ∧ Moves (fun k => k = g) w ((w.setCell ⟨g, 0, none⟩ a).setCell ⟨g, 1, none⟩ b) := by
  have h1 : (w.setCell ⟨g, 0, none⟩ a).heap[g]? = some (.cells #[a, v] t (0, 0)) := by rw [heap_setCell_same _ _ _ _ _ _ h]; rfl
  exact ⟨by rw [heap_setCell_same _ _ _ _ _ _ h1]; rfl, (Moves.setCell (S := fun k => k = g) rfl).trans (Moves.setCell (S := fun k => k = g) rfl)⟩
theorem jug_cells {w : World} {g : Nat} {u v : Value} {t : TypeId} (h : w.heap[g]? = some (.cells #[u, v] t (0, 0))) : w.cell? ⟨g, 0, none⟩ = some u ∧ w.cell? ⟨g, 1, none⟩ = some v ∧ w.frozen? ⟨g, 0, none⟩ = false ∧ w.frozen? ⟨g, 1, none⟩ = false := by
  refine ⟨?_, ?_, frozen_of_row _ _ _ _ _ h, frozen_of_row _ _ _ _ _ h⟩
  · rw [cell_of_row _ _ 0 _ _ _ h]; rfl
  · rw [cell_of_row _ _ 1 _ _ _ h]; rfl
theorem faultIn_any (s : ByteArray) (n : Int) (w : World) : Calls Tryz.prog 65 #[.string s, .int .i64 n] w fun e w' => e = .returned (partVJ s n) ∧ w = w' := by
  go_enter Tryz.func65, Tryz.ntmps65
  go_wp2
  go_ret
  exact ⟨rfl, rfl⟩
abbrev rulesB : ByteArray := ⟨#[114, 117, 108, 101, 115]⟩
def jugR (b : Bool) (o : Option Addr) (n cap : Nat) (lo : Option Addr) (k lcap : Nat) : Value := if b then .tuple #[jugV o n cap lo k lcap, .nilIface] else .tuple #[jugV none 0 0 none 0 0, partVJ rulesB 90]
set_option maxRecDepth 100000 in
set_option maxHeartbeats 4000000 in
theorem judgeOf_any (o lo : Option Addr) (l : List RulX) (cap k lcap : Nat) (hn : l.length ≤ 1000000) (hfw : FewC l) (w : World) (hA : AtC w o l) (hI : ItsC w l) :
    Calls Tryz.prog 57 #[.slice lo k lcap, .slice o l.length cap] w fun e w' => e = .returned (jugR (rightsU (l.map plX) 32) o l.length cap lo k lcap) ∧ Below w.heap.size w w' := by
  obtain ⟨w1, hw1⟩ : ∃ w1, w.alloc (jugO none 0 0 none 0 0) = w1 := ⟨_, rfl⟩
  have b1 : Below w.heap.size w w1 := by rw [← hw1]; exact (Below.refl _ _).alloc (Nat.le_refl _) _
  have z1 : w1.heap.size = w.heap.size + 1 := by rw [← hw1]; simp
  have r1 : w1.heap[w.heap.size]? = some (jugO none 0 0 none 0 0) := by rw [← hw1]; exact heap_alloc_new _ _
  obtain ⟨w2, hw2⟩ : ∃ w2, w1.alloc (jugO o l.length cap lo k lcap) = w2 := ⟨_, rfl⟩
  have b2 : Below w1.heap.size w1 w2 := by rw [← hw2]; exact (Below.refl _ _).alloc (Nat.le_refl _) _
  have r2 : w2.heap[w.heap.size + 1]? = some (jugO o l.length cap lo k lcap) := by rw [← hw2, ← z1]; exact heap_alloc_new _ _
  have B2 := b1.trans (b2.mono b1.size)
  have HR := Lib.hid (rightJ_any o l cap 32 hn hfw w2 (hA.below B2) (hI.below B2))
  obtain ⟨b, hb⟩ : ∃ b, rightsU (l.map plX) 32 = b := ⟨_, rfl⟩
  obtain ⟨n, hnn⟩ : ∃ n, l.length = n := ⟨_, rfl⟩
  rw [hb] at HR ⊢
  rw [hnn] at HR hw2 r2 ⊢
  have HW1 := Lib.hid hw1
  have HW2 := Lib.hid hw2
  have HB := Lib.hid B2
  have HR1 := Lib.hid (row_below r1 b2)
  have HR2 := Lib.hid r2
  clear hw1 hw2 b1 b2 r1 r2 B2 z1 hnn hb hA hI hn hfw
  go_enter Tryz.func57, Tryz.ntmps57
  go_wp2_with fail
  rw [HW1.out]
  try rw [HW2.out]
  refine HR.out.mono ?_
  rintro e w3 ⟨rfl, b3⟩
  have h1 := row_below HR1.out b3
  obtain ⟨p0, p1, f0, f1⟩ := jug_cells h1
  obtain ⟨q0, q1, _⟩ := jug_cells (row_below HR2.out b3)
  have HB3 := Lib.hid (HB.out.trans (b3.mono HB.out.size))
  have hz3 := HB3.out.size
  cases b with
  | true =>
    obtain ⟨r6, m6⟩ := two_setJ (.slice o n cap) (.slice lo k lcap) h1
    obtain ⟨w6, hw6⟩ : ∃ w6, (w3.setCell ⟨w.heap.size, 0, none⟩ (.slice o n cap)).setCell ⟨w.heap.size, 1, none⟩ (.slice lo k lcap) = w6 := ⟨_, rfl⟩
    rw [hw6] at r6 m6
    have HB6 := Lib.hid (Moves.below HB3.out hz3 m6 (fun k hk => by omega))
    have HW6 := Lib.hid hw6
    have HR6 := Lib.hid r6
    clear b3 h1 r6 m6 hw6
    go_wp2_with fail
    rw [HW6.out]
    exact bodyPost_ret (v := jugR true o n cap lo k lcap) (results_cell_tmp rfl _ _ w.heap.size _ _ _ _ _ rfl rfl HR6.out Tryz.underlying84 rfl (by kernel_rfl)) rfl ⟨rfl, HB6.out⟩
  | false =>
    obtain ⟨r6, m6⟩ := two_setJ (.slice none 0 0) (.slice none 0 0) h1
    obtain ⟨w6, hw6⟩ : ∃ w6, (w3.setCell ⟨w.heap.size, 0, none⟩ (.slice none 0 0)).setCell ⟨w.heap.size, 1, none⟩ (.slice none 0 0) = w6 := ⟨_, rfl⟩
    rw [hw6] at r6 m6
    have HB6 := Lib.hid (Moves.below HB3.out hz3 m6 (fun k hk => by omega))
    have HW6 := Lib.hid hw6
    have HR6 := Lib.hid r6
    have HIN := Lib.hid (faultIn_any rulesB 90 w3)
    clear b3 h1 r6 m6 hw6
    go_wp2_with fail
    refine HIN.out.mono ?_
    rintro e _ ⟨rfl, rfl⟩
    go_wp2_with fail
    rw [HW6.out]
    exact bodyPost_ret (v := jugR false o n cap lo k lcap) (results_cell_tmp rfl _ _ w.heap.size _ _ _ _ _ rfl rfl HR6.out Tryz.underlying84 rfl (by kernel_rfl)) rfl ⟨rfl, HB6.out⟩
theorem RightJ_any (o : Option Addr) (l : List RulX) (cap : Nat) (m : Int) (hn : l.length ≤ 1000000) (hfw : FewC l) (w : World) (hA : AtC w o l) (hI : ItsC w l) :
    Calls Tryz.prog 21 #[.slice o l.length cap, .int .i64 m] w fun e w' => e = .returned (.bool (rightsU (l.map plX) m)) ∧ Below w.heap.size w w' := by
  have HR := Lib.hid (rightJ_any o l cap m hn hfw w hA hI)
  obtain ⟨b, hb⟩ : ∃ b, rightsU (l.map plX) m = b := ⟨_, rfl⟩
  obtain ⟨n, hnn⟩ : ∃ n, l.length = n := ⟨_, rfl⟩
  rw [hb] at HR ⊢
  rw [hnn] at HR ⊢
  clear hA hI hn hfw hnn hb
  go_enter Tryz.func21, Tryz.ntmps21
  go_wp2_with fail
  refine HR.out.mono ?_
  rintro e w3 ⟨rfl, b3⟩
  have HB := Lib.hid b3
  clear b3
  go_wp2_with fail
  go_ret
  exact ⟨rfl, HB.out⟩
set_option maxRecDepth 100000 in
set_option maxHeartbeats 4000000 in
theorem decidedJ_any (o lo : Option Addr) (l : List RulX) (cap lcap : Nat) (L : List Int) (a : Int) (hn : l.length ≤ 1000000) (hk : L.length ≤ 100000) (hfw : FewC l) (w : World) (hA : AtC w o l) (hI : ItsC w l) (hL : ListJ w lo L lcap) :
    Calls Tryz.prog 36 #[.slice lo L.length lcap, .int .i64 a, .slice o l.length cap] w fun e w' => e = .returned (.tuple #[.bool (decideU (l.map plX) L a).1, .int .i64 (decideU (l.map plX) L a).2]) ∧ Below w.heap.size w w' := by
  have HJ := Lib.hid (judgeOf_any o lo l cap L.length lcap hn hfw w hA hI)
  have HP := Lib.hid (fun W => isPlaceJ_any o lo l.length cap lcap L a W)
  have HD := Lib.hid (fun W (hb : Below w.heap.size w W) => decideJ_any o lo l cap lcap L a hn hk hfw W (hA.below hb) (hI.below hb) (hL.below hb))
  unfold decideU
  obtain ⟨d, hd⟩ : ∃ d, firstU L a (l.map plX) 0 = d := ⟨_, rfl⟩
  obtain ⟨b, hb⟩ : ∃ b, rightsU (l.map plX) 32 = b := ⟨_, rfl⟩
  obtain ⟨p, hp⟩ : ∃ p, placeU L a = p := ⟨_, rfl⟩
  obtain ⟨n, hnn⟩ : ∃ n, l.length = n := ⟨_, rfl⟩
  obtain ⟨k, hkk⟩ : ∃ k, L.length = k := ⟨_, rfl⟩
  rw [hd] at HD ⊢
  rw [hb] at HJ ⊢
  rw [hp] at HP ⊢
  rw [hnn] at HJ HP HD ⊢
  rw [hkk] at HJ HP HD ⊢
  clear hd hb hp hnn hkk hA hI hL hn hk hfw
  cases b with
  | false =>
    go_enter Tryz.func36, Tryz.ntmps36
    go_wp2_with fail
    refine HJ.out.mono ?_
    rintro e w3 ⟨rfl, b3⟩
    have b4 : Below w.heap.size w (w3.alloc (jugO none 0 0 none 0 0)) := b3.alloc b3.size _
    have HB := Lib.hid b4
    clear b3 b4
    have hj : jugR false o n cap lo k lcap = .tuple #[jugV none 0 0 none 0 0, partVJ rulesB 90] := rfl
    rw [hj]
    go_wp2_with fail
    exact bodyPost_ret (results_tmp2 (t := 6) (u := 7) rfl _ _ _) rfl ⟨rfl, HB.out⟩
  | true =>
    have hj : jugR true o n cap lo k lcap = .tuple #[jugV o n cap lo k lcap, .nilIface] := rfl
    rw [hj] at HJ
    go_enter Tryz.func36, Tryz.ntmps36
    go_wp2_with fail
    refine HJ.out.mono ?_
    rintro e w3 ⟨rfl, b3⟩
    obtain ⟨w4, hw4⟩ : ∃ w4, w3.alloc (jugO o n cap lo k lcap) = w4 := ⟨_, rfl⟩
    have b4 : Below w3.heap.size w3 w4 := by rw [← hw4]; exact (Below.refl _ _).alloc (Nat.le_refl _) _
    have r4 : w4.heap[w3.heap.size]? = some (jugO o n cap lo k lcap) := by rw [← hw4]; exact heap_alloc_new _ _
    have HB4 := Lib.hid (b3.trans (b4.mono b3.size))
    have HR4 := Lib.hid r4
    have HW4 := Lib.hid hw4
    have HC := Lib.hid (HP.out w4)
    clear b3 b4 r4 hw4
    go_wp2_with fail
    rw [HW4.out]
    refine HC.out.mono ?_
    rintro e w5 ⟨rfl, b5⟩
    obtain ⟨q0, q1, _⟩ := jug_cells (row_below HR4.out b5)
    have HB5 := Lib.hid (HB4.out.trans (b5.mono HB4.out.size))
    clear b5
    cases p with
    | false =>
      go_wp2_with fail
      exact bodyPost_ret (results_tmp2 (t := 6) (u := 7) rfl _ _ _) rfl ⟨rfl, HB5.out⟩
    | true =>
      have HE := Lib.hid (HD.out w5 HB5.out)
      go_wp2_with fail
      refine HE.out.mono ?_
      rintro e w6 ⟨rfl, b6⟩
      have HB6 := Lib.hid (HB5.out.trans (b6.mono HB5.out.size))
      clear b6
      go_wp2_with fail
      exact bodyPost_ret (results_tmp2 (t := 6) (u := 7) rfl _ _ _) rfl ⟨rfl, HB6.out⟩
theorem DecideJ_any (o lo : Option Addr) (l : List RulX) (cap lcap : Nat) (L : List Int) (a : Int) (hn : l.length ≤ 1000000) (hk : L.length ≤ 100000) (hfw : FewC l) (w : World) (hA : AtC w o l) (hI : ItsC w l) (hL : ListJ w lo L lcap) :
    Calls Tryz.prog 16 #[.slice o l.length cap, .slice lo L.length lcap, .int .i64 a] w fun e w' => e = .returned (.tuple #[.bool (decideU (l.map plX) L a).1, .int .i64 (decideU (l.map plX) L a).2]) ∧ Below w.heap.size w w' := by
  have HD := Lib.hid (decidedJ_any o lo l cap lcap L a hn hk hfw w hA hI hL)
  obtain ⟨⟨d1, d2⟩, hd⟩ : ∃ d, decideU (l.map plX) L a = d := ⟨_, rfl⟩
  obtain ⟨n, hnn⟩ : ∃ n, l.length = n := ⟨_, rfl⟩
  obtain ⟨k, hkk⟩ : ∃ k, L.length = k := ⟨_, rfl⟩
  rw [hd] at HD ⊢
  rw [hnn, hkk] at HD ⊢
  clear hd hnn hkk hA hI hL hn hk hfw
  simp only at HD ⊢
  go_enter Tryz.func16, Tryz.ntmps16
  go_wp2_with fail
  refine HD.out.mono ?_
  rintro e w6 ⟨rfl, b6⟩
  have HB6 := Lib.hid b6
  clear b6
  go_wp2_with fail
  exact bodyPost_ret (results_tmp2 (t := 6) (u := 7) rfl _ _ _) rfl ⟨rfl, HB6.out⟩
theorem decide_one (x : RuleP) (L : List Int) (a : Int) : ((decideU [x] L a).2 != -1) = appliesU x L a := by
  unfold decideU appliesU rightsU
  simp only [List.all_cons, List.all_nil, Bool.and_true, List.length_singleton]
  cases rightU 32 x with
  | false => rfl
  | true =>
    cases placeU L a with
    | false => rfl
    | true =>
      simp only [firstU]
      cases sideU L a x with
      | false => rfl
      | true => rfl
set_option maxRecDepth 100000 in
set_option maxHeartbeats 4000000 in
theorem AppliesJ_any (x : RulX) (lo : Option Addr) (lcap : Nat) (L : List Int) (a : Int) (hk : L.length ≤ 100000) (hfw : FewC [x]) (w : World) (hI : ItsC w [x]) (hL : ListJ w lo L lcap) :
    Calls Tryz.prog 18 #[rulV x, .slice lo L.length lcap, .int .i64 a] w fun e w' => e = .returned (.bool (appliesU (plX x) L a)) ∧ Below w.heap.size w w' := by
  rw [← decide_one]
  obtain ⟨w1, hw1⟩ : ∃ w1, w.alloc (rulO x) = w1 := ⟨_, rfl⟩
  have b1 : Below w.heap.size w w1 := by rw [← hw1]; exact (Below.refl _ _).alloc (Nat.le_refl _) _
  have z1 : w1.heap.size = w.heap.size + 1 := by rw [← hw1]; simp
  have r1 : w1.heap[w.heap.size]? = some (rulO x) := by rw [← hw1]; exact heap_alloc_new _ _
  obtain ⟨w2, hw2⟩ : ∃ w2, w1.alloc (rulO x) = w2 := ⟨_, rfl⟩
  have b2 : Below w1.heap.size w1 w2 := by rw [← hw2]; exact (Below.refl _ _).alloc (Nat.le_refl _) _
  have r2 : w2.heap[w.heap.size + 1]? = some (rulO x) := by rw [← hw2, ← z1]; exact heap_alloc_new _ _
  have B2 := b1.trans (b2.mono b1.size)
  have A2 : AtC w2 (some ⟨w.heap.size + 1, 0, none⟩) [x] := fun _ => ⟨_, 0, rfl, fun j y hy => by
    have hj : j = 0 := by have := (List.getElem?_eq_some_iff.1 hy).1; simp at this; exact this
    subst hj
    obtain rfl : x = y := by simpa using hy
    exact rul_cells r2⟩
  have HD := Lib.hid (decidedJ_any (some ⟨w.heap.size + 1, 0, none⟩) lo [x] 1 lcap L a (by simp) hk hfw w2 A2 (hI.below B2) (hL.below B2))
  rw [show [x].map plX = [plX x] from rfl, show [x].length = 1 from rfl] at HD
  obtain ⟨⟨d1, d2⟩, hd⟩ : ∃ d, decideU [plX x] L a = d := ⟨_, rfl⟩
  obtain ⟨k, hkk⟩ : ∃ k, L.length = k := ⟨_, rfl⟩
  rw [hd] at HD ⊢
  rw [hkk] at HD ⊢
  simp only at HD ⊢
  obtain ⟨c0, c1, c2, c3, c4⟩ := rul_cells r1
  obtain ⟨⟨s1, p1, xs1, q1⟩, ⟨s2, p2, xs2, q2⟩, br⟩ := x
  simp only at c0 c1 c2 c3 c4
  have HW1 := Lib.hid hw1
  have HW2 := Lib.hid hw2
  have HB := Lib.hid B2
  clear hw1 hw2 b1 b2 r1 r2 B2 z1 A2 hd hkk hI hL hk hfw
  go_enter Tryz.func18, Tryz.ntmps18
  go_wp2_with fail
  rw [HW1.out]
  try rw [HW2.out]
  refine HD.out.mono ?_
  rintro e w6 ⟨rfl, b6⟩
  have HB6 := Lib.hid (HB.out.trans (b6.mono HB.out.size))
  clear b6
  go_wp2_with fail
  go_ret
  exact ⟨rfl, HB6.out⟩
end Go.Proofs.YtnmhdcbpbaanoaaGreatDoor
namespace Go.Proofs.YtnmhdcbpbaanoaaGreatDoor
open Go.RowKit Go.Shelf Go.Maps
attribute [local go_sem] Oper.semAt_some
attribute [local go_sem ↓] app_hide

abbrev bldO (p v : Value) : Obj := .cells #[p, v] 102 (0, 0)
abbrev selfV (b : Nat) : Value := .pointer (some ⟨b, 0, none⟩)
theorem text_atJ {W : World} {base k : Nat} {v : Value} {xs : List Value} (s : ByteArray) (ho : W.ownsRow base 5 1 v k xs) (hk : k + s.size ≤ 1000000000) (hbase : base ≤ W.heap.size) :
    ∃ o cap w6, (appSem #[100, 9] 100 #[v, .string s]).run Tryz.prog W = .ok (.slice o (k + s.size) cap) w6 ∧
      w6.ownsRow base 5 1 (.slice o (k + s.size) cap) (k + s.size) (xs ++ byteCells s.data.toList) ∧ W.grownBy w6 v.ownBlock ∧ (∀ g, (Value.slice o (k + s.size) cap).ownBlock = some g → v.ownBlock = some g ∨ W.heap.size ≤ g) := by
  obtain ⟨i0, hi, hz0, hz1, hz2⟩ := info_parts infoByte
  obtain ⟨v', w6, hr, h2, h3, h4⟩ := Lib.run_append_own_string (P := Tryz.prog) W base 100 9 100 5 i0 Tryz.underlying100 Tryz.underlying9 hi hz0 hz1 hz2 v k xs ho s (by unfold maxLen; omega) (by omega) hbase
  obtain ⟨o, cap, rfl⟩ := own_form h2
  refine ⟨o, cap, w6, hr, h2, h3, fun g hg => ?_⟩
  rcases ho.2 with ⟨rfl, rfl⟩ | ⟨g0, cap0, cur, rfl, hbg, hgr, hnc, hcm, hcs, htake⟩
  · by_cases hm : s.size = 0
    · have := h4.2 ⟨rfl, hm⟩
      rw [this] at hg
      cases hg
    · have hr2 := run_append_nil_string (P := Tryz.prog) W 100 9 100 5 i0 (.int .u8 0) Tryz.underlying100 Tryz.underlying9 hi hz0 s (by omega) (by omega) (by rw [hz2]; omega)
      rw [hr] at hr2
      injection hr2 with e1 e2
      rw [e1] at hg
      right
      have : g = W.heap.size := by simpa [Value.ownBlock] using hg.symm
      omega
  · by_cases hroom : k + s.size ≤ cap0
    · have hcs' : cur.size = cap0 := by simpa using hcs
      have hr2 := Lib.run_append_room_string (P := Tryz.prog) W 100 9 100 5 i0 Tryz.underlying100 Tryz.underlying9 hi hz1 g0 k cap0 cur hgr s hroom (by omega)
      rw [hr] at hr2
      injection hr2 with e1 e2
      rw [e1] at hg
      exact .inl hg
    · have holds : ∀ j u, xs[j]? = some u → W.cell? ((⟨g0, 0, none⟩ : Addr).add j) = some u := ho.cells (g := g0) rfl
      have hxl : xs.length = k := by simpa using ho.1
      have hr2 := Lib.run_append_grow_string (P := Tryz.prog) W 100 9 100 5 i0 (.int .u8 0) Tryz.underlying100 Tryz.underlying9 hi hz0 ⟨g0, 0, none⟩ k cap0 xs (by rw [hz1]; simpa using hxl) holds s (by omega) (by omega) (by rw [hz2]; exact growslice_fits (by omega) (by omega))
      rw [hr] at hr2
      injection hr2 with e1 e2
      rw [e1] at hg
      right
      have : g = W.heap.size := by simpa [Value.ownBlock] using hg.symm
      omega
theorem byteCells_app (a b : List UInt8) : byteCells (a ++ b) = byteCells a ++ byteCells b := by unfold byteCells; rw [List.map_append]
set_option maxHeartbeats 2000000 in
theorem copyJ_any (b : Nat) (p v : Value) (hp : p = .pointer none ∨ p = selfV b) (w : World) (h : w.heap[b]? = some (bldO p v)) :
    Calls Tryz.prog 94 #[selfV b] w fun e w' => e = .returned (.tuple #[]) ∧ w'.heap[b]? = some (bldO (selfV b) v) ∧ Moves (fun k => k = b) w w' := by
  have hi : (Tryz.prog.info? 102).map (·.size) = some 2 := by kernel_rfl
  obtain ⟨j, hj, hjs⟩ := Option.map_eq_some_iff.1 hi
  have c0 : w.cell? ⟨b, 0, none⟩ = some p := by rw [cell_of_row _ _ 0 _ _ _ h]; rfl
  rcases hp with rfl | rfl
  · have hsh : w.shape? b = some (102, 2) := by simp [World.shape?, h]
    have f0 : w.frozen? ⟨b, 0, none⟩ = false := frozen_of_row _ _ _ _ _ h
    have e1 := Lib.run_to_unsafe (P := Tryz.prog) w ⟨b, 0, none⟩ Tryz.underlying99 Tryz.underlying140 hj (by rw [hjs]; decide) hsh (Nat.zero_lt_succ 1)
    have e2 := Lib.run_from_unsafe (P := Tryz.prog) w ⟨b, 0, none⟩ Tryz.underlying140 Tryz.underlying99 hj hsh (by kernel_rfl)
    have e3 := @run_callFunc_extern Tryz.prog 122 _ Extern.AbiNoEscape.same Tryz.func122 (by kernel_rfl) (by kernel_rfl) (by kernel_rfl) (by kernel_rfl)
    have e4 := Lib.run_noEscape (P := Tryz.prog) (w := w) (selfV b)
    have R : (w.setCell ⟨b, 0, none⟩ (selfV b)).heap[b]? = some (bldO (selfV b) v) := by rw [heap_setCell_same _ _ _ _ _ _ h]; rfl
    have HR := Lib.hid R
    have HM : Hid (Moves (fun k => k = b) w (w.setCell ⟨b, 0, none⟩ (selfV b))) := Lib.hid (Moves.setCell rfl)
    clear R h hj hjs hi hsh
    go_enter Tryz.func94, Tryz.ntmps94
    go_wp2
    first | go_end0 | skip
    exact ⟨rfl, HR.out, HM.out⟩
  · have e1 := Lib.run_neq_ptr_same (P := Tryz.prog) w ⟨b, 0, none⟩ Tryz.underlying99 hj
    have HR := Lib.hid h
    clear h hj hjs hi
    go_enter Tryz.func94, Tryz.ntmps94
    go_wp2
    first | go_end0 | skip
    exact ⟨rfl, HR.out, Moves.refl _ _⟩
theorem byteCells_len (l : List UInt8) : (byteCells l).length = l.length := by unfold byteCells; rw [List.length_map]
set_option maxHeartbeats 2000000 in
theorem writeJ_any (b base k : Nat) (p v : Value) (hp : p = .pointer none ∨ p = selfV b) (bs : List UInt8) (s : ByteArray) (w : World) (h : w.heap[b]? = some (bldO p v)) (ho : w.ownsRow base 5 1 v k (byteCells bs)) (hne : v.ownBlock ≠ some b) (hk : k + s.size ≤ 1000000000) (hbase : base ≤ w.heap.size) :
    Calls Tryz.prog 66 #[selfV b, .string s] w fun e w' => ∃ v', e = .returned (.tuple #[.int .i64 (s.size : Nat), .nilIface]) ∧ w'.heap[b]? = some (bldO (selfV b) v') ∧ w'.ownsRow base 5 1 v' (k + s.size) (byteCells (bs ++ s.data.toList)) ∧ (∀ g, v'.ownBlock = some g → v.ownBlock = some g ∨ w.heap.size ≤ g) ∧ Moves (fun g => g = b ∨ v.ownBlock = some g) w w' := by
  have hlt : b < w.heap.size := (Array.getElem?_eq_some_iff.1 h).1
  have HC := Lib.hid (copyJ_any b p v hp w h)
  have ST : Hid (∀ w1, w1.heap[b]? = some (bldO (selfV b) v) → Moves (fun k => k = b) w w1 → ∃ o cap w6, (appSem #[100, 9] 100 #[v, .string s]).run Tryz.prog w1 = .ok (.slice o (k + s.size) cap) w6 ∧ w6.heap[b]? = some (bldO (selfV b) v) ∧
      (Hid ((w6.setCell ⟨b, 1, none⟩ (.slice o (k + s.size) cap)).heap[b]? = some (bldO (selfV b) (.slice o (k + s.size) cap)) ∧ (w6.setCell ⟨b, 1, none⟩ (.slice o (k + s.size) cap)).ownsRow base 5 1 (.slice o (k + s.size) cap) (k + s.size) (byteCells (bs ++ s.data.toList)) ∧ (∀ g, (Value.slice o (k + s.size) cap).ownBlock = some g → v.ownBlock = some g ∨ w.heap.size ≤ g) ∧ Moves (fun g => g = b ∨ v.ownBlock = some g) w (w6.setCell ⟨b, 1, none⟩ (.slice o (k + s.size) cap))))) := Lib.hid fun w1 h1 m1 => by
    have ho1 : w1.ownsRow base 5 1 v k (byteCells bs) := by
      refine ⟨ho.1, ?_⟩
      rcases ho.2 with hn | ⟨g, cap, cur, rfl, hg, hh, rest⟩
      · exact .inl hn
      · exact .inr ⟨g, cap, cur, rfl, hg, row_keep hh m1 (fun e => hne (by rw [e]; rfl)), rest⟩
    have hz := m1.size
    obtain ⟨o, cap, w6, hr, h2, h3, h4⟩ := text_atJ s ho1 hk (by omega)
    have hb6 : w6.heap[b]? = some (bldO (selfV b) v) := by
      rw [h3.block b (by omega) (fun e => hne e.symm)]
      exact h1
    have hne' : (Value.slice o (k + s.size) cap).ownBlock ≠ some b := fun e => by
      rcases h4 b e with h | h
      · exact hne h
      · omega
    have ms : Moves (fun g => g = b) w6 (w6.setCell ⟨b, 1, none⟩ (.slice o (k + s.size) cap)) := Moves.setCell rfl
    refine ⟨o, cap, w6, hr, hb6, Lib.hid ⟨by rw [heap_setCell_same _ _ _ _ _ _ hb6]; rfl, ?_, fun g hg => ?_, ?_⟩⟩
    · rw [byteCells_app]
      refine ⟨h2.1, ?_⟩
      rcases h2.2 with hn | ⟨g, cap', cur, hv, hg, hh, rest⟩
      · exact .inl hn
      · exact .inr ⟨g, cap', cur, hv, hg, row_keep hh ms (fun e => hne' (by rw [hv, e]; rfl)), rest⟩
    · rcases h4 g hg with h | h
      · exact .inl h
      · exact .inr (by omega)
    · refine (m1.mono fun g e => .inl e).trans (Moves.trans ⟨h3.os, h3.tape, h3.output, h3.size, fun j hj hn => h3.block j hj fun e => hn (.inr e.symm)⟩ (ms.mono fun g e => .inl e))
  clear h ho hne hk hbase
  go_enter Tryz.func66, Tryz.ntmps66
  go_wp2_with fail
  refine HC.out.mono ?_
  rintro e w1 ⟨rfl, h1, m1⟩
  obtain ⟨o, cap, w6, hr, hb6, HF⟩ := ST.out w1 h1 m1
  obtain ⟨c0, c1⟩ := row_cells h1
  obtain ⟨d0, d1⟩ := row_cells hb6
  have f1 := frozen_of_row w6 b 1 _ _ hb6
  have lb6 : b < w6.heap.size := (Array.getElem?_eq_some_iff.1 hb6).1
  clear h1 m1 hb6
  go_wp2
  go_ret2
  exact ⟨_, rfl, HF.out.1, HF.out.2.1, HF.out.2.2.1, HF.out.2.2.2⟩
end Go.Proofs.YtnmhdcbpbaanoaaGreatDoor
namespace Go.Proofs.YtnmhdcbpbaanoaaGreatDoor

def CutAt (s : List UInt8) (acc : List (List UInt8)) (f p : Nat) (inn : Bool) : Prop := f ≤ p ∧ p ≤ s.length ∧ partsL false [] s = acc ++ partsL inn ((s.drop f).take (p - f)) (s.drop p)
theorem CutAt.start (s : List UInt8) : CutAt s [] 0 0 false := ⟨Nat.le_refl _, Nat.zero_le _, by simp⟩
theorem drop_getQ {s : List UInt8} {p : Nat} {b : UInt8} (h : s[p]? = some b) : s.drop p = b :: s.drop (p + 1) := by
  obtain ⟨hlt, rfl⟩ := List.getElem?_eq_some_iff.1 h
  exact List.drop_eq_getElem_cons hlt
theorem seg_moreQ {s : List UInt8} {f p : Nat} {b : UInt8} (hf : f ≤ p) (h : s[p]? = some b) : (s.drop f).take (p + 1 - f) = (s.drop f).take (p - f) ++ [b] := by
  rw [show p + 1 - f = (p - f) + 1 from by omega, List.take_add_one, List.getElem?_drop, show f + (p - f) = p from by omega, h]
  rfl
theorem CutAt.cut {s : List UInt8} {acc : List (List UInt8)} {f p : Nat} (h : CutAt s acc f p false) (hb : s[p]? = some 32) : CutAt s (acc ++ [(s.drop f).take (p - f)]) (p + 1) (p + 1) false := by
  obtain ⟨h1, h2, h3⟩ := h
  have hlt := (List.getElem?_eq_some_iff.1 hb).1
  refine ⟨Nat.le_refl _, by omega, ?_⟩
  rw [h3, drop_getQ hb, partsL, if_pos ⟨rfl, rfl⟩, Nat.sub_self, List.take_zero, List.append_assoc]
  rfl
theorem CutAt.skip {s : List UInt8} {acc : List (List UInt8)} {f p : Nat} {inn : Bool} {b : UInt8} (h : CutAt s acc f p inn) (hb : s[p]? = some b) (hn : ¬ (b = 32 ∧ inn = false)) : CutAt s acc f (p + 1) (b == 91 || (inn && b != 93)) := by
  obtain ⟨h1, h2, h3⟩ := h
  have hlt := (List.getElem?_eq_some_iff.1 hb).1
  refine ⟨by omega, by omega, ?_⟩
  rw [h3, drop_getQ hb, partsL, if_neg hn, seg_moreQ h1 hb]
theorem scanB_high {inn : Bool} : ∀ t : List UInt8, (∀ b ∈ t, 128 ≤ b.toNat) → scanB inn t = some inn
  | [], _ => rfl
  | b :: t, h => by
    have hb := h b (by simp)
    have n1 : b ≠ 32 := by rintro rfl; revert hb; decide
    have n2 : b ≠ 91 := by rintro rfl; revert hb; decide
    have n3 : b ≠ 93 := by rintro rfl; revert hb; decide
    rw [scanB, if_neg (fun e => n1 e.1), show (b == 91 || (inn && b != 93)) = inn from by cases inn <;> simp [n2, n3]]
    exact scanB_high t fun c hc => h c (List.mem_cons_of_mem _ hc)
theorem CutAt.high {s : List UInt8} {acc : List (List UInt8)} {f p w : Nat} {inn : Bool} (h : CutAt s acc f p inn) (hw : p + w ≤ s.length) (hb : ∀ i b, p ≤ i → i < p + w → s[i]? = some b → 128 ≤ b.toNat) : CutAt s acc f (p + w) inn := by
  obtain ⟨h1, h2, h3⟩ := h
  refine ⟨by omega, hw, ?_⟩
  have e : s.drop p = (s.drop p).take w ++ s.drop (p + w) := by rw [← List.drop_drop, List.take_append_drop]
  rw [h3, e, parts_scan _ _ _ inn inn (scanB_high _ ?_)]
  · congr 2
    rw [show p + w - f = (p - f) + w from by omega, List.take_add, List.drop_drop, show f + (p - f) = p from by omega]
  · intro b hm
    obtain ⟨i, hi⟩ := List.getElem?_of_mem hm
    have hlt := (List.getElem?_eq_some_iff.1 hi).1
    rw [List.length_take] at hlt
    rw [List.getElem?_take_of_lt (by omega), List.getElem?_drop] at hi
    exact hb (p + i) b (by omega) (by omega) hi
theorem CutAt.done {s : List UInt8} {acc : List (List UInt8)} {f : Nat} {inn : Bool} (h : CutAt s acc f s.length inn) : partsL false [] s = acc ++ [s.drop f] := by
  obtain ⟨h1, h2, h3⟩ := h
  rw [h3, List.drop_length, List.take_of_length_le (by rw [List.length_drop]; exact Nat.le_refl _)]
  rfl
theorem partsL_pos : ∀ (inn : Bool) (cur t : List UInt8), 1 ≤ (partsL inn cur t).length
  | _, _, [] => Nat.le_refl _
  | inn, cur, b :: t => by
    rw [partsL]
    split
    · simp
    · exact partsL_pos _ _ t
theorem partsL_len : ∀ (inn : Bool) (cur t : List UInt8), (partsL inn cur t).length ≤ t.length + 1
  | _, _, [] => by simp [partsL]
  | inn, cur, b :: t => by
    rw [partsL]
    split
    · have := partsL_len false [] t
      simp; omega
    · have := partsL_len (b == 91 || (inn && b != 93)) (cur ++ [b]) t
      simp; omega
theorem CutAt.more {s : List UInt8} {acc : List (List UInt8)} {f p : Nat} {inn : Bool} (h : CutAt s acc f p inn) : acc.length + 1 ≤ (partsL false [] s).length := by
  rw [h.2.2, List.length_append]
  have := partsL_pos inn ((s.drop f).take (p - f)) (s.drop p)
  omega
theorem partsS_ne {s : List UInt8} (h : s ≠ []) : partsS s = partsL false [] s := by unfold partsS; rw [if_neg h]
theorem fromParts_many {ns : List ByteArray} {l : List (List UInt8)} (h : 12 ≤ l.length) : fromParts ns l = none := by
  unfold fromParts
  split
  · rw [if_neg (by rw [List.length_tail]; omega)]
  · rw [if_neg (by omega)]
theorem high_bytes (s : ByteArray) (p : Nat) (h : p < s.size) (ha : 128 ≤ (s[p]'h).toNat) : 1 ≤ (Utf8.decode s p).2 ∧ p + (Utf8.decode s p).2 ≤ s.size ∧ ∀ i b, p ≤ i → i < p + (Utf8.decode s p).2 → s.data.toList[i]? = some b → 128 ≤ b.toNat := by
  have hg : ∀ i, i < s.size → ∀ b, s.data.toList[i]? = some b → (s.get! i) = b := by
    intro i hi b hb
    rw [Array.getElem?_toList] at hb
    show s.data[i]! = b
    rw [getElem!_def, hb]
  have h0 : 128 ≤ (s.get! p).toNat := by
    rw [hg p h (s[p]'h) (by rw [Array.getElem?_toList]; exact Array.getElem?_eq_getElem h)]
    exact ha
  have key : 1 ≤ (Utf8.decode s p).2 ∧ p + (Utf8.decode s p).2 ≤ s.size ∧ (1 < (Utf8.decode s p).2 → 128 ≤ (s.get! (p + 1)).toNat) ∧ (2 < (Utf8.decode s p).2 → 128 ≤ (s.get! (p + 2)).toNat) ∧ (3 < (Utf8.decode s p).2 → 128 ≤ (s.get! (p + 3)).toNat) ∧ (Utf8.decode s p).2 ≤ 4 := by
    rw [Lib.decode_at]
    generalize (s.get! p).toNat = b0 at h0
    generalize (s.get! (p + 1)).toNat = b1
    generalize (s.get! (p + 2)).toNat = b2
    generalize (s.get! (p + 3)).toNat = b3
    unfold Lib.decodeN
    repeat' split
    all_goals (simp only; omega)
  obtain ⟨k1, k2, k3, k4, k5, k6⟩ := key
  refine ⟨k1, k2, fun i b h1 h2 hb => ?_⟩
  have hi : i < s.size := by omega
  rw [← hg i hi b hb]
  rcases (by omega : i = p ∨ i = p + 1 ∨ i = p + 2 ∨ i = p + 3) with rfl | rfl | rfl | rfl
  · exact h0
  · exact k3 (by omega)
  · exact k4 (by omega)
  · exact k5 (by omega)

theorem dropWhile_le (q : UInt8 → Bool) : ∀ r : List UInt8, (r.dropWhile q).length ≤ r.length
  | [] => Nat.le_refl _
  | b :: r => by
    rw [List.dropWhile_cons]
    split
    · have := dropWhile_le q r
      rw [List.length_cons]; omega
    · exact Nat.le_refl _
theorem bareB_form : ∀ s : List UInt8, s = bareB s ++ List.replicate (s.length - (bareB s).length) 42 ∧ (bareB s).getLast? ≠ some 42 := by
  have key : ∀ r : List UInt8, r = List.replicate (r.length - (r.dropWhile (· == 42)).length) 42 ++ r.dropWhile (· == 42) ∧ (r.dropWhile (· == 42)).head? ≠ some 42 := by
    intro r
    induction r with
    | nil => exact ⟨rfl, by simp⟩
    | cons b r ih =>
      by_cases hb : b = 42
      · subst hb
        rw [List.dropWhile_cons_of_pos (by decide)]
        refine ⟨?_, ih.2⟩
        have hl : (r.dropWhile (· == 42)).length ≤ r.length := dropWhile_le _ _
        rw [List.length_cons, show r.length + 1 - (r.dropWhile (· == 42)).length = (r.length - (r.dropWhile (· == 42)).length) + 1 from by omega, List.replicate_succ, List.cons_append, ← ih.1]
      · rw [List.dropWhile_cons_of_neg (by simpa using hb)]
        refine ⟨by simp, by simpa using hb⟩
  intro s
  obtain ⟨h1, h2⟩ := key s.reverse
  unfold bareB
  rw [List.length_reverse] at h1
  rw [List.length_reverse]
  constructor
  · have := congrArg List.reverse h1
    rw [List.reverse_reverse, List.reverse_append, List.reverse_replicate] at this
    exact this
  · rw [List.getLast?_reverse]; exact h2
theorem bareB_length (s : List UInt8) : (bareB s).length ≤ s.length := by
  unfold bareB
  rw [List.length_reverse]
  have := dropWhile_le (· == 42) s.reverse
  rwa [List.length_reverse] at this
theorem read_star {ns : List ByteArray} (hn : namesL ns) {t : List UInt8} (h : t.getLast? = some 42) : readL ns t = none := by
  unfold readL
  rw [if_neg (by rintro rfl; revert h; decide), if_neg (fun e => by rw [h] at e; revert e; simp), if_neg (fun e => by rw [h] at e; revert e; simp)]
  cases hv : valueL ns ⟨t.toArray⟩ with
  | none => rfl
  | some v =>
    have hm := hn.1 _ (List.mem_of_getElem? (valueL_some hv))
    have := hm.1 42 (by show 42 ∈ t; exact List.mem_of_getLast? h)
    exact absurd this (by decide)
def itemL (ns : List ByteArray) (s : List UInt8) (how : Nat) : Option (Nat × Nat) := (readL ns s).map fun x => (x, how)
theorem item_two {ns : List ByteArray} (hn : namesL ns) (s : List UInt8) {k : Nat} (hk : k ≤ 2) {t : List UInt8} (e : s = t ++ List.replicate k 42) (h : k = 2 ∨ t.getLast? ≠ some 42) : itemR ns s = itemL ns t k := by
  obtain ⟨h1, h2⟩ := bareB_form s
  obtain ⟨m, hm⟩ : ∃ m, s.length - (bareB s).length = m := ⟨_, rfl⟩
  rw [hm] at h1
  unfold itemR itemL
  rw [hm]
  rcases Nat.lt_or_ge m k with hlt | hge
  · -- fewer stars than were taken off
    exfalso
    have : bareB s = t ++ List.replicate (k - m) 42 := by
      have h3 : t ++ List.replicate (k - m) 42 ++ List.replicate m 42 = bareB s ++ List.replicate m 42 := by
        rw [List.append_assoc, List.replicate_append_replicate, show k - m + m = k from by omega, ← e, ← h1]
      exact (List.append_cancel_right h3).symm
    apply h2
    rw [this, show k - m = (k - m - 1) + 1 from by omega, List.replicate_succ', ← List.append_assoc]
    exact List.getLast?_concat
  · have ht : t = bareB s ++ List.replicate (m - k) 42 := by
      have h3 : t ++ List.replicate k 42 = bareB s ++ List.replicate (m - k) 42 ++ List.replicate k 42 := by
        rw [List.append_assoc, List.replicate_append_replicate, show m - k + k = m from by omega, ← e, ← h1]
      exact List.append_cancel_right h3
    rcases Nat.eq_or_lt_of_le hge with rfl | hgt
    · rw [Nat.sub_self, List.replicate_zero, List.append_nil] at ht
      rw [if_pos hk, ht]
    · have hl : t.getLast? = some 42 := by
        rw [ht, show m - k = (m - k - 1) + 1 from by omega, List.replicate_succ', ← List.append_assoc]
        exact List.getLast?_concat
      rcases h with rfl | h
      · rw [if_neg (by omega), read_star hn hl]; rfl
      · exact absurd hl h
end Go.Proofs.YtnmhdcbpbaanoaaGreatDoor
namespace Go.Proofs.YtnmhdcbpbaanoaaGreatDoor
open Go.RowKit Go.Shelf
attribute [local go_sem] Oper.semAt_some

abbrev DepS (g : Nat) (k : Nat) : Prop := k = g ∨ k = g + 1 ∨ k = g + 2
theorem split_data (s : ByteArray) (n : Nat) : (s.extract 0 n).data.toList = s.data.toList.take n := by
  rw [Lib.extract_data]
  simp

end Go.Proofs.YtnmhdcbpbaanoaaGreatDoor
namespace Go.Proofs.YtnmhdcbpbaanoaaGreatDoor
open Go.RowKit Go.Shelf
attribute [local go_sem] Oper.semAt_some

set_option maxRecDepth 100000 in
set_option maxHeartbeats 1000000 in
theorem seqSplitX {g : Nat} {s : ByteArray} {c : UInt8} {w : World} (hs : s.size ≤ 1000000) (hL : SplitLaid w g s c) :
    SeqOfX Tryz.prog 4 202 (splitB g) encS (fun k => k = g) (DepS g) (splitL c s.data.toList) w := by
  intro W l J Jx hm hJ hJx hY h0
  have h1 : 1 ≤ 4 := by omega
  have L0 : SplitLaid W g s c := ⟨hL.1.moves hm id, hL.2.1.moves hm id, hL.2.2.moves hm id⟩
  have c1 := L0.2.1.cell
  refine callsIn_of_wp Tryz.func202 rfl trivial ?_ rfl
  simp only [Tryz.ntmps202, List.size_toArray, List.length_cons, List.length_nil, Nat.reduceAdd, Nat.reduceSub, Array.replicate_succ, Array.replicate_zero, List.push_toArray, List.append_toArray, List.nil_append, List.cons_append]
  have HJ := Lib.hid hJ
  have HY := Lib.hid hY
  have HSZ := Lib.hid hs
  have HL := Lib.hid L0
  clear hJ hJx hY hm hL L0
  gi_wp2
  gi_loopg [] s.size (fun k wr => ∃ (pre : List (List UInt8)) (s' : ByteArray), s'.size = k ∧ k ≤ s.size ∧ Hid (splitL c s.data.toList = pre ++ splitL c s'.data.toList) ∧ Hid (SplitLaid wr g s' c) ∧ J (fun k => k = g) pre wr)
  case atStart => exact ⟨[], s, rfl, Nat.le_refl _, Lib.hid rfl, HL, h0⟩
  case round =>
    obtain ⟨pre, s', rfl, hle, he, hl, hJ'⟩ := hrel
    have d0 := hl.out.1.cell
    have d1 := hl.out.2.1.cell
    have d2 := hl.out.2.2.cell
    have f0 := hl.out.1.froz
    gi_wp2_with fail
    refine ⟨trivial, (callsIn_wide.2 (Tryz.strings_Index_one s' c wr)).mono ?_⟩
    rintro e w' ⟨rfl, rfl⟩
    obtain ⟨m, hmi⟩ : ∃ m, Lib.indexByte s'.data.toList c = m := ⟨_, rfl⟩
    have hge := Lib.indexByte_ge s'.data.toList c
    rw [hmi] at hge
    have hll : s'.data.toList.length = s'.size := by simp
    rcases Int.lt_or_le m 0 with hneg | hpos
    · obtain rfl : m = -1 := by omega
      have hall : splitL c s.data.toList = pre ++ [s'.data.toList] := by rw [he.out, splitL_none (Lib.indexByte_none hmi)]
      have HA := Lib.hid hall
      rw [hmi]
      clear hall hmi hge
      obtain ⟨fn, tmps, assign, body, hy, hR⟩ := HY.out _ pre s'.data.toList _ (by rw [HA.out]; exact List.prefix_rfl) hJ'
      replace hy : (Instr.yield l #[.string s']).run Tryz.prog w' = .ok (.round l fn tmps assign body) w' := hy
      gi_wp2
      refine hR.mono ?_
      rintro e w3 (⟨rfl, hJ4, hk4⟩ | ⟨rfl, hJx4, _⟩)
      · gi_wp2
        go_end0
        exact ⟨⟨_, rfl⟩, _, .inl (by rw [HA.out]; exact hJ4)⟩
      · gi_wp2
        go_end0
        exact ⟨⟨_, rfl⟩, _, .inr ⟨_, by rw [HA.out]; exact List.prefix_rfl, hJx4⟩⟩
    · obtain ⟨j, rfl⟩ : ∃ j : Nat, m = j := ⟨m.toNat, by omega⟩
      obtain ⟨hat, hbef⟩ := Lib.indexByte_some hmi
      have hlt : j < s'.size := by rw [← hll]; exact (List.getElem?_eq_some_iff.1 hat).1
      have hev : splitL c s.data.toList = (pre ++ [s'.data.toList.take j]) ++ splitL c (s'.extract (j + 1) s'.size).data.toList := by
        rw [he.out, splitL_at hat hbef, drop_toList]; simp
      have HE := Lib.hid hev
      rw [hmi]
      clear hev hat hbef hmi hge hll
      obtain ⟨fn, tmps, assign, body, hy, hR⟩ := HY.out _ pre (s'.data.toList.take j) _ (by rw [HE.out]; exact List.prefix_append _ _) hJ'
      replace hy : (Instr.yield l #[.string (s'.extract 0 j)]).run Tryz.prog w' = .ok (.round l fn tmps assign body) w' := by
        have e1 : (⟨(s'.data.toList.take j).toArray⟩ : ByteArray) = s'.extract 0 j := bytes_of (by rw [split_data])
        rw [← e1]
        exact hy
      gi_wp2
      refine hR.mono ?_
      rintro e w3 (⟨rfl, hJ4, hk4⟩ | ⟨rfl, hJx4, _⟩)
      · have L3 : SplitLaid w3 g s' c := ⟨hl.out.1.moves hk4 (fun h => h.1 rfl), hl.out.2.1.moves hk4 (fun h => h.2 (.inr (.inl rfl))), hl.out.2.2.moves hk4 (fun h => h.2 (.inr (.inr rfl)))⟩
        have x0 := L3.1.cell
        have x1 := L3.2.1.cell
        have x2 := L3.1.froz
        have HL3 := Lib.hid L3
        clear L3
        gi_wp2
        gi_roundg (s'.extract (j + 1) s'.size).size
        case measure => rw [ByteArray.size_extract]; omega
        case rel =>
          refine ⟨_, _, rfl, by rw [ByteArray.size_extract]; omega, HE, Lib.hid ⟨HL3.out.1.set _, ?_, ?_⟩, HJ.out _ _ _ _ _ hJ4 (Moves.setCell rfl) (fun k h => ⟨.inl h, by have h1 := HL3.out.1.lt; have h2 := (Moves.setCell (S := fun k => k = g) (w := w3) (a := ⟨g, 0, none⟩) (v := .string (s'.extract (j + 1) s'.size)) rfl).size; omega⟩)⟩
          · exact HL3.out.2.1.moves (Moves.setCell (S := fun k => k = g) rfl) (by omega)
          · exact HL3.out.2.2.moves (Moves.setCell (S := fun k => k = g) rfl) (by omega)
      · gi_wp2
        refine bodyPost_ret (results_none rfl _ _ _) rfl ?_
        exact ⟨⟨_, rfl⟩, _, .inr ⟨_, by rw [HE.out]; exact List.prefix_append _ _, hJx4⟩⟩
end Go.Proofs.YtnmhdcbpbaanoaaGreatDoor
namespace Go.Proofs.YtnmhdcbpbaanoaaGreatDoor
open Go.RowKit Go.Shelf Go.Maps
attribute [local go_sem] Oper.semAt_some

abbrev rdO (o : Option Addr) (n cap b : Nat) : Obj := .cells #[.slice o n cap, .map (some b)] 262 (0, 0)
abbrev encP (ns : List ByteArray) (t : List UInt8) : Array Value := #[.int .i64 (((valueL ns ⟨t.toArray⟩).getD 0 : Nat) : Int), .bool (valueL ns ⟨t.toArray⟩).isSome]
def itemsL (s : ByteArray) : List (List UInt8) := if s.data.toList = [] then [] else splitL 32 s.data.toList
theorem named_anyK (o : Option Addr) (n cap b : Nat) (s : ByteArray) (w : World) :
    Calls Tryz.prog 196 #[.agg #[.slice o n cap, .map (some b)], .string s] w fun e w' => e = .returned (.func (.func 199) #[] #[.pointer (some ⟨w.heap.size + 1, 0, none⟩), .pointer (some ⟨w.heap.size, 0, none⟩)]) ∧ (w.alloc (rdO o n cap b)).alloc (.cells #[.string s] 9) = w' := by
  go_enter Tryz.func196, Tryz.ntmps196
  go_wp2
  go_ret
  exact ⟨rfl, rfl⟩
theorem roundIn_inK {m : Nat} {P : Program} {l l2 : Nat} {f : FuncId} {tmps : Array Value} {assign body : Code} {w : World} {R : Ending → World → Prop}
    (h : RoundIn Fence.wide m P l f tmps assign body w R) : RoundIn (Fence.wide.inRound l2) m P l f tmps assign body w R := h
set_option maxRecDepth 100000 in
set_option maxHeartbeats 2000000 in
theorem seqNamed {R L b n cap : Nat} {o : Option Addr} {s : ByteArray} {ns : List ByteArray} {w : World} (hs : s.size ≤ 1000000) (hR : w.heap[R]? = some (rdO o n cap b)) (hL : w.heap[L]? = some (.cells #[.string s] 9 (0, 0))) (hV : ValsOf w b ns) :
    SeqOfX Tryz.prog 5 199 #[.pointer (some ⟨L, 0, none⟩), .pointer (some ⟨R, 0, none⟩)] (encP ns) (fun _ => False) (fun k => k = R ∨ k = L ∨ k = b) (itemsL s) w := by
  intro W l J Jx hm hJ hJx hY h0
  have h1 : 1 ≤ 5 := by omega
  have hRW := row_keep hR hm id
  have hLW := row_keep hL hm id
  have hVW : ValsOf W b ns := hV.row (hm.block _ hV.lt id)
  have c0 : W.cell? ⟨L, 0, none⟩ = some (.string s) := cell_of_row _ _ 0 _ _ _ hLW
  refine callsIn_of_wp_marks Tryz.func199 rfl trivial ?_ rfl
  simp only [Tryz.ntmps199, List.size_toArray, List.length_cons, List.length_nil, Nat.reduceAdd, Nat.reduceSub, Array.replicate_succ, Array.replicate_zero, List.push_toArray, List.append_toArray, List.nil_append, List.cons_append]
  have HJ := Lib.hid hJ
  have HJx := Lib.hid hJx
  have HY := Lib.hid hY
  have HS := Lib.hid hs
  have H0 := Lib.hid h0
  have hlR := (Array.getElem?_eq_some_iff.1 hRW).1
  have hlL := (Array.getElem?_eq_some_iff.1 hLW).1
  have hlb := hVW.lt
  have HR := Lib.hid hRW
  have HV := Lib.hid hVW
  clear hJ hJx hY hm hR hL hV hs h0 hRW hLW hVW
  by_cases hem : s.data.toList = []
  · have hit : itemsL s = [] := if_pos hem
    have hem1 : s.toList = [] := by rw [Lib.toList_data]; exact hem
    have hem2 : s.toList.isEmpty = true := by rw [hem1]; rfl
    have A0 : Below W.heap.size W (W.alloc (.cells #[.func (.yield l) #[] #[]] 269)) := (Below.refl _ _).alloc (Nat.le_refl _) _
    have hJ1 := HJ.out _ (fun _ => False) _ _ _ H0.out (Moves.of_below A0) (fun k h => h.elim)
    rw [hit] at *
    have HJ1 := Lib.hid hJ1
    clear hit hem A0 hJ1
    gi_wp2
    exact ⟨_, results_none rfl _ _ _, ⟨_, rfl⟩, _, .inl HJ1.out⟩
  · have hit : itemsL s = splitL 32 s.data.toList := if_neg hem
    have hem2 : s.toList.isEmpty = false := by
      rw [Lib.toList_data]
      cases hd : s.data.toList with
      | nil => exact absurd hd hem
      | cons _ _ => rfl
    have hem1 : ¬ s.toList = [] := by rw [Lib.toList_data]; exact hem
    have HIT := Lib.hid hit
    rw [hit]
    clear hit hem
    gi_wp2_with fail
    refine ⟨trivial, (callsIn_wide.2 (splitSeq_any s 32 _)).mono ?_⟩
    rintro e w2 ⟨rfl, b2, z2, SL⟩
    simp only [World.size_alloc] at b2 z2 SL ⊢
    have A0 : Below W.heap.size W (W.alloc (.cells #[.func (.yield l) #[] #[]] 269)) := (Below.refl _ _).alloc (Nat.le_refl _) _
    have Y0 : Boxed (W.alloc (.cells #[.func (.yield l) #[] #[]] 269)) W.heap.size 269 (.func (.yield l) #[] #[]) := Boxed.new _ _ _
    have b2' : Below (W.alloc (.cells #[.func (.yield l) #[] #[]] 269)).heap.size (W.alloc (.cells #[.func (.yield l) #[] #[]] 269)) w2 := by simpa using b2
    have Y2 : Boxed w2 W.heap.size 269 (.func (.yield l) #[] #[]) := row_below Y0 b2'
    have bW := A0.trans (b2'.mono A0.size)
    have R2 := row_below HR.out bW
    have V2 := HV.out.below bW
    clear A0 Y0 b2 b2'
    gi_wp2_with fail
    refine wpIn_seqX (n := 5) (Ow := fun k => k = W.heap.size + 1) (Dep := DepS (W.heap.size + 1)) (encs := encS) (all := splitL 32 s.data.toList) (by omega) rfl (enters_of Tryz.func202 (by kernel_rfl) rfl) (fun x => rfl) (seqSplitX HS.out SL)
      (fun k h => by omega) (fun k h => by rcases h with h | h | h <;> omega)
      (fun X pre A => ∃ Xo : Nat → Prop, J Xo pre A ∧ (∀ k, X k ∨ (W.heap.size ≤ k ∧ k < w2.heap.size) → Xo k) ∧ (∀ k, Xo k → k < A.heap.size) ∧ Boxed A W.heap.size 269 (.func (.yield l) #[] #[]) ∧ A.heap[R]? = some (rdO o n cap b) ∧ ValsOf A b ns ∧ ∀ k, X k → W.heap.size < k)
      (fun c X pre A => c = .ret ∧ ∃ Xo : Nat → Prop, Jx Xo pre A ∧ (∀ k, X k → Xo k) ∧ (∀ k, Xo k → k < A.heap.size)) ?hI ?hIx ?h0
      (fun _ x => { tmps := #[.func (.yield l) #[] #[], .pointer (some ⟨L, 0, none⟩), .pointer (some ⟨R, 0, none⟩), .pointer (some ⟨W.heap.size, 0, none⟩), strV x, undef, undef, .string s, .bool false, .string s, .func (.func 202) #[] (splitB (W.heap.size + 1)), strV x, undef, undef, undef, undef, undef, undef, undef, undef, undef, undef, undef, undef, undef], defers := [] })
      (fun A _ B => A = B) (fun A x B h => by rw [h]; exact Moves.refl _ _) ?assign ?body ?done ?stop
    case hI =>
      rintro X X' xs A C ⟨Xo, hj, hsub, hlt, hy, hr, hv, hne⟩ hm hX'
      have hz := hm.size
      have hly := hy.lt
      refine ⟨fun k => k < C.heap.size ∧ (Xo k ∨ A.heap.size ≤ k), HJ.out _ _ _ _ _ hj (hm.mono fun k h => hsub k (.inl h)) (fun k h => ⟨h.2, h.1⟩), ?_, fun k h => h.1, row_keep hy hm (fun h => by have := hne _ h; omega), row_keep hr hm (fun h => by have := hne _ h; omega), hv.row (hm.block _ hv.lt (fun h => by have := hne _ h; omega)), ?_⟩
      · rintro k (h | h)
        · exact ⟨(hX' k h).2, (hX' k h).1.imp (fun h => hsub k (.inl h)) id⟩
        · have := hlt k (hsub k (.inr h))
          exact ⟨by omega, .inl (hsub k (.inr h))⟩
      · intro k h
        rcases (hX' k h).1 with h | h
        · exact hne k h
        · omega
    case hIx =>
      rintro c X X' xs A C ⟨rfl, Xo, hj, hsub, hlt⟩ hm hX'
      exact ⟨rfl, fun k => k < C.heap.size ∧ (Xo k ∨ A.heap.size ≤ k), HJx.out _ _ _ _ _ hj (hm.mono fun k h => hsub k h) (fun k h => ⟨h.2, h.1⟩), fun k h => ⟨(hX' k h).2, (hX' k h).1.imp (hsub k) id⟩, fun k h => h.1⟩
    case h0 =>
      refine ⟨fun k => W.heap.size ≤ k ∧ k < w2.heap.size, HJ.out _ _ _ _ _ H0.out (Moves.of_below bW) (fun k h => ⟨.inr h.1, h.2⟩), ?_, fun k h => h.2, Y2, R2, V2, fun k h => by omega⟩
      rintro k (h | h) <;> omega
    case assign =>
      rintro l x A K hK
      gi_wp2
      rfl
    case body =>
      rintro l2 X pre x A A' W1 hA hpx hAB hm hXn hXn1 hXlt ⟨Xo, hj, hsub, hlt, hy, hr, hv, hne⟩
      have cy := hy.cell
      have r1 : W1.cell? ⟨R, 1, none⟩ = some (.map (some b)) := cell_of_row _ _ 1 _ _ _ hr
      obtain ⟨q, hq⟩ : ∃ q : ByteArray, (⟨x.toArray⟩ : ByteArray) = q := ⟨_, rfl⟩
      have hsv : strV x = .string q := by rw [← hq]
      have hqz : q.size ≤ maxLen := by
        have h1 := splitL_mem 32 s.data.toList x (hpx.subset (List.mem_append_right pre (List.mem_singleton.2 rfl)))
        have h4 : s.data.toList.length = s.size := by simp
        have h5 := HS.out
        rw [← hq, show (⟨x.toArray⟩ : ByteArray).size = x.length by simp [ByteArray.size]]
        unfold maxLen
        omega
      rw [hsv]
      obtain ⟨fn, tmps, assign, body, hyy, hR⟩ := yieldAt_any 2 (HY.out Xo pre x _ (by rw [HIT.out]; exact hpx) hj)
      obtain ⟨D, nn, v1, v2, v3, v4, v5, v6, v7⟩ := hv
      have hhas := v4 q
      obtain ⟨p, hp⟩ : ∃ p, (valueL ns q).getD 0 = p := ⟨_, rfl⟩
      obtain ⟨ok, hok⟩ : ∃ ok, (valueL ns q).isSome = ok := ⟨_, rfl⟩
      rw [hok] at hhas
      have HAT := Lib.hid (fun (c : Int) (hat : D.atKey (.string q.data.toList) (.lit (.int .i64 0)) = .lit (.int .i64 c)) => (show ((p : Nat) : Int) = c from by
        cases hv2 : valueL ns q with
        | some u =>
          have := v5 q u hv2
          rw [this] at hat
          injection hat with h; injection h with _ h
          rw [hv2] at hp
          have hp2 : u = p := hp
          omega
        | none =>
          rw [hv2] at hp hok
          have hp2 : 0 = p := hp
          have hok2 : false = ok := hok
          rw [atKey_of_not_has (by rw [hhas, ← hok2])] at hat
          injection hat with h; injection h with _ h
          omega))
      replace hyy : (Instr.yield l #[.int .i64 (p : Nat), .bool ok]).run Tryz.prog W1 = .ok (.round l fn tmps assign body) W1 := by
        rw [← hp, ← hok, ← hq]
        exact hyy
      have hR2 := roundIn_inK (l2 := l2) hR
      have HRR := Lib.hid hR2
      have HO := Lib.hid v1
      have HQZ := Lib.hid hqz
      have HNE := Lib.hid hne
      have HSUB := Lib.hid hsub
      have HLT := Lib.hid hlt
      have HYB := Lib.hid hy
      have HRB := Lib.hid hr
      have HVB : Hid (ValsOf W1 b ns) := Lib.hid ⟨D, nn, v1, v2, v3, v4, v5, v6, v7⟩
      have hXoY : Hid (Xo W.heap.size) := Lib.hid (hsub _ (.inr ⟨Nat.le_refl _, by omega⟩))
      clear hR hR2 hne hsub hlt hj hpx hq hsv hqz hp hok v1 v2 v3 v4 v5 v6 v7 hy hr
      gi_wp2_with (gi_at_lookup; refine wpListIn_lookup_own_ok_int _ rfl _ _ 155 rfl 9 3 .i64 keyStr Tryz.underlying155 Tryz.underlying3 (zeroInt _) b nn _ rfl HO.out _ _ rfl (WideMaps.keyOf_string_mk Tryz.underlying9 HQZ.out) ?_; intro c hat hwc; obtain rfl := HAT.out c hat; clear hat hwc)
      refine HRR.out.mono ?_
      have hfin : ∀ W3, Moves (fun k => ¬ Xo k ∧ ¬ (k = R ∨ k = L ∨ k = b)) W1 W3 → Moves (fun k => ¬ X k ∧ ¬ DepS (W.heap.size + 1) k) W1 W3 := fun W3 h => h.mono fun k e => ⟨fun h => e.1 (HSUB.out k (.inl h)), fun h => e.1 (HSUB.out k (.inr (by rcases h with h | h | h <;> omega)))⟩
      rintro e W3 (⟨rfl, hJ4, hk4⟩ | ⟨rfl, hJx4, hk4⟩)
      · gi_wp2
        refine ⟨hfin _ hk4, Xo, hJ4, HSUB.out, ?_, row_keep HYB.out hk4 (fun h => h.1 hXoY.out), row_keep HRB.out hk4 (fun h => h.2 (.inl rfl)), HVB.out.row (hk4.block _ HVB.out.lt (fun h => h.2 (.inr (.inr rfl)))), HNE.out⟩
        intro k h; have := HLT.out k h; have := hk4.size; omega
      · gi_wp2
        refine ⟨hfin _ hk4, rfl, Xo, hJx4, fun k h => HSUB.out k (.inl h), ?_⟩
        intro k h; have := HLT.out k h; have := hk4.size; omega
    case done =>
      rintro X D W1 hD hXD ⟨Xo, hj, hsub, hlt, hy, hr, hv, hne⟩ hX hK
      have hj2 := HJ.out _ Xo _ _ _ hj (Moves.putObj (w := W1) (o := .deferred none) (hsub D (.inl hXD))) (fun k h => ⟨.inl h, by rw [World.putObj_size]; exact hlt k h⟩)
      have HJ2 := Lib.hid hj2
      clear hj hj2 hsub hlt hne hX
      gi_wp2
      refine ⟨by simp, .inl ⟨_, _, rfl, run_takeDeferred hK, ?_⟩⟩
      exact ⟨_, results_none rfl _ _ _, ⟨_, rfl⟩, Xo, .inl HJ2.out⟩
    case stop =>
      rintro X D c pre W1 hD hXD hpre ⟨rfl, Xo, hj, hsub, hlt⟩ hX hK
      have hj2 := HJx.out _ Xo _ _ _ hj (Moves.putObj (w := W1) (o := .deferred none) (hsub D hXD)) (fun k h => ⟨.inl h, by rw [World.putObj_size]; exact hlt k h⟩)
      have HJ2 := Lib.hid hj2
      clear hj hj2 hsub hlt hX
      gi_wp2
      refine ⟨by simp, .inl ⟨_, _, rfl, run_takeDeferred hK, ?_⟩⟩
      exact ⟨_, results_none rfl _ _ _, ⟨_, rfl⟩, Xo, .inr ⟨_, hpre, HJ2.out⟩⟩
end Go.Proofs.YtnmhdcbpbaanoaaGreatDoor
