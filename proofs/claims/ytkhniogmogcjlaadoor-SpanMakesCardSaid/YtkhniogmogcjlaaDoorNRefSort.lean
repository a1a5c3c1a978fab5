/- The document's own Sort, of ranges. -/
import Derived.Test.YtkhniogmogcjlaaDoorNRefPut
import Derived.Test.YtkhniogmogcjlaaDoorNLawMath
namespace Go.Proofs.YtkhniogmogcjlaaDoor
open Go.RowKit Go.Shelf Go.Maps
attribute [local go_sem] Oper.semAt_some

theorem takeWhile_same {α : Type} {p q : α → Bool} : ∀ {l : List α}, (∀ x ∈ l, p x = q x) → l.takeWhile p = l.takeWhile q
  | [], _ => rfl
  | x :: l, h => by
    rw [List.takeWhile_cons, List.takeWhile_cons, h x List.mem_cons_self, takeWhile_same fun y hy => h y (List.mem_cons_of_mem _ hy)]
theorem spot_reach {m : List Rng} {x : Rng} (hm : mapL m) (hx : okR x) (hno : ¬ lapL m x) : spotL m x = reachL m x.1 := by
  unfold spotL reachL
  rw [takeWhile_same fun y hy => ?_]
  have hy2 := hm.1 y hy
  have h1 : ¬ (y.1 ≤ x.2.1 ∧ x.1 ≤ y.2.1) := fun h => hno ⟨y, hy, h⟩
  unfold okR at hx hy2
  by_cases h : y.1 < x.1
  · rw [decide_eq_true h, decide_eq_true (show y.2.1 < x.1 by omega)]
  · rw [decide_eq_false h, decide_eq_false (show ¬ y.2.1 < x.1 by omega)]
theorem put_spot {m : List Rng} {x : Rng} (hm : mapL m) (hx : okR x) (hno : ¬ lapL m x) : mapL (insAt m (spotL m x) x) ∧ (insAt m (spotL m x) x).Perm (x :: m) := by
  rw [spot_reach hm hx hno]
  exact put_map hm hx hno
/-- What the document's own Sort answers. -/
def SortQ (l : List Rng) (w : World) (e : Ending) (w' : World) : Prop :=
  Below w.heap.size w w' ∧ ((∃ i : Nat, chkL l = some i ∧ e = .returned (.tuple #[.slice none 0 0, .int .i64 (i : Nat), .int .i64 22])) ∨
    (chkL l = none ∧ ∃ (i : Nat) (x : Rng) (m : List Rng), l[i]? = some x ∧ mapL m ∧ m.Perm (l.take i) ∧ lapL m x ∧ e = .returned (.tuple #[.slice none 0 0, .int .i64 (i : Nat), .int .i64 30])) ∨
    (chkL l = none ∧ ∃ (m : List Rng) (o : Option Addr) (cap : Nat), mapL m ∧ m.Perm l ∧ e = .returned (.tuple #[.slice o m.length cap, .int .i64 0, .int .i64 0]) ∧ AtR w' o m))
theorem lap_first {l m m' : List Rng} {i j : Nat} {x y : Rng} (hx : l[i]? = some x) (hy : l[j]? = some y) (hm : mapL m) (hp : m.Perm (l.take i)) (hl : lapL m x) (hm' : mapL m') (hp' : m'.Perm (l.take j)) (hl' : lapL m' y) : i = j := by
  have key : ∀ {i j : Nat} {x y : Rng} {m m' : List Rng}, i < j → l[i]? = some x → l[j]? = some y → m.Perm (l.take i) → lapL m x → mapL m' → m'.Perm (l.take j) → False := by
    intro i j x y m m' hij hx hy hp hl hm' hp'
    refine lap_not (l := l.take j) (i := i) hm' hp' (x := x) ?_ (m := m) ?_ hl
    · rw [List.getElem?_take_of_lt hij]; exact hx
    · rw [List.take_take, Nat.min_eq_left (by omega)]; exact hp
  rcases Nat.lt_trichotomy i j with h | h | h
  · exact (key h hx hy hp hl hm' hp').elim
  · exact h
  · exact (key h hy hx hp' hl' hm hp).elim
theorem takeSnoc_perm {l m : List Rng} {j : Nat} {x : Rng} {a : List Rng} (hx : l[j]? = some x) (hp : m.Perm (l.take j)) (ha : a.Perm (x :: m)) : a.Perm (l.take (j + 1)) := by
  rw [List.take_add_one, hx]
  refine ha.trans ((List.Perm.cons x hp).trans ?_)
  show ([x] ++ l.take j).Perm (l.take j ++ [x])
  exact List.perm_append_comm
set_option maxRecDepth 100000 in
set_option maxHeartbeats 4000000 in
theorem refSort_any (o : Option Addr) (l : List Rng) (cap : Nat) (hn : l.length ≤ 600) (w : World) (hA : AtR w o l) :
    Calls Tryd.prog 21 #[.slice o l.length cap] w (SortQ l w) := by
  obtain ⟨n, hnn⟩ : ∃ n, l.length = n := ⟨_, rfl⟩
  rw [hnn] at hn ⊢
  have HN := Lib.hid hnn
  have HA := Lib.hid hA
  obtain ⟨P, hP⟩ : ∃ P, SortQ l w = P := ⟨_, rfl⟩
  have HP := Lib.hid hP
  rw [hP]
  clear hP hA hnn
  go_enter Tryd.func21, Tryd.ntmps21
  go_wp2_with fail
  go_loopg [5] n (fun k v wr => ∃ (j : Nat), v = .int .i64 (j : Nat) ∧ j ≤ n ∧ k = n - j ∧ Hid (∀ y ∈ l.take j, okR y) ∧ Hid (Below w.heap.size w wr))
  case atStart => exact ⟨0, rfl, Nat.zero_le _, rfl, Lib.hid (fun y hy => by simp at hy), Lib.hid (Below.refl _ _)⟩
  case round =>
    obtain ⟨j, rfl, hj, rfl, HI, HB⟩ := hrel
    rcases Nat.lt_or_ge j n with hlt | hge
    · have hj1 : j < 1000000 := by omega
      obtain ⟨x, hx⟩ : ∃ x, l[j]? = some x := ⟨_, List.getElem?_eq_getElem (by rw [HN.out]; exact hlt)⟩
      obtain ⟨g, off, rfl, hc⟩ := (HA.out.below HB.out) (by rw [HN.out]; omega)
      obtain ⟨k0, k1, k2⟩ := hc j x hx
      have hg := World.block_lt_of_cell? wr _ k0
      have HX := Lib.hid hx
      have H1 := Lib.hid (one_any x wr)
      by_cases hok : okR x
      · have HI2 := Lib.hid (right_take HX.out HI.out hok)
        rw [decide_eq_true hok] at H1
        obtain ⟨a, b, v⟩ := x
        simp only at k0 k1 k2
        clear hc hx hok
        go_wp2_with fail
        refine H1.out.mono ?_
        rintro e wn ⟨rfl, hwn⟩
        have HB2 := Lib.hid (HB.out.trans ((show Below wr.heap.size wr wn from by rw [← hwn]; exact (Below.refl _ _).alloc (Nat.le_refl _) _).mono HB.out.size))
        clear hwn H1
        go_wp2
        go_roundg (n - (j + 1))
        case measure => omega
        case rel => exact ⟨j + 1, by simp, by omega, rfl, HI2, HB2⟩
      · have HPP : ∀ W, Below w.heap.size w W → Hid (P (.returned (.tuple #[.slice none 0 0, .int .i64 (j : Nat), .int .i64 22])) W) := fun W hb => by
          rw [← HP.out]
          refine Lib.hid ⟨hb, .inl ⟨j, ?_, rfl⟩⟩
          unfold chkL
          rw [badAt_some HX.out HI.out hok]
        rw [decide_eq_false hok] at H1
        obtain ⟨a, b, v⟩ := x
        simp only at k0 k1 k2
        clear hc hx hok
        go_wp2_with fail
        refine H1.out.mono ?_
        rintro e wn ⟨rfl, hwn⟩
        have HQ := HPP wn (HB.out.trans ((show Below wr.heap.size wr wn from by rw [← hwn]; exact (Below.refl _ _).alloc (Nat.le_refl _) _).mono HB.out.size))
        clear hwn H1 HPP
        go_wp2
        go_ret3
        exact HQ.out
    · obtain rfl : j = n := by omega
      have hall : ∀ y ∈ l, okR y := by
        have h := HI.out
        rwa [List.take_of_length_le (by rw [HN.out]; exact Nat.le_refl _)] at h
      have HCK : Hid (chkL l = none) := Lib.hid (chk_ok.2 ⟨hall, by rw [HN.out]; exact hn⟩)
      have HALL := Lib.hid hall
      clear hall HI
      have hn6 : ¬ 600 < j := by omega
      go_wp2_with fail
      clear hge
      go_loopg [6, 7] j (fun k s v wr2 => ∃ (i : Nat) (m : List Rng) (mo : Option Addr) (mc : Nat), s = .slice mo m.length mc ∧ v = .int .i64 (i : Nat) ∧ i ≤ j ∧ k = j - i ∧ Hid (mapL m) ∧ Hid (m.Perm (l.take i)) ∧ Hid (AtR wr2 mo m) ∧ Hid ((mo = none ∧ m = []) ∨ ∃ g, mo = some ⟨g, 0, none⟩) ∧ Hid (m.length ≤ mc) ∧ Hid (Below w.heap.size w wr2))
      case atStart => exact ⟨0, [], none, 0, rfl, rfl, Nat.zero_le _, rfl, Lib.hid ⟨fun x hx => by simp at hx, List.Pairwise.nil⟩, Lib.hid (by simp), Lib.hid (fun h => absurd h (Nat.not_lt_zero _)), Lib.hid (.inl ⟨rfl, rfl⟩), Lib.hid (Nat.le_refl _), HB⟩
      case round =>
        clear HB
        obtain ⟨wr2, rfl⟩ : ∃ W, W = wr := ⟨_, rfl⟩
        obtain ⟨i, m, mo, mc, rfl, rfl, hi, rfl, HM, HPM, HAM, HFM, HCM, HB⟩ := hrel
        obtain ⟨mn, hmn⟩ : ∃ n, m.length = n := ⟨_, rfl⟩
        have HMN := Lib.hid hmn
        rw [hmn]
        clear hmn
        rcases Nat.lt_or_ge i j with hlt | hge
        · have hj1 : i < 1000000 := by omega
          obtain ⟨x, hx⟩ : ∃ x, l[i]? = some x := ⟨_, List.getElem?_eq_getElem (by rw [HN.out]; exact hlt)⟩
          obtain ⟨g, off, rfl, hc⟩ := (HA.out.below HB.out) (by rw [HN.out]; omega)
          obtain ⟨k0, k1, k2⟩ := hc i x hx
          have hg := World.block_lt_of_cell? wr2 _ k0
          have HX := Lib.hid hx
          have HC := Lib.hid hc
          obtain ⟨a, b, v⟩ := x
          simp only at k0 k1 k2
          clear hc hx
          go_wp2_with fail
          go_loopg [8] i (fun k v wr3 => ∃ (p q : Nat), v = .int .i64 (p : Nat) ∧ p ≤ i ∧ k = i - p ∧ Hid (∀ p' y, p' < p → l[p']? = some y → ¬ (y.1 ≤ b ∧ a ≤ y.2.1)) ∧ wr3 = wr2.drewN q)
          case atStart => exact ⟨0, 0, rfl, Nat.zero_le _, rfl, Lib.hid (fun p' y h => by omega), rfl⟩
          case round =>
            obtain ⟨p, q, rfl, hp, rfl, HL, rfl⟩ := hrel
            rcases Nat.lt_or_ge p i with hlt2 | hge2
            · have hp1 : p < 1000000 := by omega
              have hpj : p < j := by omega
              obtain ⟨y, hy⟩ : ∃ y, l[p]? = some y := ⟨_, List.getElem?_eq_getElem (by rw [HN.out]; exact hpj)⟩
              obtain ⟨m0, m1, m2⟩ := HC.out p y hy
              have NEXT : ¬ (y.1 ≤ b ∧ a ≤ y.2.1) → Hid (∀ p' y, p' < p + 1 → l[p']? = some y → ¬ (y.1 ≤ b ∧ a ≤ y.2.1)) := fun h => Lib.hid fun p' z hp' hz => by
                rcases Nat.lt_or_ge p' p with h3 | h3
                · exact HL.out p' z h3 hz
                · obtain rfl : p' = p := by omega
                  rw [hy] at hz
                  cases hz
                  exact h
              have LAP : (y.1 ≤ b ∧ a ≤ y.2.1) → ∀ q, Hid (P (.returned (.tuple #[.slice none 0 0, .int .i64 (i : Nat), .int .i64 30])) (wr2.drewN q)) := fun h q => by
                rw [← HP.out]
                refine Lib.hid ⟨HB.out.trans ((below_drewN1 wr2 q).mono HB.out.size), .inr (.inl ⟨HCK.out, i, (a, b, v), m, HX.out, HM.out, HPM.out, ⟨y, ?_, h⟩, rfl⟩)⟩
                refine HPM.out.mem_iff.2 (List.mem_take_iff_getElem.2 ⟨p, ?_, ?_⟩)
                · have := (List.getElem?_eq_some_iff.1 hy).1; omega
                · exact (List.getElem?_eq_some_iff.1 hy).2
              obtain ⟨ya, yb, yv⟩ := y
              simp only at m0 m1 m2 NEXT LAP
              clear hy
              by_cases h1 : a ≤ yb
              · by_cases h2 : ya ≤ b
                · have LP := LAP ⟨h2, h1⟩
                  clear LAP NEXT
                  go_wp2_with fail
                  go_quiet (fail)
                  go_wp2
                  rw [World.drewN_drewN]
                  go_ret3
                  exact (LP _).out
                · have NX := NEXT (fun h => h2 h.1)
                  have hb2 : decide (ya ≤ b) = false := decide_eq_false h2
                  clear LAP NEXT
                  go_wp2_with fail
                  go_quiet (fail)
                  go_wp2
                  go_roundg (i - (p + 1))
                  case measure => omega
                  case rel => exact ⟨p + 1, q + nq, by simp, by omega, rfl, NX, rfl⟩
              · have NX := NEXT (fun h => h1 h.2)
                have hb1 : decide (a ≤ yb) = false := decide_eq_false h1
                clear LAP NEXT
                go_wp2_with fail
                go_quiet (fail)
                go_wp2
                go_roundg (i - (p + 1))
                case measure => omega
                case rel => exact ⟨p + 1, q + nq, by simp, by omega, rfl, NX, rfl⟩
            · obtain rfl : p = i := by omega
              have hno : ¬ lapL m (a, b, v) := fun ⟨y, hy, h⟩ => by
                obtain ⟨p', hp', hy'⟩ := List.mem_take_iff_getElem.1 (HPM.out.mem_iff.1 hy)
                exact HL.out p' y (by omega) (by rw [← hy']; exact List.getElem?_eq_getElem _) h
              have hoks := HALL.out (a, b, v) (List.mem_of_getElem? HX.out)
              obtain ⟨ps1, ps2⟩ := put_spot HM.out hoks hno
              have ps3 := takeSnoc_perm HX.out HPM.out ps2
              obtain ⟨W, hW⟩ : ∃ W, wr2.drewN q = W := ⟨_, rfl⟩
              have BW : Below wr2.heap.size wr2 W := by rw [← hW]; exact below_drewN1 _ _
              have hml : m.length ≤ 9000 := by rw [HPM.out.length_eq, List.length_take, HN.out]; omega
              have PT := Lib.hid (refPut_any (a, b, v) hml HCM.out HFM.out W (HAM.out.below BW))
              rw [HMN.out] at PT
              have BW2 := Lib.hid (HB.out.trans (BW.mono HB.out.size))
              have PS1 := Lib.hid ps1
              have PS3 := Lib.hid ps3
              have t0 := cell_keep BW k0
              have t1 := cell_keep BW k1
              have t2 := cell_keep BW k2
              have tg : g < W.heap.size := Nat.lt_of_lt_of_le hg BW.size
              rw [hW]
              clear hW BW hml ps1 ps2 ps3 hno hoks k0 k1 k2
              go_wp2_with fail
              refine PT.out.mono ?_
              rintro e w5 ⟨o', cap', rfl, own5, b5⟩
              obtain ⟨g5, c5, hv⟩ := ownsRow_succ own5
              obtain ⟨rfl, rfl⟩ : o' = some ⟨g5, 0, none⟩ ∧ cap' = c5 := by simpa using hv
              have hlen : (insAt m (spotL m (a, b, v)) (a, b, v)).length = mn + 1 := by rw [insAt_length (spot_le m _), HMN.out]
              rw [← hlen] at own5
              have AT5 := Lib.hid (at_own own5)
              have CP5 := Lib.hid (own_capR own5)
              have B5 := Lib.hid (BW2.out.trans (b5.mono BW2.out.size))
              have HLN := Lib.hid hlen
              clear own5 b5 hv hlen PT
              go_wp2
              go_roundg (j - (p + 1))
              case measure => omega
              case rel => exact ⟨p + 1, _, some ⟨g5, 0, none⟩, cap', by rw [HLN.out], by simp, by omega, rfl, PS1, PS3, AT5, Lib.hid (.inr ⟨g5, rfl⟩), CP5, B5⟩
        · obtain rfl : i = j := by omega
          have HPP : Hid (P (.returned (.tuple #[.slice mo mn mc, .int .i64 0, .int .i64 0])) wr2) := by
            rw [← HP.out, ← HMN.out]
            have h := HPM.out
            rw [List.take_of_length_le (by rw [HN.out]; exact Nat.le_refl _)] at h
            exact Lib.hid ⟨HB.out, .inr (.inr ⟨HCK.out, m, mo, mc, HM.out, h, rfl, HAM.out⟩)⟩
          go_wp2_with fail
          go_ret3
          exact HPP.out
end Go.Proofs.YtkhniogmogcjlaaDoor
