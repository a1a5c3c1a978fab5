/- Plain laws for the document's ownN Tight and Over: what is laid range by range, stretch by stretch. The document's ownN Tight, of ranges. The document's ownN put: a range, where it belongs. The document's ownN Sort, of ranges. Few: forty ranges at most. -/
import Derived.Test.YtfgnpdfdncnbfaaGreatDoorBunN18
import Derived.Test.YtfgnpdfdncnbfaaGreatDoorBunN21
import Derived.Test.YtfgnpdfdncnbfaaGreatDoorBunN4
namespace Go.Proofs.YtfgnpdfdncnbfaaGreatDoor

theorem isLay_nil (ls : List (List Rng)) (h : ∀ r, saidL ls r = none) : isLay ls [] := ⟨⟨fun x hx => by simp at hx, List.Pairwise.nil⟩, fun i x y hx => by simp at hx, fun r => (h r).symm⟩
/-- One range more, behind a map that has been laid. -/
theorem tight_snoc {a m : List Rng} {x : Rng} (h : isLay [a] m) (hm : mapL (a ++ [x])) : isLay [a ++ [x]] (joinL m x) := by
  obtain ⟨ha, hx, hlt⟩ := mapL_snoc.1 hm
  have hx' := hx
  unfold okR at hx
  have hsaid : ∀ r, saidL [a ++ [x]] r = (findL a r).or (findL [x] r) := fun r => by
    simp only [saidL, Option.none_or, findL_append]
  have hf : ∀ r, findL m r = findL a r := fun r => lay_says1 h r
  have key : LayUpto [a ++ [x]] m x.1 := by
    refine ⟨h.1, h.2.1, fun y hy => ?_, fun r => ?_⟩
    · have hyo := h.1.1 y hy
      unfold okR at hyo
      have h1 := find_mem h.1 hy (r := y.2.1) (by omega) (Int.le_refl _)
      rw [hf] at h1
      obtain ⟨z, hz, _, h3, _⟩ := findL_some h1
      have := hlt z hz
      omega
    · rw [hf, hsaid]
      by_cases hr : r < x.1
      · rw [if_pos hr, findL_none' (l := [x]) (fun z hz => by rw [List.mem_singleton.1 hz]; omega)]
        simp
      · rw [if_neg hr]
        exact findL_none' fun z hz => by have := hlt z hz; omega
  have hs : saidL [a ++ [x]] x.1 = some x.2.2 := by
    rw [hsaid, findL_none' (l := a) (fun z hz => by have := hlt z hz; omega)]
    show findL [x] x.1 = _
    unfold findL
    rw [if_pos ⟨Int.le_refl _, by omega⟩]
  have hmem : ∀ t ∈ turnsL [a ++ [x]], t ≤ x.1 ∨ t = x.2.1 + 1 := by
    intro t ht
    unfold turnsL turnsOf at ht
    simp only [List.flatMap_cons, List.flatMap_nil, List.append_nil, List.flatMap_append, List.mem_append, List.mem_flatMap, List.mem_cons, List.not_mem_nil, or_false] at ht
    rcases ht with ⟨z, hz, h1⟩ | h1
    · have h2 := hlt z hz
      have h3 := ha.1 z hz
      unfold okR at h3
      omega
    · omega
  have h2 := key.step (q := x.2.1 + 1) (fun b hb y hy => by rw [List.mem_singleton.1 hb] at hy; exact hm.1 y hy) (by omega) (fun t ht => by have := hmem t ht; omega)
  unfold layStep at h2
  rw [hs] at h2
  simp only [Int.add_sub_cancel] at h2
  exact h2.all fun t ht => by have := hmem t ht; omega
theorem joinL_le (m : List Rng) (x : Rng) (n : Nat) (h : m.length ≤ n) : (joinL m x).length ≤ n + 1 := by
  have := joinL_length m x
  omega

/-- The last number up to which nothing turns. -/
def nextStep (r n : Int) (x : Rng) : Int :=
  let n1 := if r < x.1 then min n (x.1 - 1) else n
  if r ≤ x.2.1 then min n1 x.2.1 else n1
def nextL (l : List Rng) (r : Int) : Int := l.foldl (nextStep r) 1114111
theorem nextStep_le (r n : Int) (x : Rng) : nextStep r n x ≤ n := by
  unfold nextStep
  simp only
  split <;> split <;> omega
theorem next_spec (r : Int) : ∀ (l : List Rng) (n : Int), let q := l.foldl (nextStep r) n
    q ≤ n ∧ (∀ x ∈ l, (r < x.1 → q ≤ x.1 - 1) ∧ (r ≤ x.2.1 → q ≤ x.2.1)) ∧ (q = n ∨ ∃ x ∈ l, (r < x.1 ∧ q = x.1 - 1) ∨ (r ≤ x.2.1 ∧ q = x.2.1))
  | [], n => ⟨Int.le_refl _, fun x hx => by simp at hx, .inl rfl⟩
  | y :: l, n => by
    obtain ⟨h1, h2, h3⟩ := next_spec r l (nextStep r n y)
    have hle := nextStep_le r n y
    have hy : (r < y.1 → nextStep r n y ≤ y.1 - 1) ∧ (r ≤ y.2.1 → nextStep r n y ≤ y.2.1) ∧ (nextStep r n y = n ∨ (r < y.1 ∧ nextStep r n y = y.1 - 1) ∨ (r ≤ y.2.1 ∧ nextStep r n y = y.2.1)) := by
      unfold nextStep
      simp only
      split <;> split <;> omega
    simp only [List.foldl_cons]
    refine ⟨by omega, fun x hx => ?_, ?_⟩
    · rcases List.mem_cons.1 hx with rfl | hx
      · exact ⟨fun h => by have := hy.1 h; omega, fun h => by have := hy.2.1 h; omega⟩
      · exact h2 x hx
    · rcases h3 with h3 | ⟨x, hx, h3⟩
      · rcases hy.2.2 with h4 | h4
        · exact .inl (h3.trans h4)
        · exact .inr ⟨y, List.mem_cons_self, by rw [h3]; exact h4⟩
      · exact .inr ⟨x, List.mem_cons_of_mem _ hx, h3⟩
/-- What Over's round needs of it. -/
theorem next_turn {a b : List Rng} {r : Int} (ha : mapL a) (hb : mapL b) (h0 : 0 ≤ r) (hr : r ≤ 1114111) :
    r ≤ nextL (a ++ b) r ∧ nextL (a ++ b) r ≤ 1114111 ∧ (∀ t ∈ turnsL [a, b], ¬ (r < t ∧ t < nextL (a ++ b) r + 1)) ∧ (∀ v, saidL [a, b] r = some v → nextL (a ++ b) r + 1 ∈ turnsL [a, b]) := by
  have hok : ∀ x ∈ a ++ b, okR x := fun x hx => by
    rcases List.mem_append.1 hx with h | h
    · exact ha.1 x h
    · exact hb.1 x h
  have ht : ∀ t, t ∈ turnsL [a, b] ↔ ∃ x ∈ a ++ b, t = x.1 ∨ t = x.2.1 + 1 := fun t => by
    unfold turnsL turnsOf
    simp only [List.flatMap_cons, List.flatMap_nil, List.append_nil, List.mem_append, List.mem_flatMap, List.mem_cons, List.not_mem_nil, or_false]
    constructor
    · rintro (⟨x, hx, h⟩ | ⟨x, hx, h⟩)
      · exact ⟨x, .inl hx, h⟩
      · exact ⟨x, .inr hx, h⟩
    · rintro ⟨x, hx | hx, h⟩
      · exact .inl ⟨x, hx, h⟩
      · exact .inr ⟨x, hx, h⟩
  obtain ⟨h1, h2, h3⟩ := next_spec r (a ++ b) 1114111
  change nextL (a ++ b) r ≤ 1114111 at h1
  change ∀ x ∈ a ++ b, (r < x.1 → nextL (a ++ b) r ≤ x.1 - 1) ∧ (r ≤ x.2.1 → nextL (a ++ b) r ≤ x.2.1) at h2
  change nextL (a ++ b) r = 1114111 ∨ ∃ x ∈ a ++ b, (r < x.1 ∧ nextL (a ++ b) r = x.1 - 1) ∨ (r ≤ x.2.1 ∧ nextL (a ++ b) r = x.2.1) at h3
  refine ⟨?_, h1, ?_, ?_⟩
  · rcases h3 with h | ⟨x, hx, h⟩ <;> omega
  · rintro t htm ⟨h4, h5⟩
    obtain ⟨x, hx, rfl | rfl⟩ := (ht t).1 htm
    · have := (h2 x hx).1 h4; omega
    · have := (h2 x hx).2 (by omega); omega
  · intro v hv
    obtain ⟨l, hl, x, hx, k1, k2, _⟩ := saidL_some hv
    have hxm : x ∈ a ++ b := by
      rcases List.mem_cons.1 hl with rfl | hl
      · exact List.mem_append_left _ hx
      · rw [List.mem_singleton.1 hl] at hx; exact List.mem_append_right _ hx
    have hxo := hok x hxm
    unfold okR at hxo
    have h6 := (h2 x hxm).2 k2
    rw [ht]
    rcases h3 with h | ⟨y, hy, h | h⟩
    · exact ⟨x, hxm, .inr (by omega)⟩
    · exact ⟨y, hy, .inl (by omega)⟩
    · exact ⟨y, hy, .inr (by omega)⟩
/-- How many turns lie at r or below it. -/
def below (ls : List (List Rng)) (r : Int) : Nat := (turnsL ls).countP fun t => decide (t ≤ r)
theorem below_le (ls : List (List Rng)) (r : Int) : below ls r ≤ (turnsL ls).length := List.countP_le_length
theorem below_mono (ls : List (List Rng)) {r q : Int} (h : r ≤ q) : below ls r ≤ below ls q := by
  unfold below
  exact List.countP_mono_left fun t _ h1 => by simp only [decide_eq_true_eq] at h1 ⊢; omega
theorem countP_more {T : List Int} {r q : Int} (h : r < q) (hq : q ∈ T) : T.countP (fun t => decide (t ≤ r)) + 1 ≤ T.countP (fun t => decide (t ≤ q)) := by
  induction T with
  | nil => simp at hq
  | cons t T ih =>
    have hm : T.countP (fun t => decide (t ≤ r)) ≤ T.countP (fun t => decide (t ≤ q)) := List.countP_mono_left fun t _ h1 => by simp only [decide_eq_true_eq] at h1 ⊢; omega
    rw [List.countP_cons, List.countP_cons]
    rcases List.mem_cons.1 hq with rfl | hq
    · rw [if_neg (by simp; omega), if_pos (by simp)]; omega
    · have := ih hq
      by_cases h1 : t ≤ r
      · rw [if_pos (by simpa using h1), if_pos (by simp; omega)]; omega
      · rw [if_neg (by simpa using h1)]; omega
theorem below_more {ls : List (List Rng)} {r q : Int} (h : r < q) (hq : q ∈ turnsL ls) : below ls r + 1 ≤ below ls q := countP_more h hq
/-- What holds between two rounds of Over. -/
structure OverAt (a b : List Rng) (m : List Rng) (r : Int) : Prop where
  upto : LayUpto [a, b] m r
  len : m.length ≤ below [a, b] r
  pos : 0 ≤ r
  le : r ≤ 1114112
theorem OverAt.begin {a b : List Rng} (ha : mapL a) (hb : mapL b) : OverAt a b [] 0 := by
  refine ⟨LayUpto.none fun t ht => ?_, Nat.zero_le _, Int.le_refl _, by omega⟩
  unfold turnsL turnsOf at ht
  simp only [List.flatMap_cons, List.flatMap_nil, List.append_nil, List.mem_append, List.mem_flatMap, List.mem_cons, List.not_mem_nil, or_false] at ht
  rcases ht with ⟨x, hx, h⟩ | ⟨x, hx, h⟩
  · have := ha.1 x hx; unfold okR at this; omega
  · have := hb.1 x hx; unfold okR at this; omega
theorem OverAt.next {a b m : List Rng} {r : Int} (h : OverAt a b m r) (ha : mapL a) (hb : mapL b) (hr : r ≤ 1114111) :
    OverAt a b (layStep [a, b] r (nextL (a ++ b) r + 1) m) (nextL (a ++ b) r + 1) := by
  obtain ⟨n1, n2, n3, n4⟩ := next_turn (r := r) ha hb h.pos hr
  have hp := h.pos
  refine ⟨h.upto.step (fun l hl x hx => ?_) (by omega) n3, ?_, by omega, by omega⟩
  · rcases List.mem_cons.1 hl with rfl | hl
    · exact ha.1 x hx
    · rw [List.mem_singleton.1 hl] at hx; exact hb.1 x hx
  · have hl := h.len
    unfold layStep
    cases hs : saidL [a, b] r with
    | none => exact Nat.le_trans hl (below_mono _ (by omega))
    | some v =>
      have h1 := joinL_length m (r, nextL (a ++ b) r + 1 - 1, v)
      have h2 := below_more (ls := [a, b]) (r := r) (by omega) (n4 v hs)
      simp only
      omega
theorem OverAt.all {a b m : List Rng} {r : Int} (h : OverAt a b m r) (ha : mapL a) (hb : mapL b) (hr : 1114111 < r) : isLay [a, b] m ∧ m.length ≤ (turnsL [a, b]).length := by
  refine ⟨h.upto.all fun t ht => ?_, Nat.le_trans h.len (below_le _ _)⟩
  unfold turnsL turnsOf at ht
  simp only [List.flatMap_cons, List.flatMap_nil, List.append_nil, List.mem_append, List.mem_flatMap, List.mem_cons, List.not_mem_nil, or_false] at ht
  rcases ht with ⟨x, hx, h⟩ | ⟨x, hx, h⟩
  · have := ha.1 x hx; unfold okR at this; omega
  · have := hb.1 x hx; unfold okR at this; omega
end Go.Proofs.YtfgnpdfdncnbfaaGreatDoor

namespace Go.Proofs.YtfgnpdfdncnbfaaGreatDoor
open Go.RowKit Go.Shelf Go.Maps
attribute [local go_sem] Oper.semAt_some

/-- What the document's ownN Tight and Over answer. -/
def LaidQ (ls : List (List Rng)) (w : World) (e : Ending) (w' : World) : Prop :=
  Below w.heap.size w w' ∧ ((¬ (∀ l ∈ ls, rightL l) ∧ e = .returned (.tuple #[.slice none 0 0, .int .i64 22])) ∨
    ((∀ l ∈ ls, rightL l) ∧ ∃ o m cap, isLay ls m ∧ m.length ≤ (turnsL ls).length ∧ e = .returned (.tuple #[.slice o m.length cap, .int .i64 0]) ∧ AtR w' o m))
theorem isLay_take {l : List Rng} (hl : mapL l) {j : Nat} {x : Rng} {m : List Rng} (hx : l[j]? = some x) (h : isLay [l.take j] m) : isLay [l.take (j + 1)] (joinL m x) := by
  have e : l.take (j + 1) = l.take j ++ [x] := by rw [List.take_add_one, hx]; rfl
  rw [e]
  refine tight_snoc h ?_
  rw [← e]
  exact ⟨fun y hy => hl.1 y (List.mem_of_mem_take hy), hl.2.sublist (List.take_sublist _ _)⟩
theorem ends_ok {m : List Rng} (h : mapL m) : ∀ y ∈ m, -1000000 ≤ y.2.1 ∧ y.2.1 ≤ 10000000 := fun y hy => by
  have := h.1 y hy
  unfold okR at this
  omega
/-- A row of the call's ownN is no block that was there before. -/
theorem Moves.join_below {w w0 w' : World} {base : Nat} {v : Value} (hb : Below base w0 w) (hbase : base ≤ w.heap.size) (hm : Moves (fun k => v.ownBlock = some k) w w') {m : Nat} {xs : List Value} (ho : w.ownsRow base 53 3 v m xs) : Below base w0 w' :=
  Moves.below hb hbase hm fun k hk => (ho.lt k hk).1
set_option maxRecDepth 100000 in
set_option maxHeartbeats 4000000 in
theorem refTight_any (o : Option Addr) (l : List Rng) (cap : Nat) (hn : l.length ≤ 1000) (w : World) (hA : AtR w o l) :
    Calls Tryz.prog 33 #[.slice o l.length cap] w (LaidQ [l] w) := by
  have HR := Lib.hid (refRight_any o l cap (by omega) w hA)
  obtain ⟨n, hnn⟩ : ∃ n, l.length = n := ⟨_, rfl⟩
  rw [hnn] at hn HR ⊢
  have HN := Lib.hid hnn
  have HA := Lib.hid hA
  obtain ⟨P, hP⟩ : ∃ P, LaidQ [l] w = P := ⟨_, rfl⟩
  have HP := Lib.hid hP
  rw [hP]
  clear hP hA hnn
  go_enter Tryz.func33, Tryz.ntmps33
  go_wp2_with fail
  refine HR.out.mono ?_
  rintro e w1 ⟨rfl, b1⟩
  have B1 := Lib.hid b1
  clear b1 HR
  by_cases hr : rightL l
  · have HRL := Lib.hid hr
    rw [decide_eq_true hr]
    clear hr
    go_wp2_with fail
    go_loopg [4, 5] n (fun k s v wr => ∃ (j : Nat) (m : List Rng) (mo : Option Addr) (mc : Nat), s = .slice mo m.length mc ∧ v = .int .i64 (j : Nat) ∧ j ≤ n ∧ k = n - j ∧ Hid (wr.ownsRow w1.heap.size 53 3 (.slice mo m.length mc) m.length (cellsR m)) ∧ Hid (isLay [l.take j] m) ∧ Hid (m.length ≤ j) ∧ Hid (Below w1.heap.size w1 wr))
    case atStart => exact ⟨0, [], none, 0, rfl, rfl, Nat.zero_le _, rfl, Lib.hid (World.ownsRow_nil w1 _ _ _), Lib.hid (isLay_nil _ fun r => by simp [saidL, findL]), Lib.hid (Nat.le_refl _), Lib.hid (Below.refl _ _)⟩
    case round =>
      obtain ⟨j, m, mo, mc, rfl, rfl, hj, rfl, HO, HM, HL, HB⟩ := hrel
      have hml := HL.out
      have BW := Lib.hid (B1.out.trans (HB.out.mono B1.out.size))
      rcases Nat.lt_or_ge j n with hlt | hge
      · have hj1 : j < 1000000 := by omega
        obtain ⟨x, hx⟩ : ∃ x, l[j]? = some x := ⟨_, List.getElem?_eq_getElem (by rw [HN.out]; exact hlt)⟩
        obtain ⟨g, off, rfl, hc⟩ := (HA.out.below BW.out) (by rw [HN.out]; omega)
        obtain ⟨k0, k1, k2⟩ := hc j x hx
        have hg := World.block_lt_of_cell? wr _ k0
        have HJ := Lib.hid (refAdd_any (o := mo) (cap := mc) (base := w1.heap.size) x wr HO.out (ends_ok HM.out.1) (by omega) HB.out.size)
        have HM2 := Lib.hid (isLay_take HRL.out.1 hx HM.out)
        have HL2 := Lib.hid (joinL_le m x j hml)
        have HB2 := Lib.hid (fun (w' : World) (h : Moves (fun k => (Value.slice mo m.length mc).ownBlock = some k) wr w') => Moves.join_below HB.out HB.out.size h HO.out)
        obtain ⟨a, b, v⟩ := x
        simp only at k0 k1 k2
        obtain ⟨mn, hmn⟩ : ∃ n, m.length = n := ⟨_, rfl⟩
        rw [hmn] at HJ HB2 ⊢
        clear hc hx hml hmn
        go_wp2_with fail
        refine HJ.out.mono ?_
        rintro e w2 ⟨g2, cap2, rfl, own2, mv2, _⟩
        have HO2 := Lib.hid own2
        have HB3 := Lib.hid (HB2.out _ mv2)
        clear own2 mv2 HJ HB2
        go_wp2
        go_roundg (n - (j + 1))
        case measure => omega
        case rel => exact ⟨j + 1, _, _, _, rfl, by simp, by omega, rfl, HO2, HM2, HL2, HB3⟩
      · obtain rfl : j = n := by omega
        have HPP : Hid (P (.returned (.tuple #[.slice mo m.length mc, .int .i64 0])) wr) := by
          rw [← HP.out]
          have h1 := HM.out
          rw [List.take_of_length_le (by rw [HN.out]; exact Nat.le_refl _)] at h1
          refine Lib.hid ⟨BW.out, .inr ⟨by simpa using HRL.out, mo, m, mc, h1, ?_, rfl, at_own HO.out⟩⟩
          unfold turnsL
          simp only [List.flatMap_cons, List.flatMap_nil, List.append_nil, turnsOf_length]
          rw [HN.out]
          omega
        obtain ⟨mn, hmn⟩ : ∃ n, m.length = n := ⟨_, rfl⟩
        rw [hmn] at HPP ⊢
        clear hml hmn
        go_wp2_with fail
        exact HPP.out
  · have HPP : Hid (P (.returned (.tuple #[.slice none 0 0, .int .i64 22])) w1) := by
      rw [← HP.out]
      exact Lib.hid ⟨B1.out, .inl ⟨fun h => hr (h l (by simp)), rfl⟩⟩
    rw [decide_eq_false hr]
    clear hr
    go_wp2_with fail
    exact HPP.out
end Go.Proofs.YtfgnpdfdncnbfaaGreatDoor

namespace Go.Proofs.YtfgnpdfdncnbfaaGreatDoor
open Go.RowKit Go.Shelf Go.Maps
attribute [local go_sem] Oper.semAt_some
attribute [local go_sem ↓] app_hide

/-- Where it belongs. -/
def spotL (l : List Rng) (x : Rng) : Nat := (l.takeWhile fun y => decide (y.1 < x.1)).length
theorem spot_le (l : List Rng) (x : Rng) : spotL l x ≤ l.length := by
  unfold spotL
  exact List.IsPrefix.length_le (List.takeWhile_prefix _)
theorem spot_at {l : List Rng} {x : Rng} : ∀ {j : Nat}, (∀ i y, i < j → l[i]? = some y → y.1 < x.1) → j ≤ l.length → (∀ y, l[j]? = some y → ¬ y.1 < x.1) → spotL l x = j := by
  induction l with
  | nil => intro j _ hj _; simp at hj; subst hj; rfl
  | cons z t ih =>
    intro j hb hj he
    unfold spotL at ih ⊢
    cases j with
    | zero =>
      have := he z rfl
      rw [List.takeWhile_cons_of_neg (by simpa using this)]
      rfl
    | succ j =>
      have h0 := hb 0 z (by omega) rfl
      rw [List.takeWhile_cons_of_pos (by simpa using h0), List.length_cons, ih (j := j) (fun i y hi hy => hb (i + 1) y (by omega) (by simpa using hy)) (by simpa using hj) (fun y hy => he y (by simpa using hy))]
theorem insAt_perm {l : List Rng} {i : Nat} (x : Rng) : (insAt l i x).Perm (x :: l) := by
  unfold insAt
  rw [List.append_assoc]
  have h : (l.take i ++ ([x] ++ l.drop i)).Perm ([x] ++ (l.take i ++ l.drop i)) := by
    rw [← List.append_assoc, ← List.append_assoc]
    exact List.Perm.append_right _ List.perm_append_comm
  rw [List.take_append_drop] at h
  exact h
/-- The three appends. -/
theorem put_first {W : World} {l : List Rng} {i : Nat} {o : Option Addr} (c : Nat) (hi : i ≤ l.length) (hn : l.length ≤ 10000) (hA : AtR W o l) (base : Nat) (hb : base ≤ W.heap.size) :
    ∃ p q w1, (appSem #[26, 26] 26 #[.slice none 0 0, .slice o i c]).run Tryz.prog W = .ok (.slice p i q) w1 ∧ w1.ownsRow base 53 3 (.slice p i q) i (cellsR (l.take i)) ∧ Below W.heap.size W w1 := by
  have e3 : (l.take i).length = i := by rw [List.length_take]; omega
  obtain ⟨p1, q1, w1, r1, own1, g1, b1⟩ := rngs_own (W := W) (base := base) (l.take i) o c (hA.take i) (World.ownsRow_nil W _ _ _) (by rw [e3]; omega) hb
  have m1 : Below W.heap.size W w1 := Moves.below (Below.refl _ _) (Nat.le_refl _) (Moves.of_grownN g1) (fun k h => by simp [Value.ownBlock] at h)
  rw [e3, Nat.zero_add] at r1 own1
  exact ⟨p1, q1, w1, r1, by simpa using own1, m1⟩
theorem put_rest {W w2 : World} {l : List Rng} {i : Nat} (x : Rng) {o : Option Addr} {p : Option Addr} {q e : Nat} (c : Nat) (hi : i ≤ l.length) (hn : l.length ≤ 10000) (hB : Below W.heap.size W w2) (hA : AtR W o (l.drop i))
    (ho : w2.ownsRow W.heap.size 53 3 (.slice p i q) i (cellsR (l.take i))) (he : w2.heap[e]? = some (rngO x)) :
    ∃ p2 q2 w3 p3 q3 w4, (appSem #[26, 26] 26 #[.slice p i q, .slice (some ⟨e, 0, none⟩) 1 1]).run Tryz.prog w2 = .ok (.slice p2 (i + 1) q2) w3 ∧
      (appSem #[26, 26] 26 #[.slice p2 (i + 1) q2, .slice o (l.length - i) c]).run Tryz.prog w3 = .ok (.slice p3 (l.length + 1) q3) w4 ∧
      w4.ownsRow W.heap.size 53 3 (.slice p3 (l.length + 1) q3) (l.length + 1) (cellsR (insAt l i x)) ∧ Below W.heap.size W w4 := by
  obtain ⟨g, q2, w3, r2, own2, g2, b2⟩ := rng_own x ho (by omega) hB.size he
  have m2 : Below W.heap.size W w3 := Moves.below hB hB.size (Moves.of_grownN g2) (fun k h => (ho.lt k h.symm).1)
  have ed : (l.drop i).length = l.length - i := List.length_drop
  obtain ⟨p3, q3, w4, r3, own3, g3, _⟩ := rngs_own (W := w3) (base := W.heap.size) (l.drop i) o c (hA.below m2) own2 (by rw [ed]; omega) m2.size
  have m3 : Below W.heap.size W w4 := Moves.below m2 m2.size (Moves.of_grownN g3) (fun k h => (own2.lt k h.symm).1)
  rw [ed] at r3 own3
  rw [show i + 1 + (l.length - i) = l.length + 1 from by omega] at r3 own3
  refine ⟨_, q2, w3, p3, q3, w4, r2, r3, ?_, m3⟩
  unfold insAt
  rw [cellsR_append, cellsR_append]
  exact own3
set_option maxRecDepth 100000 in
set_option maxHeartbeats 4000000 in
theorem refPut_any {o : Option Addr} {l : List Rng} {cap : Nat} (x : Rng) (hn : l.length ≤ 9000) (hc : l.length ≤ cap) (hform : (o = none ∧ l = []) ∨ ∃ g, o = some ⟨g, 0, none⟩) (w : World) (hA : AtR w o l) :
    Calls Tryz.prog 54 #[.slice o l.length cap, rngV x] w fun e w' => ∃ o' cap', e = .returned (.slice o' (l.length + 1) cap') ∧ w'.ownsRow w.heap.size 53 3 (.slice o' (l.length + 1) cap') (l.length + 1) (cellsR (insAt l (spotL l x) x)) ∧ Below w.heap.size w w' := by
  obtain ⟨w1, hw1⟩ : ∃ w1, w.alloc (rngO x) = w1 := ⟨_, rfl⟩
  have A1 : Below w.heap.size w w1 := by rw [← hw1]; exact (Below.refl _ _).alloc (Nat.le_refl _) _
  have z1 : w1.heap.size = w.heap.size + 1 := by rw [← hw1]; simp
  have x1 : w1.heap[w.heap.size]? = some (rngO x) := by rw [← hw1]; exact heap_alloc_new _ _
  obtain ⟨n, hnn⟩ : ∃ n, l.length = n := ⟨_, rfl⟩
  have HN := Lib.hid hnn
  have HA := Lib.hid (hA.below A1)
  have HA1 := Lib.hid A1
  have HX1 := Lib.hid x1
  have HF := Lib.hid hform
  obtain ⟨P, hP⟩ : ∃ P, (fun (e : Ending) (w' : World) => ∃ o' cap', e = .returned (.slice o' (l.length + 1) cap') ∧ w'.ownsRow w.heap.size 53 3 (.slice o' (l.length + 1) cap') (l.length + 1) (cellsR (insAt l (spotL l x) x)) ∧ Below w.heap.size w w') = P := ⟨_, rfl⟩
  have HP := Lib.hid hP
  rw [hP]
  rw [hnn] at hn hc ⊢
  have HW1 := Lib.hid hw1
  obtain ⟨q0, q1, q2, _⟩ := rng_cells x1
  clear hP hA A1 x1 hform hnn hw1
  obtain ⟨xa, xb, xv⟩ := x
  simp only at q0 q1 q2
  go_enter Tryz.func54, Tryz.ntmps54
  go_wp2_with fail
  rw [HW1.out]
  go_loopg [5] n (fun k v wr => ∃ (j q : Nat), v = .int .i64 (j : Nat) ∧ j ≤ n ∧ k = n - j ∧ Hid (∀ i y, i < j → l[i]? = some y → y.1 < xa) ∧ wr = w1.drewN q)
  case atStart => exact ⟨0, 0, rfl, Nat.zero_le _, rfl, Lib.hid fun i y hi => by omega, rfl⟩
  case round =>
    obtain ⟨j, q, rfl, hj, rfl, HB, rfl⟩ := hrel
    have DONE : (∀ y, l[j]? = some y → ¬ y.1 < xa) → Hid (spotL l (xa, xb, xv) = j) := fun h => Lib.hid (spot_at HB.out (by rw [HN.out]; exact hj) h)
    rcases Nat.lt_or_ge j n with hlt | hge
    focus
      have hj1 : j < 1000000 := by omega
      obtain ⟨y, hy⟩ : ∃ y, l[j]? = some y := ⟨_, List.getElem?_eq_getElem (by rw [HN.out]; exact hlt)⟩
      obtain ⟨g, off, rfl, hcc⟩ := HA.out (by rw [HN.out]; omega)
      obtain ⟨k0, k1, k2⟩ := hcc j y hy
      have hg := World.block_lt_of_cell? w1 _ k0
      have HY := Lib.hid hy
      by_cases hlt2 : y.1 < xa
      focus
        have HB2 : Hid (∀ i y, i < j + 1 → l[i]? = some y → y.1 < xa) := Lib.hid fun i z hi hz => by
          rcases Nat.lt_or_ge i j with h | h
          · exact HB.out i z h hz
          · obtain rfl : i = j := by omega
            rw [HY.out] at hz
            cases hz
            exact hlt2
        obtain ⟨ya, yb, yv⟩ := y
        simp only at k0 hlt2
        clear hcc hy DONE
        go_wp2_with fail
        go_quiet (fail)
        go_wp2
        go_roundg (n - (j + 1))
        case measure => omega
        case rel => exact ⟨j + 1, q + nq, by simp, by omega, rfl, HB2, rfl⟩
      have HSP := DONE (fun z hz => by rw [HY.out] at hz; cases hz; exact hlt2)
      obtain ⟨ya, yb, yv⟩ := y
      simp only at k0 hlt2
      clear hcc hy DONE
      go_wp2_with fail
      go_quiet (fail)
      go_wp2_with fail
      clear k0 k1 k2 HY
      obtain ⟨o, hoo⟩ : ∃ o : Option Addr, some ⟨g, off, none⟩ = o := ⟨_, rfl⟩
      rw [hoo] at HA HF ⊢
      clear hoo hlt hlt2
    rotate_left 1
    focus
      have hjn : n = j := by omega
      have HSP := DONE (fun z hz => by have := (List.getElem?_eq_some_iff.1 hz).1; rw [HN.out] at this; omega)
      clear DONE hjn
      have hnl : ¬ j < n := by omega
      go_wp2_with fail
      go_quiet (fail)
      go_wp2_with fail
      clear hnl hge
    all_goals
      obtain ⟨W, hW⟩ : ∃ W, (w1.drewN q).drewN nq = W := ⟨_, rfl⟩
      have D3 : Below w1.heap.size w1 W := by rw [← hW]; exact below_drewN2 _ _ _
      have z3 : W.heap.size = w1.heap.size := by rw [← hW]; rfl
      rw [hW]
      clear hW
      have BW := Lib.hid (HA1.out.trans ((show Below w1.heap.size w1 W.drew from D3.drew).mono HA1.out.size))
      have hbw : w.heap.size ≤ W.heap.size := by omega
      have AW := Lib.hid (HA.out.below (show Below w1.heap.size w1 W.drew from D3.drew))
      have XW : W.drew.heap[w.heap.size]? = some (rngO (xa, xb, xv)) := row_below HX1.out (show Below w1.heap.size w1 W.drew from D3.drew)
      have c0 : W.cell? ⟨w.heap.size, 0, none⟩ = some (.int .i64 xa) := cell_keepN D3 q0
      have c1 : W.cell? ⟨w.heap.size, 1, none⟩ = some (.int .i64 xb) := cell_keepN D3 q1
      have c2 : W.cell? ⟨w.heap.size, 2, none⟩ = some (.int .i64 xv) := cell_keepN D3 q2
      have hwl : w.heap.size < W.heap.size := by omega
      have hjc : j ≤ cap := by omega
      clear z3
      have MAIN : ∀ (o1 o2 : Option Addr) (k1 k2 : Nat), AtR W.drew o1 l → AtR W.drew o2 (l.drop j) → ∃ p1 q1 w1 p2 q2 w3 p3 q3 w4 p1' q1' w1' p2' q2' w3' p3' q3' w4',
          ((appSem #[26, 26] 26 #[.slice none 0 0, .slice o1 j k1]).run Tryz.prog W.drew = .ok (.slice p1 j q1) w1 ∧
          (appSem #[26, 26] 26 #[.slice p1 j q1, .slice (some ⟨w1.heap.size, 0, none⟩) 1 1]).run Tryz.prog (w1.alloc (rngO (xa, xb, xv))) = .ok (.slice p2 (j + 1) q2) w3 ∧
          (appSem #[26, 26] 26 #[.slice p2 (j + 1) q2, .slice o2 (n - j) k2]).run Tryz.prog w3 = .ok (.slice p3 (n + 1) q3) w4 ∧
          Hid (P (.returned (.slice p3 (n + 1) q3)) w4) ∧ Hid (Below W.drew.heap.size W.drew w1)) ∧
          (appSem #[26, 26] 26 #[.slice none 0 0, .slice o1 j k1]).run Tryz.prog (W.alloc (rngO (xa, xb, xv))).drew = .ok (.slice p1' j q1') w1' ∧
          (appSem #[26, 26] 26 #[.slice p1' j q1', .slice (some ⟨W.heap.size, 0, none⟩) 1 1]).run Tryz.prog w1' = .ok (.slice p2' (j + 1) q2') w3' ∧
          (appSem #[26, 26] 26 #[.slice p2' (j + 1) q2', .slice o2 (n - j) k2]).run Tryz.prog w3' = .ok (.slice p3' (n + 1) q3') w4' ∧
          Hid (P (.returned (.slice p3' (n + 1) q3')) w4') := fun o1 o2 k1 k2 h1 h2 => by
        have hjl : j ≤ l.length := by rw [HN.out]; exact hj
        obtain ⟨p1, q1, wa, r1, own1, m1⟩ := put_first (o := o1) k1 hjl (by rw [HN.out]; omega) h1 W.drew.heap.size (Nat.le_refl _)
        have ma : Below W.drew.heap.size W.drew (wa.alloc (rngO (xa, xb, xv))) := m1.alloc m1.size _
        obtain ⟨p2, q2, w3, p3, q3, w4, r2, r3, own3, m3⟩ := put_rest (W := W.drew) (w2 := wa.alloc (rngO (xa, xb, xv))) (e := wa.heap.size) (xa, xb, xv) k2 hjl (by rw [HN.out]; omega) ma h2 (own1.alloc _) (heap_alloc_new _ _)
        have mb : Below W.drew.heap.size W.drew (W.drew.alloc (rngO (xa, xb, xv))) := (Below.refl _ _).alloc (Nat.le_refl _) _
        obtain ⟨p1', q1', wa', r1', own1', m1'⟩ := put_first (W := W.drew.alloc (rngO (xa, xb, xv))) (o := o1) k1 hjl (by rw [HN.out]; omega) (h1.below mb) W.drew.heap.size mb.size
        have mc : Below W.drew.heap.size W.drew wa' := mb.trans (m1'.mono mb.size)
        obtain ⟨p2', q2', w3', p3', q3', w4', r2', r3', own3', m3'⟩ := put_rest (W := W.drew) (w2 := wa') (e := W.drew.heap.size) (xa, xb, xv) k2 hjl (by rw [HN.out]; omega) mc h2 own1' (row_below (heap_alloc_new W.drew _) m1')
        have fin : ∀ p q w', w'.ownsRow W.drew.heap.size 53 3 (.slice p (l.length + 1) q) (l.length + 1) (cellsR (insAt l j (xa, xb, xv))) → Below W.drew.heap.size W.drew w' → Hid (P (.returned (.slice p (n + 1) q)) w') := fun p q w' ho hb => by
          rw [← HP.out]
          refine Lib.hid ⟨p, q, by rw [HN.out], ?_, BW.out.trans (hb.mono BW.out.size)⟩
          rw [HSP.out]
          refine ⟨ho.1, ho.2.imp id ?_⟩
          rintro ⟨g, cap, cur, h1, h2, h3⟩
          exact ⟨g, cap, cur, h1, Nat.le_trans BW.out.size h2, h3⟩
        have f1 := fin _ _ _ own3 m3
        have f2 := fin _ _ _ own3' m3'
        rw [HN.out] at r3 r3'
        exact ⟨p1, q1, wa, p2, q2, w3, p3, q3, w4, p1', q1', wa', p2', q2', w3', p3', q3', w4', ⟨r1, r2, r3, f1, Lib.hid m1⟩, r1', r2', r3', f2⟩
      have MM := Lib.hid MAIN
      clear MAIN
      rcases HF.out with ⟨rfl, hl0⟩ | ⟨g, rfl⟩
      focus
        have hn0 : n = 0 := by rw [← HN.out, hl0]; rfl
        obtain ⟨p1, q1', wa, p2, q2', w3, p3, q3, w4, p1', q1'', wa', p2', q2'', w3', p3', q3', w4', ⟨r1, r2, r3, HPA, HWA⟩, r1', r2', r3', HPB⟩ := MM.out none none cap (cap - j) AW.out (fun h => by rw [List.length_drop, HN.out] at h; omega)
        have s0 : wa.cell? ⟨w.heap.size, 0, none⟩ = some (.int .i64 xa) := cell_keepN HWA.out c0
        have s1 : wa.cell? ⟨w.heap.size, 1, none⟩ = some (.int .i64 xb) := cell_keepN HWA.out c1
        have s2 : wa.cell? ⟨w.heap.size, 2, none⟩ = some (.int .i64 xv) := cell_keepN HWA.out c2
        clear MM hl0 hn0
        go_region
        all_goals
          go_wp2
          first | exact HPA.out | exact HPB.out
      obtain ⟨Q, hQ⟩ : ∃ Q, (if cap = j then some ⟨g, 0, none⟩ else some (⟨g, j * 3, none⟩ : Addr)) = Q := ⟨_, rfl⟩
      obtain ⟨p1, q1', wa, p2, q2', w3, p3, q3, w4, p1', q1'', wa', p2', q2'', w3', p3', q3', w4', ⟨r1, r2, r3, HPA, HWA⟩, r1', r2', r3', HPB⟩ := MM.out (some ⟨g, 0, none⟩) Q cap (cap - j) AW.out (by
        rw [← hQ]
        split
        · exact fun h => by rw [List.length_drop, HN.out] at h; omega
        · intro hn
          have h0 : 0 < l.length := by rw [List.length_drop] at hn; omega
          obtain ⟨g', off', e', hc'⟩ := AW.out h0
          cases e'
          refine ⟨g, j * 3, rfl, fun i y hy => ?_⟩
          rw [List.getElem?_drop] at hy
          have := hc' (j + i) y hy
          rw [show 0 + (j + i) * 3 = j * 3 + i * 3 from by omega] at this
          exact this)
      have s0 : wa.cell? ⟨w.heap.size, 0, none⟩ = some (.int .i64 xa) := cell_keepN HWA.out c0
      have s1 : wa.cell? ⟨w.heap.size, 1, none⟩ = some (.int .i64 xb) := cell_keepN HWA.out c1
      have s2 : wa.cell? ⟨w.heap.size, 2, none⟩ = some (.int .i64 xv) := cell_keepN HWA.out c2
      clear MM
      go_region
      all_goals
        go_wp2
        first | exact HPA.out | exact HPB.out
end Go.Proofs.YtfgnpdfdncnbfaaGreatDoor

namespace Go.Proofs.YtfgnpdfdncnbfaaGreatDoor
open Go.RowKit Go.Shelf Go.Maps
attribute [local go_sem] Oper.semAt_some

theorem takeWhile_same {α : Type} {p q : α → Bool} : ∀ {l : List α}, (∀ x ∈ l, p x = q x) → l.takeWhile p = l.takeWhile q
  | [], _ => rfl
  | x :: l, h => by
    rw [List.takeWhile_cons, List.takeWhile_cons, h x List.mem_cons_self, takeWhile_same fun y hy => h y (List.mem_cons_of_mem _ hy)]
theorem spot_reach {m : List Rng} {x : Rng} (hm : mapL m) (hx : okR x) (hno : ¬ lapL m x) : spotL m x = reachL m x.1 := by
  unfold spotL reachL
  rw [takeWhile_same fun y hy => ?_]
  have hy2 := hm.1 y hy
  have h1 : ¬ (y.1 ≤ x.2.1 ∧ x.1 ≤ y.2.1) := fun h => hno ⟨y, hy, h⟩
  unfold okR at hx hy2
  by_cases h : y.1 < x.1
  · rw [decide_eq_true h, decide_eq_true (show y.2.1 < x.1 by omega)]
  · rw [decide_eq_false h, decide_eq_false (show ¬ y.2.1 < x.1 by omega)]
theorem put_spot {m : List Rng} {x : Rng} (hm : mapL m) (hx : okR x) (hno : ¬ lapL m x) : mapL (insAt m (spotL m x) x) ∧ (insAt m (spotL m x) x).Perm (x :: m) := by
  rw [spot_reach hm hx hno]
  exact put_map hm hx hno
/-- What the document's ownN Sort answers. -/
def SortQ (l : List Rng) (w : World) (e : Ending) (w' : World) : Prop :=
  Below w.heap.size w w' ∧ ((∃ i : Nat, chkL l = some i ∧ e = .returned (.tuple #[.slice none 0 0, .int .i64 (i : Nat), .int .i64 22])) ∨
    (chkL l = none ∧ ∃ (i : Nat) (x : Rng) (m : List Rng), l[i]? = some x ∧ mapL m ∧ m.Perm (l.take i) ∧ lapL m x ∧ e = .returned (.tuple #[.slice none 0 0, .int .i64 (i : Nat), .int .i64 30])) ∨
    (chkL l = none ∧ ∃ (m : List Rng) (o : Option Addr) (cap : Nat), mapL m ∧ m.Perm l ∧ e = .returned (.tuple #[.slice o m.length cap, .int .i64 0, .int .i64 0]) ∧ AtR w' o m))
theorem lap_first {l m m' : List Rng} {i j : Nat} {x y : Rng} (hx : l[i]? = some x) (hy : l[j]? = some y) (hm : mapL m) (hp : m.Perm (l.take i)) (hl : lapL m x) (hm' : mapL m') (hp' : m'.Perm (l.take j)) (hl' : lapL m' y) : i = j := by
  have key : ∀ {i j : Nat} {x y : Rng} {m m' : List Rng}, i < j → l[i]? = some x → l[j]? = some y → m.Perm (l.take i) → lapL m x → mapL m' → m'.Perm (l.take j) → False := by
    intro i j x y m m' hij hx hy hp hl hm' hp'
    refine lap_not (l := l.take j) (i := i) hm' hp' (x := x) ?_ (m := m) ?_ hl
    · rw [List.getElem?_take_of_lt hij]; exact hx
    · rw [List.take_take, Nat.min_eq_left (by omega)]; exact hp
  rcases Nat.lt_trichotomy i j with h | h | h
  · exact (key h hx hy hp hl hm' hp').elim
  · exact h
  · exact (key h hy hx hp' hl' hm hp).elim
theorem takeSnoc_perm {l m : List Rng} {j : Nat} {x : Rng} {a : List Rng} (hx : l[j]? = some x) (hp : m.Perm (l.take j)) (ha : a.Perm (x :: m)) : a.Perm (l.take (j + 1)) := by
  rw [List.take_add_one, hx]
  refine ha.trans ((List.Perm.cons x hp).trans ?_)
  show ([x] ++ l.take j).Perm (l.take j ++ [x])
  exact List.perm_append_comm
set_option maxRecDepth 100000 in
set_option maxHeartbeats 4000000 in
theorem refSort_any (o : Option Addr) (l : List Rng) (cap : Nat) (hn : l.length ≤ 600) (w : World) (hA : AtR w o l) :
    Calls Tryz.prog 32 #[.slice o l.length cap] w (SortQ l w) := by
  obtain ⟨n, hnn⟩ : ∃ n, l.length = n := ⟨_, rfl⟩
  rw [hnn] at hn ⊢
  have HN := Lib.hid hnn
  have HA := Lib.hid hA
  obtain ⟨P, hP⟩ : ∃ P, SortQ l w = P := ⟨_, rfl⟩
  have HP := Lib.hid hP
  rw [hP]
  clear hP hA hnn
  go_enter Tryz.func32, Tryz.ntmps32
  go_wp2_with fail
  go_loopg [5] n (fun k v wr => ∃ (j : Nat), v = .int .i64 (j : Nat) ∧ j ≤ n ∧ k = n - j ∧ Hid (∀ y ∈ l.take j, okR y) ∧ Hid (Below w.heap.size w wr))
  case atStart => exact ⟨0, rfl, Nat.zero_le _, rfl, Lib.hid (fun y hy => by simp at hy), Lib.hid (Below.refl _ _)⟩
  case round =>
    obtain ⟨j, rfl, hj, rfl, HI, HB⟩ := hrel
    rcases Nat.lt_or_ge j n with hlt | hge
    · have hj1 : j < 1000000 := by omega
      obtain ⟨x, hx⟩ : ∃ x, l[j]? = some x := ⟨_, List.getElem?_eq_getElem (by rw [HN.out]; exact hlt)⟩
      obtain ⟨g, off, rfl, hc⟩ := (HA.out.below HB.out) (by rw [HN.out]; omega)
      obtain ⟨k0, k1, k2⟩ := hc j x hx
      have hg := World.block_lt_of_cell? wr _ k0
      have HX := Lib.hid hx
      have H1 := Lib.hid (one_any x wr)
      by_cases hok : okR x
      · have HI2 := Lib.hid (right_take HX.out HI.out hok)
        rw [decide_eq_true hok] at H1
        obtain ⟨a, b, v⟩ := x
        simp only at k0 k1 k2
        clear hc hx hok
        go_wp2_with fail
        refine H1.out.mono ?_
        rintro e wn ⟨rfl, hwn⟩
        have HB2 := Lib.hid (HB.out.trans ((show Below wr.heap.size wr wn from by rw [← hwn]; exact (Below.refl _ _).alloc (Nat.le_refl _) _).mono HB.out.size))
        clear hwn H1
        go_wp2
        go_roundg (n - (j + 1))
        case measure => omega
        case rel => exact ⟨j + 1, by simp, by omega, rfl, HI2, HB2⟩
      · have HPP : ∀ W, Below w.heap.size w W → Hid (P (.returned (.tuple #[.slice none 0 0, .int .i64 (j : Nat), .int .i64 22])) W) := fun W hb => by
          rw [← HP.out]
          refine Lib.hid ⟨hb, .inl ⟨j, ?_, rfl⟩⟩
          unfold chkL
          rw [badAt_some HX.out HI.out hok]
        rw [decide_eq_false hok] at H1
        obtain ⟨a, b, v⟩ := x
        simp only at k0 k1 k2
        clear hc hx hok
        go_wp2_with fail
        refine H1.out.mono ?_
        rintro e wn ⟨rfl, hwn⟩
        have HQ := HPP wn (HB.out.trans ((show Below wr.heap.size wr wn from by rw [← hwn]; exact (Below.refl _ _).alloc (Nat.le_refl _) _).mono HB.out.size))
        clear hwn H1 HPP
        go_wp2
        go_ret3
        exact HQ.out
    · obtain rfl : j = n := by omega
      have hall : ∀ y ∈ l, okR y := by
        have h := HI.out
        rwa [List.take_of_length_le (by rw [HN.out]; exact Nat.le_refl _)] at h
      have HCK : Hid (chkL l = none) := Lib.hid (chk_ok.2 ⟨hall, by rw [HN.out]; exact hn⟩)
      have HALL := Lib.hid hall
      clear hall HI
      have hn6 : ¬ 600 < j := by omega
      go_wp2_with fail
      clear hge
      go_loopg [6, 7] j (fun k s v wr2 => ∃ (i : Nat) (m : List Rng) (mo : Option Addr) (mc : Nat), s = .slice mo m.length mc ∧ v = .int .i64 (i : Nat) ∧ i ≤ j ∧ k = j - i ∧ Hid (mapL m) ∧ Hid (m.Perm (l.take i)) ∧ Hid (AtR wr2 mo m) ∧ Hid ((mo = none ∧ m = []) ∨ ∃ g, mo = some ⟨g, 0, none⟩) ∧ Hid (m.length ≤ mc) ∧ Hid (Below w.heap.size w wr2))
      case atStart => exact ⟨0, [], none, 0, rfl, rfl, Nat.zero_le _, rfl, Lib.hid ⟨fun x hx => by simp at hx, List.Pairwise.nil⟩, Lib.hid (by simp), Lib.hid (fun h => absurd h (Nat.not_lt_zero _)), Lib.hid (.inl ⟨rfl, rfl⟩), Lib.hid (Nat.le_refl _), HB⟩
      case round =>
        clear HB
        obtain ⟨wr2, rfl⟩ : ∃ W, W = wr := ⟨_, rfl⟩
        obtain ⟨i, m, mo, mc, rfl, rfl, hi, rfl, HM, HPM, HAM, HFM, HCM, HB⟩ := hrel
        obtain ⟨mn, hmn⟩ : ∃ n, m.length = n := ⟨_, rfl⟩
        have HMN := Lib.hid hmn
        rw [hmn]
        clear hmn
        rcases Nat.lt_or_ge i j with hlt | hge
        · have hj1 : i < 1000000 := by omega
          obtain ⟨x, hx⟩ : ∃ x, l[i]? = some x := ⟨_, List.getElem?_eq_getElem (by rw [HN.out]; exact hlt)⟩
          obtain ⟨g, off, rfl, hc⟩ := (HA.out.below HB.out) (by rw [HN.out]; omega)
          obtain ⟨k0, k1, k2⟩ := hc i x hx
          have hg := World.block_lt_of_cell? wr2 _ k0
          have HX := Lib.hid hx
          have HC := Lib.hid hc
          obtain ⟨a, b, v⟩ := x
          simp only at k0 k1 k2
          clear hc hx
          go_wp2_with fail
          go_loopg [8] i (fun k v wr3 => ∃ (p q : Nat), v = .int .i64 (p : Nat) ∧ p ≤ i ∧ k = i - p ∧ Hid (∀ p' y, p' < p → l[p']? = some y → ¬ (y.1 ≤ b ∧ a ≤ y.2.1)) ∧ wr3 = wr2.drewN q)
          case atStart => exact ⟨0, 0, rfl, Nat.zero_le _, rfl, Lib.hid (fun p' y h => by omega), rfl⟩
          case round =>
            obtain ⟨p, q, rfl, hp, rfl, HL, rfl⟩ := hrel
            rcases Nat.lt_or_ge p i with hlt2 | hge2
            · have hp1 : p < 1000000 := by omega
              have hpj : p < j := by omega
              obtain ⟨y, hy⟩ : ∃ y, l[p]? = some y := ⟨_, List.getElem?_eq_getElem (by rw [HN.out]; exact hpj)⟩
              obtain ⟨m0, m1, m2⟩ := HC.out p y hy
              have NEXT : ¬ (y.1 ≤ b ∧ a ≤ y.2.1) → Hid (∀ p' y, p' < p + 1 → l[p']? = some y → ¬ (y.1 ≤ b ∧ a ≤ y.2.1)) := fun h => Lib.hid fun p' z hp' hz => by
                rcases Nat.lt_or_ge p' p with h3 | h3
                · exact HL.out p' z h3 hz
                · obtain rfl : p' = p := by omega
                  rw [hy] at hz
                  cases hz
                  exact h
              have LAP : (y.1 ≤ b ∧ a ≤ y.2.1) → ∀ q, Hid (P (.returned (.tuple #[.slice none 0 0, .int .i64 (i : Nat), .int .i64 30])) (wr2.drewN q)) := fun h q => by
                rw [← HP.out]
                refine Lib.hid ⟨HB.out.trans ((below_drewN1 wr2 q).mono HB.out.size), .inr (.inl ⟨HCK.out, i, (a, b, v), m, HX.out, HM.out, HPM.out, ⟨y, ?_, h⟩, rfl⟩)⟩
                refine HPM.out.mem_iff.2 (List.mem_take_iff_getElem.2 ⟨p, ?_, ?_⟩)
                · have := (List.getElem?_eq_some_iff.1 hy).1; omega
                · exact (List.getElem?_eq_some_iff.1 hy).2
              obtain ⟨ya, yb, yv⟩ := y
              simp only at m0 m1 m2 NEXT LAP
              clear hy
              by_cases h1 : a ≤ yb
              · by_cases h2 : ya ≤ b
                · have LP := LAP ⟨h2, h1⟩
                  clear LAP NEXT
                  go_wp2_with fail
                  go_quiet (fail)
                  go_wp2
                  rw [World.drewN_drewN]
                  go_ret3
                  exact (LP _).out
                · have NX := NEXT (fun h => h2 h.1)
                  have hb2 : decide (ya ≤ b) = false := decide_eq_false h2
                  clear LAP NEXT
                  go_wp2_with fail
                  go_quiet (fail)
                  go_wp2
                  go_roundg (i - (p + 1))
                  case measure => omega
                  case rel => exact ⟨p + 1, q + nq, by simp, by omega, rfl, NX, rfl⟩
              · have NX := NEXT (fun h => h1 h.2)
                have hb1 : decide (a ≤ yb) = false := decide_eq_false h1
                clear LAP NEXT
                go_wp2_with fail
                go_quiet (fail)
                go_wp2
                go_roundg (i - (p + 1))
                case measure => omega
                case rel => exact ⟨p + 1, q + nq, by simp, by omega, rfl, NX, rfl⟩
            · obtain rfl : p = i := by omega
              have hno : ¬ lapL m (a, b, v) := fun ⟨y, hy, h⟩ => by
                obtain ⟨p', hp', hy'⟩ := List.mem_take_iff_getElem.1 (HPM.out.mem_iff.1 hy)
                exact HL.out p' y (by omega) (by rw [← hy']; exact List.getElem?_eq_getElem _) h
              have hoks := HALL.out (a, b, v) (List.mem_of_getElem? HX.out)
              obtain ⟨ps1, ps2⟩ := put_spot HM.out hoks hno
              have ps3 := takeSnoc_perm HX.out HPM.out ps2
              obtain ⟨W, hW⟩ : ∃ W, wr2.drewN q = W := ⟨_, rfl⟩
              have BW : Below wr2.heap.size wr2 W := by rw [← hW]; exact below_drewN1 _ _
              have hml : m.length ≤ 9000 := by rw [HPM.out.length_eq, List.length_take, HN.out]; omega
              have PT := Lib.hid (refPut_any (a, b, v) hml HCM.out HFM.out W (HAM.out.below BW))
              rw [HMN.out] at PT
              have BW2 := Lib.hid (HB.out.trans (BW.mono HB.out.size))
              have PS1 := Lib.hid ps1
              have PS3 := Lib.hid ps3
              have t0 := cell_keepN BW k0
              have t1 := cell_keepN BW k1
              have t2 := cell_keepN BW k2
              have tg : g < W.heap.size := Nat.lt_of_lt_of_le hg BW.size
              rw [hW]
              clear hW BW hml ps1 ps2 ps3 hno hoks k0 k1 k2
              go_wp2_with fail
              refine PT.out.mono ?_
              rintro e w5 ⟨o', cap', rfl, own5, b5⟩
              obtain ⟨g5, c5, hv⟩ := ownsRow_succ own5
              obtain ⟨rfl, rfl⟩ : o' = some ⟨g5, 0, none⟩ ∧ cap' = c5 := by simpa using hv
              have hlen : (insAt m (spotL m (a, b, v)) (a, b, v)).length = mn + 1 := by rw [insAt_length (spot_le m _), HMN.out]
              rw [← hlen] at own5
              have AT5 := Lib.hid (at_own own5)
              have CP5 := Lib.hid (own_capR own5)
              have B5 := Lib.hid (BW2.out.trans (b5.mono BW2.out.size))
              have HLN := Lib.hid hlen
              clear own5 b5 hv hlen PT
              go_wp2
              go_roundg (j - (p + 1))
              case measure => omega
              case rel => exact ⟨p + 1, _, some ⟨g5, 0, none⟩, cap', by rw [HLN.out], by simp, by omega, rfl, PS1, PS3, AT5, Lib.hid (.inr ⟨g5, rfl⟩), CP5, B5⟩
        · obtain rfl : i = j := by omega
          have HPP : Hid (P (.returned (.tuple #[.slice mo mn mc, .int .i64 0, .int .i64 0])) wr2) := by
            rw [← HP.out, ← HMN.out]
            have h := HPM.out
            rw [List.take_of_length_le (by rw [HN.out]; exact Nat.le_refl _)] at h
            exact Lib.hid ⟨HB.out, .inr (.inr ⟨HCK.out, m, mo, mc, HM.out, h, rfl, HAM.out⟩)⟩
          go_wp2_with fail
          go_ret3
          exact HPP.out
end Go.Proofs.YtfgnpdfdncnbfaaGreatDoor

namespace Go.Proofs.YtfgnpdfdncnbfaaGreatDoor
open Go.RowKit Go.Shelf Go.Maps
attribute [local go_sem] Oper.semAt_some

theorem few_anyN (o : Option Addr) (l : List Rng) (cap : Nat) (hn : l.length ≤ cap) (w : World) :
    Calls Tryz.prog 22 #[.slice o l.length cap] w fun e w' => e = .returned (.slice o (l.take 40).length cap) ∧ w = w' := by
  have hl : (l.take 40).length = min l.length 40 := by rw [List.length_take]; omega
  rw [hl]
  obtain ⟨n, hnn⟩ : ∃ n, l.length = n := ⟨_, rfl⟩
  rw [hnn] at hn ⊢
  clear hl hnn
  rcases Nat.lt_or_ge n 41 with h | h
  · have h1 : min n 40 = n := by omega
    have h2 : min ((n : Nat) : Int) 40 = ((n : Nat) : Int) := by omega
    rw [h1]
    go_enter Tryz.func22, Tryz.ntmps22
    go_wp2_with fail
    go_ret
    exact ⟨rfl, rfl⟩
  · have h1 : min n 40 = 40 := by omega
    have h2 : min ((n : Nat) : Int) 40 = 40 := by omega
    have h3 : 40 ≤ cap := by omega
    rw [h1]
    go_enter Tryz.func22, Tryz.ntmps22
    go_wp2_with fail
    go_ret
    exact ⟨rfl, rfl⟩
end Go.Proofs.YtfgnpdfdncnbfaaGreatDoor
