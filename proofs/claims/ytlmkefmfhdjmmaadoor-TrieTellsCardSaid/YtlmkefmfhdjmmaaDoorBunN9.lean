/- Plain laws for the document's ownN Tight and Over: what is laid range by range, stretch by stretch. slices.Equal of ranges, and Same. The document's ownN Same, of ranges. shown, of the laws of span. What the cards' ownN ties give: what the library's variables hold that the calls look at; a world for the witness; the last step of each row. An argument that is a list of records: what its reading says of the memory. -/
import Derived.Test.YtlmkefmfhdjmmaaDoorBunN8
import Derived.Test.YtlmkefmfhdjmmaaDoorBunN3
import Derived.Test.YtlmkefmfhdjmmaaDoorCards
import Derived.Test.YtlmkefmfhdjmmaaDoorTie
import Derived.Test.YtlmkefmfhdjmmaaDoorChecked
import Derived.ProofKit
import Derived.OpenShut
import Derived.Below
import Derived.ChangeSame
import Derived.Carry
import Derived.Deep.DeepHandedRow
import Derived.Deep.DeepWitnessRowRef
import Derived.LaidSub
import Derived.LaidHandle
import Derived.Lay
import Derived.MakeChecks
import Derived.Shelf.Vars
import Derived.SliceStrings
import Derived.LaidMore
import Derived.Deep.Strs
namespace Go.Proofs.YtlmkefmfhdjmmaaDoor

theorem isLay_nil (ls : List (List Rng)) (h : ∀ r, saidL ls r = none) : isLay ls [] := ⟨⟨fun x hx => by simp at hx, List.Pairwise.nil⟩, fun i x y hx => by simp at hx, fun r => (h r).symm⟩
/-- One range more, behind a map that has been laid. -/
theorem tight_snoc {a m : List Rng} {x : Rng} (h : isLay [a] m) (hm : mapL (a ++ [x])) : isLay [a ++ [x]] (joinL m x) := by
  obtain ⟨ha, hx, hlt⟩ := mapL_snoc.1 hm
  have hx' := hx
  unfold okR at hx
  have hsaid : ∀ r, saidL [a ++ [x]] r = (findL a r).or (findL [x] r) := fun r => by
    simp only [saidL, Option.none_or, findL_append]
  have hf : ∀ r, findL m r = findL a r := fun r => lay_says1 h r
  have key : LayUpto [a ++ [x]] m x.1 := by
    refine ⟨h.1, h.2.1, fun y hy => ?_, fun r => ?_⟩
    · have hyo := h.1.1 y hy
      unfold okR at hyo
      have h1 := find_mem h.1 hy (r := y.2.1) (by omega) (Int.le_refl _)
      rw [hf] at h1
      obtain ⟨z, hz, _, h3, _⟩ := findL_some h1
      have := hlt z hz
      omega
    · rw [hf, hsaid]
      by_cases hr : r < x.1
      · rw [if_pos hr, findL_none' (l := [x]) (fun z hz => by rw [List.mem_singleton.1 hz]; omega)]
        simp
      · rw [if_neg hr]
        exact findL_none' fun z hz => by have := hlt z hz; omega
  have hs : saidL [a ++ [x]] x.1 = some x.2.2 := by
    rw [hsaid, findL_none' (l := a) (fun z hz => by have := hlt z hz; omega)]
    show findL [x] x.1 = _
    unfold findL
    rw [if_pos ⟨Int.le_refl _, by omega⟩]
  have hmem : ∀ t ∈ turnsL [a ++ [x]], t ≤ x.1 ∨ t = x.2.1 + 1 := by
    intro t ht
    unfold turnsL turnsOf at ht
    simp only [List.flatMap_cons, List.flatMap_nil, List.append_nil, List.flatMap_append, List.mem_append, List.mem_flatMap, List.mem_cons, List.not_mem_nil, or_false] at ht
    rcases ht with ⟨z, hz, h1⟩ | h1
    · have h2 := hlt z hz
      have h3 := ha.1 z hz
      unfold okR at h3
      omega
    · omega
  have h2 := key.step (q := x.2.1 + 1) (fun b hb y hy => by rw [List.mem_singleton.1 hb] at hy; exact hm.1 y hy) (by omega) (fun t ht => by have := hmem t ht; omega)
  unfold layStep at h2
  rw [hs] at h2
  simp only [Int.add_sub_cancel] at h2
  exact h2.all fun t ht => by have := hmem t ht; omega
theorem joinL_le (m : List Rng) (x : Rng) (n : Nat) (h : m.length ≤ n) : (joinL m x).length ≤ n + 1 := by
  have := joinL_length m x
  omega

/-- The last number up to which nothing turns. -/
def nextStep (r n : Int) (x : Rng) : Int :=
  let n1 := if r < x.1 then min n (x.1 - 1) else n
  if r ≤ x.2.1 then min n1 x.2.1 else n1
def nextL (l : List Rng) (r : Int) : Int := l.foldl (nextStep r) 1114111
theorem nextStep_le (r n : Int) (x : Rng) : nextStep r n x ≤ n := by
  unfold nextStep
  simp only
  split <;> split <;> omega
theorem next_spec (r : Int) : ∀ (l : List Rng) (n : Int), let q := l.foldl (nextStep r) n
    q ≤ n ∧ (∀ x ∈ l, (r < x.1 → q ≤ x.1 - 1) ∧ (r ≤ x.2.1 → q ≤ x.2.1)) ∧ (q = n ∨ ∃ x ∈ l, (r < x.1 ∧ q = x.1 - 1) ∨ (r ≤ x.2.1 ∧ q = x.2.1))
  | [], n => ⟨Int.le_refl _, fun x hx => by simp at hx, .inl rfl⟩
  | y :: l, n => by
    obtain ⟨h1, h2, h3⟩ := next_spec r l (nextStep r n y)
    have hle := nextStep_le r n y
    have hy : (r < y.1 → nextStep r n y ≤ y.1 - 1) ∧ (r ≤ y.2.1 → nextStep r n y ≤ y.2.1) ∧ (nextStep r n y = n ∨ (r < y.1 ∧ nextStep r n y = y.1 - 1) ∨ (r ≤ y.2.1 ∧ nextStep r n y = y.2.1)) := by
      unfold nextStep
      simp only
      split <;> split <;> omega
    simp only [List.foldl_cons]
    refine ⟨by omega, fun x hx => ?_, ?_⟩
    · rcases List.mem_cons.1 hx with rfl | hx
      · exact ⟨fun h => by have := hy.1 h; omega, fun h => by have := hy.2.1 h; omega⟩
      · exact h2 x hx
    · rcases h3 with h3 | ⟨x, hx, h3⟩
      · rcases hy.2.2 with h4 | h4
        · exact .inl (h3.trans h4)
        · exact .inr ⟨y, List.mem_cons_self, by rw [h3]; exact h4⟩
      · exact .inr ⟨x, List.mem_cons_of_mem _ hx, h3⟩
/-- What Over's round needs of it. -/
theorem next_turn {a b : List Rng} {r : Int} (ha : mapL a) (hb : mapL b) (h0 : 0 ≤ r) (hr : r ≤ 1114111) :
    r ≤ nextL (a ++ b) r ∧ nextL (a ++ b) r ≤ 1114111 ∧ (∀ t ∈ turnsL [a, b], ¬ (r < t ∧ t < nextL (a ++ b) r + 1)) ∧ (∀ v, saidL [a, b] r = some v → nextL (a ++ b) r + 1 ∈ turnsL [a, b]) := by
  have hok : ∀ x ∈ a ++ b, okR x := fun x hx => by
    rcases List.mem_append.1 hx with h | h
    · exact ha.1 x h
    · exact hb.1 x h
  have ht : ∀ t, t ∈ turnsL [a, b] ↔ ∃ x ∈ a ++ b, t = x.1 ∨ t = x.2.1 + 1 := fun t => by
    unfold turnsL turnsOf
    simp only [List.flatMap_cons, List.flatMap_nil, List.append_nil, List.mem_append, List.mem_flatMap, List.mem_cons, List.not_mem_nil, or_false]
    constructor
    · rintro (⟨x, hx, h⟩ | ⟨x, hx, h⟩)
      · exact ⟨x, .inl hx, h⟩
      · exact ⟨x, .inr hx, h⟩
    · rintro ⟨x, hx | hx, h⟩
      · exact .inl ⟨x, hx, h⟩
      · exact .inr ⟨x, hx, h⟩
  obtain ⟨h1, h2, h3⟩ := next_spec r (a ++ b) 1114111
  change nextL (a ++ b) r ≤ 1114111 at h1
  change ∀ x ∈ a ++ b, (r < x.1 → nextL (a ++ b) r ≤ x.1 - 1) ∧ (r ≤ x.2.1 → nextL (a ++ b) r ≤ x.2.1) at h2
  change nextL (a ++ b) r = 1114111 ∨ ∃ x ∈ a ++ b, (r < x.1 ∧ nextL (a ++ b) r = x.1 - 1) ∨ (r ≤ x.2.1 ∧ nextL (a ++ b) r = x.2.1) at h3
  refine ⟨?_, h1, ?_, ?_⟩
  · rcases h3 with h | ⟨x, hx, h⟩ <;> omega
  · rintro t htm ⟨h4, h5⟩
    obtain ⟨x, hx, rfl | rfl⟩ := (ht t).1 htm
    · have := (h2 x hx).1 h4; omega
    · have := (h2 x hx).2 (by omega); omega
  · intro v hv
    obtain ⟨l, hl, x, hx, k1, k2, _⟩ := saidL_some hv
    have hxm : x ∈ a ++ b := by
      rcases List.mem_cons.1 hl with rfl | hl
      · exact List.mem_append_left _ hx
      · rw [List.mem_singleton.1 hl] at hx; exact List.mem_append_right _ hx
    have hxo := hok x hxm
    unfold okR at hxo
    have h6 := (h2 x hxm).2 k2
    rw [ht]
    rcases h3 with h | ⟨y, hy, h | h⟩
    · exact ⟨x, hxm, .inr (by omega)⟩
    · exact ⟨y, hy, .inl (by omega)⟩
    · exact ⟨y, hy, .inr (by omega)⟩
/-- How many turns lie at r or below it. -/
def below (ls : List (List Rng)) (r : Int) : Nat := (turnsL ls).countP fun t => decide (t ≤ r)
theorem below_le (ls : List (List Rng)) (r : Int) : below ls r ≤ (turnsL ls).length := List.countP_le_length
theorem below_mono (ls : List (List Rng)) {r q : Int} (h : r ≤ q) : below ls r ≤ below ls q := by
  unfold below
  exact List.countP_mono_left fun t _ h1 => by simp only [decide_eq_true_eq] at h1 ⊢; omega
theorem countP_more {T : List Int} {r q : Int} (h : r < q) (hq : q ∈ T) : T.countP (fun t => decide (t ≤ r)) + 1 ≤ T.countP (fun t => decide (t ≤ q)) := by
  induction T with
  | nil => simp at hq
  | cons t T ih =>
    have hm : T.countP (fun t => decide (t ≤ r)) ≤ T.countP (fun t => decide (t ≤ q)) := List.countP_mono_left fun t _ h1 => by simp only [decide_eq_true_eq] at h1 ⊢; omega
    rw [List.countP_cons, List.countP_cons]
    rcases List.mem_cons.1 hq with rfl | hq
    · rw [if_neg (by simp; omega), if_pos (by simp)]; omega
    · have := ih hq
      by_cases h1 : t ≤ r
      · rw [if_pos (by simpa using h1), if_pos (by simp; omega)]; omega
      · rw [if_neg (by simpa using h1)]; omega
theorem below_more {ls : List (List Rng)} {r q : Int} (h : r < q) (hq : q ∈ turnsL ls) : below ls r + 1 ≤ below ls q := countP_more h hq
/-- What holds between two rounds of Over. -/
structure OverAt (a b : List Rng) (m : List Rng) (r : Int) : Prop where
  upto : LayUpto [a, b] m r
  len : m.length ≤ below [a, b] r
  pos : 0 ≤ r
  le : r ≤ 1114112
theorem OverAt.begin {a b : List Rng} (ha : mapL a) (hb : mapL b) : OverAt a b [] 0 := by
  refine ⟨LayUpto.none fun t ht => ?_, Nat.zero_le _, Int.le_refl _, by omega⟩
  unfold turnsL turnsOf at ht
  simp only [List.flatMap_cons, List.flatMap_nil, List.append_nil, List.mem_append, List.mem_flatMap, List.mem_cons, List.not_mem_nil, or_false] at ht
  rcases ht with ⟨x, hx, h⟩ | ⟨x, hx, h⟩
  · have := ha.1 x hx; unfold okR at this; omega
  · have := hb.1 x hx; unfold okR at this; omega
theorem OverAt.next {a b m : List Rng} {r : Int} (h : OverAt a b m r) (ha : mapL a) (hb : mapL b) (hr : r ≤ 1114111) :
    OverAt a b (layStep [a, b] r (nextL (a ++ b) r + 1) m) (nextL (a ++ b) r + 1) := by
  obtain ⟨n1, n2, n3, n4⟩ := next_turn (r := r) ha hb h.pos hr
  have hp := h.pos
  refine ⟨h.upto.step (fun l hl x hx => ?_) (by omega) n3, ?_, by omega, by omega⟩
  · rcases List.mem_cons.1 hl with rfl | hl
    · exact ha.1 x hx
    · rw [List.mem_singleton.1 hl] at hx; exact hb.1 x hx
  · have hl := h.len
    unfold layStep
    cases hs : saidL [a, b] r with
    | none => exact Nat.le_trans hl (below_mono _ (by omega))
    | some v =>
      have h1 := joinL_length m (r, nextL (a ++ b) r + 1 - 1, v)
      have h2 := below_more (ls := [a, b]) (r := r) (by omega) (n4 v hs)
      simp only
      omega
theorem OverAt.all {a b m : List Rng} {r : Int} (h : OverAt a b m r) (ha : mapL a) (hb : mapL b) (hr : 1114111 < r) : isLay [a, b] m ∧ m.length ≤ (turnsL [a, b]).length := by
  refine ⟨h.upto.all fun t ht => ?_, Nat.le_trans h.len (below_le _ _)⟩
  unfold turnsL turnsOf at ht
  simp only [List.flatMap_cons, List.flatMap_nil, List.append_nil, List.mem_append, List.mem_flatMap, List.mem_cons, List.not_mem_nil, or_false] at ht
  rcases ht with ⟨x, hx, h⟩ | ⟨x, hx, h⟩
  · have := ha.1 x hx; unfold okR at this; omega
  · have := hb.1 x hx; unfold okR at this; omega
end Go.Proofs.YtlmkefmfhdjmmaaDoor

namespace Go.Proofs.YtlmkefmfhdjmmaaDoor
open Go.RowKit Go.Shelf Go.Maps
attribute [local go_sem] Oper.semAt_some

theorem eq_int1 (d : Nat) (a b : Int) (w : World) : (Op.equalIn (d + 1) 3 (.int .i64 a) (.int .i64 b)).run Tryd.prog w = .ok (a == b) w := by
  simp [Op.equalIn, Sem.run_bind, run_underlying Tryd.underlying3 w]
theorem neq_rng (a b c a2 b2 c2 : Int) (w : World) : (binOp .neq 49 (.agg #[.int .i64 a, .int .i64 b, .int .i64 c]) (.agg #[.int .i64 a2, .int .i64 b2, .int .i64 c2])).run Tryd.prog w = .ok (.bool (!decide (((a, b, c) : Rng) = (a2, b2, c2)))) w := by
  have hf : Tryd.prog.stoodInHeld 49 = false := by kernel_rfl
  have hfs : (Tryd.prog.fieldsOf 49).toList.map (fun f => (f.name != "_", f.type, f.offset)) = [(true, 3, 0), (true, 3, 1), (true, 3, 2)] := by kernel_rfl
  have p0 : ∀ x y z : Int, (part 3 #[.int .i64 x, .int .i64 y, .int .i64 z] 0).run Tryd.prog w = .ok (.int .i64 x) w := fun x y z => by kernel_rfl
  have p1 : ∀ x y z : Int, (part 3 #[.int .i64 x, .int .i64 y, .int .i64 z] 1).run Tryd.prog w = .ok (.int .i64 y) w := fun x y z => by kernel_rfl
  have p2 : ∀ x y z : Int, (part 3 #[.int .i64 x, .int .i64 y, .int .i64 z] 2).run Tryd.prog w = .ok (.int .i64 z) w := fun x y z => by kernel_rfl
  have h2 : ∀ d, (Op.eqFields (d + 1) #[.int .i64 a, .int .i64 b, .int .i64 c] #[.int .i64 a2, .int .i64 b2, .int .i64 c2] (Tryd.prog.fieldsOf 49).toList).run Tryd.prog w = .ok (decide (((a, b, c) : Rng) = (a2, b2, c2))) w := by
    intro d
    generalize (Tryd.prog.fieldsOf 49).toList = fs at hfs
    rcases fs with _ | ⟨f, _ | ⟨g, _ | ⟨h, _ | ⟨i, fs⟩⟩⟩⟩
    · simp at hfs
    · simp at hfs
    · simp at hfs
    · simp only [List.map_cons, List.map_nil, List.cons.injEq, Prod.mk.injEq, and_true] at hfs
      obtain ⟨⟨e1, e2, e3⟩, ⟨f1, f2, f3⟩, g1, g2, g3⟩ := hfs
      have e1' : f.name ≠ "_" := by simpa using e1
      have f1' : g.name ≠ "_" := by simpa using f1
      have g1' : h.name ≠ "_" := by simpa using g1
      by_cases k1 : a = a2 <;> by_cases k2 : b = b2 <;> by_cases k3 : c = c2 <;>
        simp [Op.eqFields, e1', f1', g1', e2, e3, f2, f3, g2, g3, Sem.run_bind, p0, p1, p2, eq_int1, Result.andThen, Sem.run_pure, k1, k2, k3]
    · simp at hfs
  rw [run_neq_struct, run_equalIn_agg w 9999 49 _ _ (by kernel_rfl) hf, h2 9998]
  rfl
attribute [local go_sem high] neq_rng
theorem drewN_drewN (w : World) (a b : Nat) : (w.drewN a).drewN b = w.drewN (a + b) := World.drewN_drewN w a b
theorem moves_drewN3 (w : World) (q : Nat) : Moves (fun _ => False) w (w.drewN q) := by
  induction q with
  | zero => exact Moves.refl _ _
  | succ q ih => exact ih.drew
theorem below_drewN1 (w : World) (q : Nat) : Below w.heap.size w (w.drewN q) := Moves.below (Below.refl _ _) (Nat.le_refl _) (moves_drewN3 _ _) (fun _ h => h.elim)
theorem below_drewN2 (w : World) (q p : Nat) : Below w.heap.size w ((w.drewN q).drewN p) := by rw [drewN_drewN]; exact below_drewN1 _ _
theorem take_eqR {l l2 : List Rng} {j : Nat} {x y : Rng} (h : l.take j = l2.take j) (hx : l[j]? = some x) (hy : l2[j]? = some y) (hxy : x = y) : l.take (j + 1) = l2.take (j + 1) := by
  rw [List.take_add_one, List.take_add_one, hx, hy, h, hxy]
theorem neq_dec (a b v a2 b2 v2 : Int) : (!decide (a = a2) || (!decide (b = b2) || !decide (v = v2))) = !decide (((a, b, v) : Rng) = (a2, b2, v2)) := by
  by_cases h1 : a = a2 <;> by_cases h2 : b = b2 <;> by_cases h3 : v = v2 <;> simp [h1, h2, h3]
set_option maxRecDepth 100000 in
set_option maxHeartbeats 2000000 in
theorem equal_any (o o2 : Option Addr) (l l2 : List Rng) (cap cap2 : Nat) (hn : l.length ≤ 1000000) (w : World) (hA : AtR w o l) (hA2 : AtR w o2 l2) :
    Calls Tryd.prog 43 #[.slice o l.length cap, .slice o2 l2.length cap2] w fun e w' => e = .returned (.bool (decide (l = l2))) ∧ Below w.heap.size w w' := by
  obtain ⟨n, hnn⟩ : ∃ n, l.length = n := ⟨_, rfl⟩
  obtain ⟨n2, hnn2⟩ : ∃ n, l2.length = n := ⟨_, rfl⟩
  rw [hnn] at hn ⊢
  rw [hnn2]
  have HN := Lib.hid hnn
  have HN2 := Lib.hid hnn2
  have HA := Lib.hid hA
  have HA2 := Lib.hid hA2
  obtain ⟨P, hP⟩ : ∃ P, (fun (e : Ending) w' => e = .returned (.bool (decide (l = l2))) ∧ Below w.heap.size w w') = P := ⟨_, rfl⟩
  have HP := Lib.hid hP
  rw [hP]
  clear hP hA hA2 hnn hnn2
  go_enter Tryd.func43, Tryd.ntmps43
  by_cases hnl : n = n2
  · subst hnl
    go_wp2_with fail
    go_loopg [13] n (fun k v wr => ∃ (j q : Nat), v = .int .i64 (j : Nat) ∧ j ≤ n ∧ k = n - j ∧ l.take j = l2.take j ∧ wr = w.drewN q)
    case atStart => exact ⟨0, 0, rfl, Nat.zero_le _, rfl, rfl, rfl⟩
    case round =>
      obtain ⟨j, q, rfl, hj, rfl, htk, rfl⟩ := hrel
      rcases Nat.lt_or_ge j n with hlt | hge
      · have hj1 : j < 1000000 := by omega
        obtain ⟨x, hx⟩ : ∃ x, l[j]? = some x := ⟨_, List.getElem?_eq_getElem (by rw [HN.out]; exact hlt)⟩
        obtain ⟨y, hy⟩ : ∃ y, l2[j]? = some y := ⟨_, List.getElem?_eq_getElem (by rw [HN2.out]; exact hlt)⟩
        obtain ⟨g, off, rfl, hc⟩ := HA.out (by rw [HN.out]; omega)
        obtain ⟨k0, k1, k2⟩ := hc j x hx
        obtain ⟨g2, off2, rfl, hc2⟩ := HA2.out (by rw [HN2.out]; omega)
        obtain ⟨m0, m1, m2⟩ := hc2 j y hy
        have hg := World.block_lt_of_cell? w _ k0
        have hg2 := World.block_lt_of_cell? w _ m0
        have HX := Lib.hid hx
        have HY := Lib.hid hy
        have HT := Lib.hid htk
        obtain ⟨a, b, v⟩ := x
        obtain ⟨a2, b2, v2⟩ := y
        simp only at k0 k1 k2 m0 m1 m2
        clear hc hc2 hx hy htk
        go_wp2_with fail
        go_quiet (fail)
        rw [neq_dec]
        by_cases hxy : ((a, b, v) : Rng) = (a2, b2, v2)
        · have HT2 := Lib.hid (take_eqR HT.out HX.out HY.out hxy)
          rw [decide_eq_true hxy]
          clear hxy
          go_wp2
          go_roundg (n - (j + 1))
          case measure => omega
          case rel => exact ⟨j + 1, q + nq, by simp, by omega, rfl, HT2.out, rfl⟩
        · have HPP : Hid (P (.returned (.bool false)) ((w.drewN q).drewN nq)) := by
            rw [← HP.out]
            refine Lib.hid ⟨?_, below_drewN2 _ _ _⟩
            rw [decide_eq_false fun he => hxy ?_]
            have h1 := HX.out
            rw [he, HY.out] at h1
            exact (Option.some.inj h1).symm
          rw [decide_eq_false hxy]
          clear hxy
          go_wp2
          exact HPP.out
      · obtain rfl : j = n := by omega
        have HPP : Hid (P (.returned (.bool true)) (w.drewN q)) := by
          rw [← HP.out]
          refine Lib.hid ⟨?_, below_drewN1 _ _⟩
          have h := htk
          rw [List.take_of_length_le (by rw [HN.out]; exact Nat.le_refl _), List.take_of_length_le (by rw [HN2.out]; exact Nat.le_refl _)] at h
          rw [decide_eq_true h]
        clear htk
        go_wp2
        exact HPP.out
  · have HPP : Hid (P (.returned (.bool false)) w) := by
      rw [← HP.out]
      refine Lib.hid ⟨?_, Below.refl _ _⟩
      rw [decide_eq_false fun he => hnl ?_]
      rw [← HN.out, ← HN2.out, he]
    go_wp2
    exact HPP.out
set_option maxHeartbeats 1000000 in
theorem Same_any (o o2 : Option Addr) (l l2 : List Rng) (cap cap2 : Nat) (hn : l.length ≤ 1000000) (w : World) (hA : AtR w o l) (hA2 : AtR w o2 l2) :
    Calls Tryd.prog 27 #[.slice o l.length cap, .slice o2 l2.length cap2] w fun e w' => e = .returned (.bool (decide (l = l2))) ∧ Below w.heap.size w w' := by
  have h1 := Lib.hid (equal_any o o2 l l2 cap cap2 hn w hA hA2)
  obtain ⟨D, hD⟩ : ∃ D, decide (l = l2) = D := ⟨_, rfl⟩
  rw [hD] at h1 ⊢
  obtain ⟨n, hnn⟩ : ∃ n, l.length = n := ⟨_, rfl⟩
  obtain ⟨n2, hnn2⟩ : ∃ n, l2.length = n := ⟨_, rfl⟩
  rw [hnn, hnn2] at h1 ⊢
  clear hD hnn hnn2 hA hA2
  go_enter Tryd.func27, Tryd.ntmps27
  go_wp2_with fail
  refine h1.out.mono ?_
  rintro e w1 ⟨rfl, b1⟩
  have B1 := Lib.hid b1
  clear b1
  go_wp2
  go_ret
  exact ⟨rfl, B1.out⟩
end Go.Proofs.YtlmkefmfhdjmmaaDoor

namespace Go.Proofs.YtlmkefmfhdjmmaaDoor
open Go.RowKit Go.Shelf Go.Maps
attribute [local go_sem] Oper.semAt_some
attribute [local go_sem high] neq_rng

set_option maxRecDepth 100000 in
set_option maxHeartbeats 2000000 in
theorem refSame_any (o o2 : Option Addr) (l l2 : List Rng) (cap cap2 : Nat) (hn : l.length ≤ 1000000) (w : World) (hA : AtR w o l) (hA2 : AtR w o2 l2) :
    Calls Tryd.prog 23 #[.slice o l.length cap, .slice o2 l2.length cap2] w fun e w' => e = .returned (.bool (decide (l = l2))) ∧ Below w.heap.size w w' := by
  obtain ⟨n, hnn⟩ : ∃ n, l.length = n := ⟨_, rfl⟩
  obtain ⟨n2, hnn2⟩ : ∃ n, l2.length = n := ⟨_, rfl⟩
  rw [hnn] at hn ⊢
  rw [hnn2]
  have HN := Lib.hid hnn
  have HN2 := Lib.hid hnn2
  have HA := Lib.hid hA
  have HA2 := Lib.hid hA2
  obtain ⟨P, hP⟩ : ∃ P, (fun (e : Ending) w' => e = .returned (.bool (decide (l = l2))) ∧ Below w.heap.size w w') = P := ⟨_, rfl⟩
  have HP := Lib.hid hP
  rw [hP]
  clear hP hA hA2 hnn hnn2
  go_enter Tryd.func23, Tryd.ntmps23
  by_cases hnl : n = n2
  · subst hnl
    go_wp2_with fail
    go_loopg [5] n (fun k v wr => ∃ (j q : Nat), v = .int .i64 (j : Nat) ∧ j ≤ n ∧ k = n - j ∧ l.take j = l2.take j ∧ wr = w.drewN q)
    case atStart => exact ⟨0, 0, rfl, Nat.zero_le _, rfl, rfl, rfl⟩
    case round =>
      obtain ⟨j, q, rfl, hj, rfl, htk, rfl⟩ := hrel
      rcases Nat.lt_or_ge j n with hlt | hge
      · have hj1 : j < 1000000 := by omega
        obtain ⟨x, hx⟩ : ∃ x, l[j]? = some x := ⟨_, List.getElem?_eq_getElem (by rw [HN.out]; exact hlt)⟩
        obtain ⟨y, hy⟩ : ∃ y, l2[j]? = some y := ⟨_, List.getElem?_eq_getElem (by rw [HN2.out]; exact hlt)⟩
        obtain ⟨g, off, rfl, hc⟩ := HA.out (by rw [HN.out]; omega)
        obtain ⟨k0, k1, k2⟩ := hc j x hx
        obtain ⟨g2, off2, rfl, hc2⟩ := HA2.out (by rw [HN2.out]; omega)
        obtain ⟨m0, m1, m2⟩ := hc2 j y hy
        have hg := World.block_lt_of_cell? w _ k0
        have hg2 := World.block_lt_of_cell? w _ m0
        have HX := Lib.hid hx
        have HY := Lib.hid hy
        have HT := Lib.hid htk
        obtain ⟨a, b, v⟩ := x
        obtain ⟨a2, b2, v2⟩ := y
        simp only at k0 k1 k2 m0 m1 m2
        clear hc hc2 hx hy htk
        go_wp2_with fail
        go_quiet (fail)
        rw [neq_dec]
        by_cases hxy : ((a, b, v) : Rng) = (a2, b2, v2)
        · have HT2 := Lib.hid (take_eqR HT.out HX.out HY.out hxy)
          rw [decide_eq_true hxy]
          clear hxy
          go_wp2
          go_roundg (n - (j + 1))
          case measure => omega
          case rel => exact ⟨j + 1, q + nq, by simp, by omega, rfl, HT2.out, rfl⟩
        · have HPP : Hid (P (.returned (.bool false)) ((w.drewN q).drewN nq)) := by
            rw [← HP.out]
            refine Lib.hid ⟨?_, below_drewN2 _ _ _⟩
            rw [decide_eq_false fun he => hxy ?_]
            have h1 := HX.out
            rw [he, HY.out] at h1
            exact (Option.some.inj h1).symm
          rw [decide_eq_false hxy]
          clear hxy
          go_wp2
          exact HPP.out
      · obtain rfl : j = n := by omega
        have HPP : Hid (P (.returned (.bool true)) (w.drewN q)) := by
          rw [← HP.out]
          refine Lib.hid ⟨?_, below_drewN1 _ _⟩
          have h := htk
          rw [List.take_of_length_le (by rw [HN.out]; exact Nat.le_refl _), List.take_of_length_le (by rw [HN2.out]; exact Nat.le_refl _)] at h
          rw [decide_eq_true h]
        clear htk
        go_wp2
        exact HPP.out
  · have HPP : Hid (P (.returned (.bool false)) w) := by
      rw [← HP.out]
      refine Lib.hid ⟨?_, Below.refl _ _⟩
      rw [decide_eq_false fun he => hnl ?_]
      rw [← HN.out, ← HN2.out, he]
    go_wp2
    exact HPP.out
end Go.Proofs.YtlmkefmfhdjmmaaDoor

namespace Go.Proofs.YtlmkefmfhdjmmaaDoor
open Go.RowKit Go.Shelf Go.Maps
attribute [local go_sem] Oper.semAt_some

theorem sh_over : isLay [[(0, 9, 1)], [(3, 4, 2)]] [(0, 2, 1), (3, 4, 2), (5, 9, 1)] := by
  refine ⟨by decide, ?_, fun r => ?_⟩
  · rintro i x y hx hy
    rcases i with _ | _ | i
    · cases hx; cases hy; decide
    · cases hx; cases hy; decide
    · simp at hy
  · simp only [findL, saidL]
    by_cases h1 : 3 ≤ r ∧ r ≤ 4
    · rw [if_neg (by omega), if_pos h1, if_pos h1]; rfl
    · rw [if_neg h1, if_neg h1]
      by_cases h2 : 0 ≤ r ∧ r ≤ 9
      · rw [if_pos h2]
        by_cases h3 : r ≤ 2
        · rw [if_pos (by omega)]; rfl
        · rw [if_neg (by omega), if_pos (by omega)]; rfl
      · rw [if_neg h2, if_neg (by omega), if_neg (by omega)]; rfl
theorem perm_two {m : List Rng} {p q : Rng} (h : m.Perm [p, q]) (hm : mapL m) (hp : p.1 ≤ p.2.1) (hq : q.1 ≤ q.2.1) : (m = [p, q] ∧ p.2.1 < q.1) ∨ (m = [q, p] ∧ q.2.1 < p.1) := by
  have hl := h.length_eq
  match m, hl with
  | [x, y], _ =>
    have h1 : x.2.1 < y.1 := by have := hm.2; simpa using this
    have hx : x = p ∨ x = q := by have := h.mem_iff.1 (List.mem_cons_self); simpa using this
    have hy : y = p ∨ y = q := by have := h.mem_iff.1 (List.mem_cons_of_mem _ (List.mem_singleton_self _)); simpa using this
    rcases hx with rfl | rfl <;> rcases hy with rfl | rfl
    · omega
    · exact .inl ⟨rfl, h1⟩
    · exact .inr ⟨rfl, h1⟩
    · omega
theorem lap_nil {x : Rng} : ¬ lapL [] x := fun ⟨_, h, _⟩ => by simp at h
theorem lap_one {y x : Rng} (h : lapL [y] x) : y.1 ≤ x.2.1 ∧ x.1 ≤ y.2.1 := by
  obtain ⟨z, hz, h⟩ := h
  rw [List.mem_singleton.1 hz] at h
  exact h
theorem sh_sort {w w' : World} {e : Ending} (h : SortP [(5, 6, 0), (1, 2, 0)] w e w') : ∃ o, e = .returned (.tuple #[.slice o 2 2, .int .i64 0, .int .i64 0]) ∧ AtR w' o [(1, 2, 0), (5, 6, 0)] := by
  rcases h.2 with ⟨i, h3, _⟩ | ⟨_, i, x, m, h4, h5, h6, h7, _⟩ | ⟨_, m, o, h4, h5, rfl, h6⟩
  · exact absurd (h3.symm.trans (show chkL _ = none by decide)) (by simp)
  · rcases i with _ | _ | i
    · have := List.perm_nil.1 h6
      subst this
      exact absurd h7 lap_nil
    · have := List.perm_singleton.1 h6
      subst this
      cases h4
      have := lap_one h7
      simp at this
    · simp at h4
  · rcases perm_two h5 h4 (by decide) (by decide) with ⟨_, h⟩ | ⟨rfl, _⟩
    · simp at h
    · exact ⟨o, rfl, h6⟩
theorem sh_lap {w w' : World} {e : Ending} (h : SortP [(5, 6, 0), (1, 5, 0)] w e w') : e = .returned (.tuple #[.slice none 0 0, .int .i64 1, .int .i64 30]) := by
  rcases h.2 with ⟨i, h3, _⟩ | ⟨_, i, x, m, h4, h5, h6, h7, rfl⟩ | ⟨_, m, o, h4, h5, rfl, h6⟩
  · exact absurd (h3.symm.trans (show chkL _ = none by decide)) (by simp)
  · rcases i with _ | _ | i
    · have := List.perm_nil.1 h6
      subst this
      exact absurd h7 lap_nil
    · rfl
    · simp at h4
  · rcases perm_two h5 h4 (by decide) (by decide) with ⟨_, h⟩ | ⟨_, h⟩
    · simp at h
    · simp at h
theorem at_lit (w : World) (l : List Rng) (arr : Array Value) (hl : l.length ≤ 1000) (he : arr.toList = cellsR l) (hs : arr.size = l.length * 3) : AtR (w.alloc (.cells arr 49)) (some ⟨w.heap.size, 0, none⟩) l := by
  have h := World.ownsRow_lit (base := w.heap.size) (e := 49) (size := 3) w arr l.length (Nat.le_refl _) (by unfold maxLen; omega) hs
  rw [he] at h
  exact at_own h
end Go.Proofs.YtlmkefmfhdjmmaaDoor

namespace Go.Proofs.YtlmkefmfhdjmmaaDoor
open Go.ChangeShapes Go.WideShapes Go.ChangeAt Go.RowKit

theorem ownN : ownKnob Tryd.prog.godebug = none := by kernel_rfl
abbrev laidAN : List (String × DataW Unit) := [("errors.errorType", Rows.laid_errors_errorType)]
theorem gEtN : Tryd.prog.globalNamed "errors.errorType" = some 2 := by kernel_rfl
theorem rtNN : (Tryd.prog.cutTypes.find? (·.1 == "internal/reflectlite.rtype")).map (·.2) = some 133 := by kernel_rfl
theorem typesNN : Tryd.prog.types.size = 209 := by kernel_rfl
theorem oneRowN : ((List.range 209).filter fun t => Tryd.prog.rowNamed t [101, 114, 114, 111, 114]) = [51] := by kernel_rfl

theorem et_of_laidN {W : World} (h : laidMetH Tryd.prog laidAN W) : W.cell? ⟨2, 0, none⟩ = some (.iface 133 (.agg #[.pointer (some ⟨3, 51, none⟩)])) := by
  have h2 : laidMetH Tryd.prog [("errors.errorType", Rows.laid_errors_errorType)] W := h
  have h' : laidMet Tryd.prog [] W ∧ handlesMet Tryd.prog [("errors.errorType", Rows.laid_errors_errorType)] W := h2
  obtain ⟨name, u, ty, e1, e2, e3, e4, e5⟩ := h'.2 _ (List.mem_singleton.2 rfl)
  have en : name = [101, 114, 114, 111, 114] := (Option.some.inj e1).symm
  subst en
  obtain rfl := Option.some.inj (rtNN.symm.trans e2)
  have hm : ty ∈ (List.range 209).filter fun t => Tryd.prog.rowNamed t [101, 114, 114, 111, 114] := List.mem_filter.2 ⟨List.mem_range.2 (by rw [← typesNN]; exact e3), e4⟩
  rw [oneRowN] at hm
  obtain rfl := List.mem_singleton.1 hm
  have hh : typeHandle Tryd.prog 51 = .pointer (some ⟨3, 51, none⟩) := by kernel_rfl
  rw [hh] at e5
  simpa using World.var?_cell gEtN e5 0
/-- A WORLD FOR THE WITNESS: the settled one, the handle laid, the tables laid. -/
noncomputable def baseWorldN (os : Os) : World :=
  let w0 := World.holding Tryd.prog os ⟨#[], #[], []⟩
  { w0 with heap := w0.heap.modify 2 fun
      | .cells _ t frozen => .cells #[.iface 133 (.agg #[.pointer (some ⟨3, 51, none⟩)])] t frozen
      | o => o }
theorem baseWorld_os (os : Os) : (baseWorldN os).os = os := rfl
set_option maxRecDepth 100000 in
theorem laid_met_wN (os : Os) : laidMet Tryd.prog [] (baseWorldN os) := ⟨[], rfl, List.nodup_nil, fun _ _ h => by simp at h⟩
set_option maxRecDepth 100000 in
theorem laid_metN (os : Os) (args : Array Value) : laidMetH Tryd.prog laidAN ((baseWorldN os).forCall (fun _ _ => 0) ⟨#[], args, []⟩).memory :=
  laidMetH_of_parts ((laid_met_wN os).of_heap (by simp [World.memory, World.forCall, Input.heap])) (by kernel_rfl)

/-- WHAT EACH ROW ASKS OF A CALL THAT ANSWERS true AND LEAVES WHAT LAY BEFORE IT AS IT LAY. -/
theorem true_postN {H : Type} {enc : TypeId × Value → H} {f : Func} {s : ChangeSpec} {W W' : World} {args : Array Value} {ds gs : List (DataW H)} {before : List MemPlace}
    (hW : DataW.Whole enc Tryd.prog f.params.toList s.vars false W args.toList ds gs before) (hr : f.resultTypes = #[4]) (hfn : s.fn H (ds ++ gs) = { results := [.lit (.bool true)], args := ds }) (hv : s.vars = [])
    (hargs : DataW.TrodAll enc Tryd.prog W' 0 (fun b => decide (b < W.heap.size)) true f.params.toList args.toList ds before) (hb : Below W.heap.size W W') :
    s.post enc Tryd.prog f false true false false W args (.bool true) W' := by
  refine ⟨ds, gs, before, [], before, [], hW, ?_, ?_, ?_, ?_, fun h => by cases h⟩
  · rw [hr, hfn]
    exact trodAll_cons_mk (shut_bool Tryd.underlying4 _) trodAll_mk0
  · rw [hfn]
    exact hargs
  · rw [hv, hfn]
    rfl
  · exact World.keptBut_mono (fun p hp => ⟨hp, .inr (.inl hp)⟩) (hb.frame (· ∈ before))
end Go.Proofs.YtlmkefmfhdjmmaaDoor

namespace Go.Proofs.YtlmkefmfhdjmmaaDoor
open Go.ChangeShapes Go.WideShapes Go.ChangeAt Go.RowKit Go.ChangeMaps

theorem list_ofN {α : Type} {Q : Nat → α → Prop} : ∀ n : Nat, (∀ i, i < n → ∃ x, Q i x) → ∃ l : List α, l.length = n ∧ ∀ i x, l[i]? = some x → Q i x
  | 0, _ => ⟨[], rfl, fun i x h => by simp at h⟩
  | n + 1, h => by
    obtain ⟨l, hl, hq⟩ := list_ofN n fun i hi => h i (by omega)
    obtain ⟨y, hy⟩ := h n (by omega)
    refine ⟨l ++ [y], by simp [hl], fun i x hx => ?_⟩
    rcases Nat.lt_or_ge i l.length with hi | hi
    · rw [List.getElem?_append_left hi] at hx
      exact hq i x hx
    · rw [List.getElem?_append_right hi] at hx
      have hi2 : i - l.length = 0 := by
        have := (List.getElem?_eq_some_iff.1 hx).1
        simp at this
        omega
      rw [hi2] at hx
      cases hx
      rw [show i = n from by omega]
      exact hy
theorem add_atN (g off k : Nat) : (⟨g, off, none⟩ : Addr).add k = ⟨g, off + k, none⟩ := by unfold Addr.add; split <;> simp_all
theorem cellsRng : Tryd.prog.cellsOf 49 = 3 := by kernel_rfl
theorem cellsIntN : Tryd.prog.cellsOf 3 = 1 := by kernel_rfl
section
variable {H : Type} {enc : TypeId × Value → H} {W : World}
theorem list3 {α : Type} {cs : List α} (h : cs.length = 3) : ∃ c0 c1 c2, cs = [c0, c1, c2] := by
  match cs, h with
  | [c0, c1, c2], _ => exact ⟨c0, c1, c2, rfl⟩
theorem rngOpen {fuel : Nat} {cs : List Value} {x : DataW H × List MemPlace} (h : DataW.trod enc Tryd.prog W 0 (fun _ => true) true fuel 49 cs = some x) :
    ∃ X : Rng, cs[0]? = some (.int .i64 X.1) ∧ cs[1]? = some (.int .i64 X.2.1) ∧ cs[2]? = some (.int .i64 X.2.2) := by
  obtain ⟨y0, y1, y2, n, _, hl, h0, h1, h2⟩ := Go.Deep.trod_struct3 Tryd.underlying49 h
  rw [cellsRng] at hl
  obtain ⟨k0, k1, k2, rfl⟩ := list3 hl
  obtain ⟨a, c0, _, _⟩ := DataW.trod_int Tryd.underlying3 h0
  obtain ⟨b, c1, _, _⟩ := DataW.trod_int Tryd.underlying3 h1
  obtain ⟨v, c2, _, _⟩ := DataW.trod_int Tryd.underlying3 h2
  change List.take (Tryd.prog.cellsOf 3) (List.drop 0 [k0, k1, k2]) = _ at c0
  change List.take (Tryd.prog.cellsOf 3) (List.drop 1 [k0, k1, k2]) = _ at c1
  change List.take (Tryd.prog.cellsOf 3) (List.drop 2 [k0, k1, k2]) = _ at c2
  rw [cellsIntN] at c0 c1 c2
  obtain rfl : k0 = .int .i64 a := by simpa using c0
  obtain rfl : k1 = .int .i64 b := by simpa using c1
  obtain rfl : k2 = .int .i64 v := by simpa using c2
  exact ⟨(a, b, v), rfl, rfl, rfl⟩
theorem open_rngs {fuel : Nat} {v : Value} {x : DataW H × List MemPlace} (h : DataW.trod enc Tryd.prog W 0 (fun _ => true) true fuel 22 [v] = some x) :
    ∃ (o : Option Addr) (rs : List Rng) (cap : Nat), v = .slice o rs.length cap ∧ AtR W o rs ∧ rs.length ≤ cap := by
  rcases DataW.trod_slice Tryd.underlying22 h with ⟨hv, _⟩ | ⟨a, len, cap, elems, rest, n, _, hv, _, _, hle, hcap, hlen, hc, _, _⟩
  · obtain rfl : v = .slice none 0 0 := by simpa using hv
    exact ⟨none, [], 0, rfl, fun h => absurd h (Nat.not_lt_zero _), Nat.le_refl _⟩
  · obtain rfl : v = .slice (some a) len cap := by simpa using hv
    have hall : ∀ i, i < len → ∃ X : Rng, W.cell? ((a.add (i * 3)).add 0) = some (.int .i64 X.1) ∧ W.cell? ((a.add (i * 3)).add 1) = some (.int .i64 X.2.1) ∧ W.cell? ((a.add (i * 3)).add 2) = some (.int .i64 X.2.2) := fun i hi => by
      have he := hc i hi
      rw [cellsRng, List.getElem?_eq_getElem (by omega)] at he
      obtain ⟨cs, hcs, ht⟩ := Option.bind_eq_some_iff.1 he
      obtain ⟨_, hl, hg⟩ := World.cells?_some hcs
      obtain ⟨X, c0, c1, c2⟩ := rngOpen ht
      exact ⟨X, by rw [hg 0 (by omega), c0], by rw [hg 1 (by omega), c1], by rw [hg 2 (by omega), c2]⟩
    obtain ⟨rs, hrl, hrs⟩ := list_ofN len hall
    subst hrl
    refine ⟨some a, rs, cap, rfl, fun hn => ?_, by omega⟩
    obtain ⟨h0, _⟩ := hrs 0 _ (List.getElem?_eq_getElem hn)
    obtain ⟨g, off, spot⟩ := a
    have hspot : spot = none := by simpa [Addr.add] using World.cell?_spot h0
    subst hspot
    refine ⟨g, off, rfl, fun j x hx => ?_⟩
    obtain ⟨c0, c1, c2⟩ := hrs j x hx
    rw [add_atN, add_atN] at c0 c1 c2
    exact ⟨c0, c1, c2⟩
end
end Go.Proofs.YtlmkefmfhdjmmaaDoor
