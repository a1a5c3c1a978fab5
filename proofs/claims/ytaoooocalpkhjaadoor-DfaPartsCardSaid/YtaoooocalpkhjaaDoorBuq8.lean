/- Shaken by bunq.py. -/
import Derived.Test.YtaoooocalpkhjaaDoorBuq7
import Derived.Test.YtaoooocalpkhjaaDoorBuq6
import Derived.Test.YtaoooocalpkhjaaDoorBuq1
import Derived.Test.YtaoooocalpkhjaaDoorBuq2
import Derived.Test.YtaoooocalpkhjaaDoorBuq3
namespace Go.Proofs.YtaoooocalpkhjaaDoor
open Go.RowKit Go.Shelf

theorem run_len_le (R : List PatP) (n : Nat) : ∀ q, (runD R n q).1.length ≤ q + 1
  | 0 => by simp [runD]
  | q + 1 => by
    have ih := run_len_le R n q
    by_cases h : liveD R n q
    · obtain ⟨S, hS⟩ : ∃ S, (runD R n q).1[q / (n + 1)]? = some S := ⟨_, List.getElem?_eq_getElem h⟩
      rw [run_next hS]
      simp only
      split
      · omega
      · rw [List.length_append, List.length_singleton]
        omega
    · rw [run_halt h]
      omega
def rightsL (l : List RulX) : Prop := ∀ x ∈ l, rightB x.1.2.2.1 32 = true
theorem knows_of_lt {n s : Nat} (h : s < 2 ^ (2 * n + 1)) : knowsB n ((s : Nat) : Int) = true := by
  unfold knowsB
  exact decide_eq_true ⟨by omega, by omega⟩
theorem know_first {l : List RulX} (_h : rightsL l) : KnowD l (firstD (l.map leftX)) := by
  refine ⟨first_len l, fun j x s hx hs => ?_⟩
  rw [first_atD hx] at hs
  obtain rfl := Option.some.inj hs
  exact knows_of_lt (first_lt _)
theorem know_step {l : List RulX} (h : rightsL l) {S : List Nat} (hS : KnowD l S) (c : Int) : KnowD l (stepD (l.map leftX) S c) := by
  have hl : (stepD (l.map leftX) S c).length = l.length := by rw [step_len _ _ _ (by rw [hS.1, List.length_map]), List.length_map]
  refine ⟨hl, fun j x s hx hs => ?_⟩
  have hj := (List.getElem?_eq_some_iff.1 hx).1
  obtain ⟨r, hr⟩ : ∃ r, S[j]? = some r := ⟨_, List.getElem?_eq_getElem (by rw [hS.1]; exact hj)⟩
  rw [step_at hx hr] at hs
  obtain rfl := Option.some.inj hs
  exact knows_of_lt (step_lt (rightB_fits (h x (List.mem_of_getElem? hx))).2.1)
theorem know_run {l : List RulX} (h : rightsL l) (n : Nat) : ∀ q, ∀ S ∈ (runD (l.map leftX) n q).1, KnowD l S
  | 0 => fun S hS => by
    rw [runD, List.mem_singleton] at hS
    rw [hS]
    exact know_first h
  | q + 1 => fun S hS => by
    have ih := know_run h n q
    by_cases hv : liveD (l.map leftX) n q
    · obtain ⟨T, hT⟩ : ∃ T, (runD (l.map leftX) n q).1[q / (n + 1)]? = some T := ⟨_, List.getElem?_eq_getElem hv⟩
      rw [run_next hT] at hS
      simp only at hS
      split at hS
      · exact ih S hS
      · rcases List.mem_append.1 hS with hS | hS
        · exact ih S hS
        · rw [List.mem_singleton.1 hS]
          exact know_step h (ih T (List.mem_of_getElem? hT)) _
    · rw [run_halt hv] at hS
      exact ih S hS
theorem know_fits {l : List RulX} (h : rightsL l) (hl : l.length ≤ 40) {S : List Nat} (hS : KnowD l S) : fitsD (padD S) := by
  refine padD_fits (by rw [hS.1]; exact hl) fun s hs => ?_
  obtain ⟨j, hj⟩ := List.getElem?_of_mem hs
  have hj2 := (List.getElem?_eq_some_iff.1 hj).1
  obtain ⟨x, hx⟩ : ∃ x, l[j]? = some x := ⟨_, List.getElem?_eq_getElem (by rw [← hS.1]; exact hj2)⟩
  have hk := hS.2 j x s hx hj
  have h10 := (rightB_fits (h x (List.mem_of_getElem? hx))).1
  unfold knowsB at hk
  have hk := (of_decide_eq_true hk).2
  have hp : 2 ^ (2 * x.1.2.2.1.length + 1) ≤ 2 ^ 21 := Nat.pow_le_pow_right (by decide) (by omega)
  omega
theorem idx_run {l : List RulX} (h : rightsL l) (n q : Nat) {T : List Nat} (hT : KnowD l T) : idxD ((runD (l.map leftX) n q).1.map padD) (padD T) = if T ∈ (runD (l.map leftX) n q).1 then some ((runD (l.map leftX) n q).1.idxOf T) else none :=
  idxD_list (n := l.length) (fun S hS => (know_run h n q S hS).1) hT.1
theorem run_old {R : List PatP} {n q : Nat} {S : List Nat} (hS : (runD R n q).1[q / (n + 1)]? = some S) (hm : stepD R S ((q % (n + 1) : Nat) : Int) ∈ (runD R n q).1) : runD R n (q + 1) = ((runD R n q).1, (runD R n q).2 ++ [(runD R n q).1.idxOf (stepD R S ((q % (n + 1) : Nat) : Int))]) := by
  rw [run_next hS, if_pos hm]
theorem run_new {R : List PatP} {n q : Nat} {S : List Nat} (hS : (runD R n q).1[q / (n + 1)]? = some S) (hm : stepD R S ((q % (n + 1) : Nat) : Int) ∉ (runD R n q).1) : runD R n (q + 1) = ((runD R n q).1 ++ [stepD R S ((q % (n + 1) : Nat) : Int)], (runD R n q).2 ++ [(runD R n q).1.length]) := by
  rw [run_next hS, if_neg hm, List.idxOf_eq_length hm]
def NumR (base G M : Nat) (nx fi ru wy : Value) (n : Int) (ao : Option Addr) (ac : Nat) (A A' : List (List Nat)) (i : Nat) (w : World) (e : Ending) (w' : World) : Prop :=
  e = .returned (.int .i64 (i : Nat)) ∧ ∃ ao' ac', MetD w' base G M nx fi ru n ao' ac' wy A' ∧ Moves (NumS G M (.slice ao A.length ac)) w w' ∧ ∀ k, (Value.slice ao' A'.length ac').ownBlock = some k → (Value.slice ao A.length ac).ownBlock = some k ∨ w.heap.size ≤ k
theorem number_runD {l : List RulX} (h : rightsL l) (hl : l.length ≤ 40) (N q : Nat) (hq : q ≤ 99999) {S : List Nat} (hS : (runD (l.map leftX) N q).1[q / (N + 1)]? = some S) (base G M ac : Nat) (nx fi ru wy : Value) (n : Int) (ao : Option Addr) (w : World) (hM : MetD w base G M nx fi ru n ao ac wy (runD (l.map leftX) N q).1) :
    Calls Tryd.prog 77 #[.pointer (some ⟨G, 4, none⟩), setsV (padD (stepD (l.map leftX) S ((q % (N + 1) : Nat) : Int)))] w fun e w' => ∃ i, (runD (l.map leftX) N (q + 1)).2 = (runD (l.map leftX) N q).2 ++ [i] ∧ NumR base G M nx fi ru wy n ao ac (runD (l.map leftX) N q).1 (runD (l.map leftX) N (q + 1)).1 i w e w' := by
  have hkS := know_run h N q S (List.mem_of_getElem? hS)
  have hkT := know_step h hkS ((q % (N + 1) : Nat) : Int)
  have hi := idx_run h N q hkT
  have hf := know_fits h hl hkT
  have hlen := run_len_le (l.map leftX) N q
  by_cases hm : stepD (l.map leftX) S ((q % (N + 1) : Nat) : Int) ∈ (runD (l.map leftX) N q).1
  · rw [if_pos hm] at hi
    refine (number_metD base G M ac nx fi ru wy n ao _ _ _ hf hi w hM).mono ?_
    rintro e w' ⟨rfl, b⟩
    refine ⟨_, by rw [run_old hS hm], rfl, ao, ac, ?_, Moves.of_below b, fun k hk => .inl ?_⟩
    · rw [run_old hS hm]
      exact hM.keep (S := fun _ => False) (Moves.of_below b) id id fun _ _ => id
    · rw [run_old hS hm] at hk
      exact hk
  · rw [if_neg hm] at hi
    refine (number_newD base G M ac nx fi ru wy n ao _ _ hf hi (by omega) w hM).mono ?_
    rintro e w' ⟨rfl, ao', ac', h1, h2, h3⟩
    refine ⟨_, by rw [run_new hS hm], rfl, ao', ac', ?_, h2, fun k hk => h3 k ?_⟩
    · rw [run_new hS hm]
      exact h1
    · rw [run_new hS hm, List.length_append, List.length_singleton] at hk
      exact hk
end Go.Proofs.YtaoooocalpkhjaaDoor
namespace Go.Proofs.YtaoooocalpkhjaaDoor
open Go.RowKit Go.Shelf
attribute [local go_sem] Oper.semAt_some

def minD (x : Int) (l : List Int) : Int := l.foldl (fun a b => min a b) x
def maxD (x : Int) (l : List Int) : Int := l.foldl (fun a b => max a b) x
theorem minD_ge (b : Int) : ∀ (l : List Int) (x : Int), b ≤ minD x l ↔ ∀ v ∈ x :: l, b ≤ v
  | [], x => by simp [minD]
  | y :: l, x => by
    have ih := minD_ge b l (min x y)
    unfold minD at ih ⊢
    rw [List.foldl_cons, ih]
    simp only [List.mem_cons, forall_eq_or_imp]
    rw [show b ≤ min x y ↔ b ≤ x ∧ b ≤ y by omega, and_assoc]
theorem maxD_lt (b : Int) : ∀ (l : List Int) (x : Int), maxD x l < b ↔ ∀ v ∈ x :: l, v < b
  | [], x => by simp [maxD]
  | y :: l, x => by
    have ih := maxD_lt b l (max x y)
    unfold maxD at ih ⊢
    rw [List.foldl_cons, ih]
    simp only [List.mem_cons, forall_eq_or_imp]
    rw [show max x y < b ↔ x < b ∧ y < b by omega, and_assoc]
theorem minD_snoc {l : List Int} {x y : Int} {j : Nat} (h : l[j]? = some y) : minD x (l.take (j + 1)) = min (minD x (l.take j)) y := by
  unfold minD
  rw [List.take_add_one, h, Option.toList_some, List.foldl_append]
  rfl
theorem maxD_snoc {l : List Int} {x y : Int} {j : Nat} (h : l[j]? = some y) : maxD x (l.take (j + 1)) = max (maxD x (l.take j)) y := by
  unfold maxD
  rw [List.take_add_one, h, Option.toList_some, List.foldl_append]
  rfl
set_option maxRecDepth 100000 in
set_option maxHeartbeats 2000000 in
theorem minI_any (g off cap : Nat) (x : Int) (l : List Int) (hl : l.length ≤ 1000000) (w : World) (hA : ∀ j v, (x :: l)[j]? = some v → w.cell? ⟨g, off + j, none⟩ = some (.int .i64 v)) :
    Calls Tryd.prog 50 #[.slice (some ⟨g, off, none⟩) (l.length + 1) cap] w fun e w' => e = .returned (.int .i64 (minD x l)) ∧ w = w' := by
  have a0 := hA 0 x rfl
  rw [Nat.add_zero] at a0
  obtain ⟨n, hn⟩ : ∃ n, l.length = n := ⟨_, rfl⟩
  have HA := Lib.hid hA
  have HN := Lib.hid hn
  rw [hn] at hl ⊢
  have d0 : decide ((((n + 1 : Nat)) : Int) < 1) = false := decide_eq_false (by omega)
  clear hA hn
  go_enter Tryd.func50, Tryd.ntmps50
  go_wp2_with fail
  go_loopg [3, 4] n (fun k v3 v4 wr => ∃ (j : Nat), v4 = .int .i64 ((j + 1 : Nat) : Int) ∧ v3 = .int .i64 (minD x (l.take j)) ∧ j ≤ n ∧ k = n - j ∧ w = wr)
  case atStart => exact ⟨0, rfl, rfl, Nat.zero_le _, rfl, rfl⟩
  case round =>
    obtain ⟨j, rfl, rfl, hj, rfl, rfl⟩ := hrel
    rcases Nat.lt_or_ge j n with hlt | hge
    · have d1 : decide ((((j + 1 : Nat)) : Int) < (((n + 1 : Nat)) : Int)) = true := decide_eq_true (by omega)
      obtain ⟨y, hy⟩ : ∃ y, l[j]? = some y := ⟨_, List.getElem?_eq_getElem (by rw [HN.out]; exact hlt)⟩
      have aj := HA.out (j + 1) y (by simpa using hy)
      have hs := minD_snoc (x := x) hy
      obtain ⟨m, hm⟩ : ∃ m, minD x (l.take j) = m := ⟨_, rfl⟩
      rw [hm] at hs ⊢
      have HS := Lib.hid hs
      have hjm : j < 1000000 := by omega
      have hlt1 : j + 1 < n + 1 := by omega
      clear hs hy hm
      go_wp2_with fail
      go_roundg (n - (j + 1))
      case measure => omega
      case rel => exact ⟨j + 1, by simp, by rw [HS.out], by omega, rfl, rfl⟩
    · obtain rfl : j = n := by omega
      have d1 : decide ((((j + 1 : Nat)) : Int) < (((j + 1 : Nat)) : Int)) = false := decide_eq_false (by omega)
      rw [List.take_of_length_le (by rw [HN.out]; exact Nat.le_refl _)]
      go_wp2_with fail
      go_ret
      exact ⟨rfl, rfl⟩
set_option maxRecDepth 100000 in
set_option maxHeartbeats 2000000 in
theorem maxI_any (g off cap : Nat) (x : Int) (l : List Int) (hl : l.length ≤ 1000000) (w : World) (hA : ∀ j v, (x :: l)[j]? = some v → w.cell? ⟨g, off + j, none⟩ = some (.int .i64 v)) :
    Calls Tryd.prog 51 #[.slice (some ⟨g, off, none⟩) (l.length + 1) cap] w fun e w' => e = .returned (.int .i64 (maxD x l)) ∧ w = w' := by
  have a0 := hA 0 x rfl
  rw [Nat.add_zero] at a0
  obtain ⟨n, hn⟩ : ∃ n, l.length = n := ⟨_, rfl⟩
  have HA := Lib.hid hA
  have HN := Lib.hid hn
  rw [hn] at hl ⊢
  have d0 : decide ((((n + 1 : Nat)) : Int) < 1) = false := decide_eq_false (by omega)
  clear hA hn
  go_enter Tryd.func51, Tryd.ntmps51
  go_wp2_with fail
  go_loopg [3, 4] n (fun k v3 v4 wr => ∃ (j : Nat), v4 = .int .i64 ((j + 1 : Nat) : Int) ∧ v3 = .int .i64 (maxD x (l.take j)) ∧ j ≤ n ∧ k = n - j ∧ w = wr)
  case atStart => exact ⟨0, rfl, rfl, Nat.zero_le _, rfl, rfl⟩
  case round =>
    obtain ⟨j, rfl, rfl, hj, rfl, rfl⟩ := hrel
    rcases Nat.lt_or_ge j n with hlt | hge
    · have d1 : decide ((((j + 1 : Nat)) : Int) < (((n + 1 : Nat)) : Int)) = true := decide_eq_true (by omega)
      obtain ⟨y, hy⟩ : ∃ y, l[j]? = some y := ⟨_, List.getElem?_eq_getElem (by rw [HN.out]; exact hlt)⟩
      have aj := HA.out (j + 1) y (by simpa using hy)
      have hs := maxD_snoc (x := x) hy
      obtain ⟨m, hm⟩ : ∃ m, maxD x (l.take j) = m := ⟨_, rfl⟩
      rw [hm] at hs ⊢
      have HS := Lib.hid hs
      have hjm : j < 1000000 := by omega
      have hlt1 : j + 1 < n + 1 := by omega
      clear hs hy hm
      go_wp2_with fail
      go_roundg (n - (j + 1))
      case measure => omega
      case rel => exact ⟨j + 1, by simp, by rw [HS.out], by omega, rfl, rfl⟩
    · obtain rfl : j = n := by omega
      have d1 : decide ((((j + 1 : Nat)) : Int) < (((j + 1 : Nat)) : Int)) = false := decide_eq_false (by omega)
      rw [List.take_of_length_le (by rw [HN.out]; exact Nat.le_refl _)]
      go_wp2_with fail
      go_ret
      exact ⟨rfl, rfl⟩
set_option maxRecDepth 100000 in
set_option maxHeartbeats 2000000 in
theorem minL_any (g off cap : Nat) (x : Int) (l : List Int) (hl : l.length ≤ 1000000) (w : World) (hA : ∀ j v, (x :: l)[j]? = some v → w.cell? ⟨g, off + j, none⟩ = some (.int .i64 v)) :
    Calls Tryd.prog 52 #[.slice (some ⟨g, off, none⟩) (l.length + 1) cap] w fun e w' => e = .returned (.int .i64 (minD x l)) ∧ w = w' := by
  have a0 := hA 0 x rfl
  rw [Nat.add_zero] at a0
  obtain ⟨n, hn⟩ : ∃ n, l.length = n := ⟨_, rfl⟩
  have HA := Lib.hid hA
  have HN := Lib.hid hn
  rw [hn] at hl ⊢
  have d0 : decide ((((n + 1 : Nat)) : Int) < 1) = false := decide_eq_false (by omega)
  clear hA hn
  go_enter Tryd.func52, Tryd.ntmps52
  go_wp2_with fail
  go_loopg [3, 4] n (fun k v3 v4 wr => ∃ (j : Nat), v4 = .int .i64 ((j + 1 : Nat) : Int) ∧ v3 = .int .i64 (minD x (l.take j)) ∧ j ≤ n ∧ k = n - j ∧ w = wr)
  case atStart => exact ⟨0, rfl, rfl, Nat.zero_le _, rfl, rfl⟩
  case round =>
    obtain ⟨j, rfl, rfl, hj, rfl, rfl⟩ := hrel
    rcases Nat.lt_or_ge j n with hlt | hge
    · have d1 : decide ((((j + 1 : Nat)) : Int) < (((n + 1 : Nat)) : Int)) = true := decide_eq_true (by omega)
      obtain ⟨y, hy⟩ : ∃ y, l[j]? = some y := ⟨_, List.getElem?_eq_getElem (by rw [HN.out]; exact hlt)⟩
      have aj := HA.out (j + 1) y (by simpa using hy)
      have hs := minD_snoc (x := x) hy
      obtain ⟨m, hm⟩ : ∃ m, minD x (l.take j) = m := ⟨_, rfl⟩
      rw [hm] at hs ⊢
      have HS := Lib.hid hs
      have hjm : j < 1000000 := by omega
      have hlt1 : j + 1 < n + 1 := by omega
      clear hs hy hm
      go_wp2_with fail
      go_roundg (n - (j + 1))
      case measure => omega
      case rel => exact ⟨j + 1, by simp, by rw [HS.out], by omega, rfl, rfl⟩
    · obtain rfl : j = n := by omega
      have d1 : decide ((((j + 1 : Nat)) : Int) < (((j + 1 : Nat)) : Int)) = false := decide_eq_false (by omega)
      rw [List.take_of_length_le (by rw [HN.out]; exact Nat.le_refl _)]
      go_wp2_with fail
      go_ret
      exact ⟨rfl, rfl⟩
set_option maxRecDepth 100000 in
set_option maxHeartbeats 2000000 in
theorem maxL_any (g off cap : Nat) (x : Int) (l : List Int) (hl : l.length ≤ 1000000) (w : World) (hA : ∀ j v, (x :: l)[j]? = some v → w.cell? ⟨g, off + j, none⟩ = some (.int .i64 v)) :
    Calls Tryd.prog 53 #[.slice (some ⟨g, off, none⟩) (l.length + 1) cap] w fun e w' => e = .returned (.int .i64 (maxD x l)) ∧ w = w' := by
  have a0 := hA 0 x rfl
  rw [Nat.add_zero] at a0
  obtain ⟨n, hn⟩ : ∃ n, l.length = n := ⟨_, rfl⟩
  have HA := Lib.hid hA
  have HN := Lib.hid hn
  rw [hn] at hl ⊢
  have d0 : decide ((((n + 1 : Nat)) : Int) < 1) = false := decide_eq_false (by omega)
  clear hA hn
  go_enter Tryd.func53, Tryd.ntmps53
  go_wp2_with fail
  go_loopg [3, 4] n (fun k v3 v4 wr => ∃ (j : Nat), v4 = .int .i64 ((j + 1 : Nat) : Int) ∧ v3 = .int .i64 (maxD x (l.take j)) ∧ j ≤ n ∧ k = n - j ∧ w = wr)
  case atStart => exact ⟨0, rfl, rfl, Nat.zero_le _, rfl, rfl⟩
  case round =>
    obtain ⟨j, rfl, rfl, hj, rfl, rfl⟩ := hrel
    rcases Nat.lt_or_ge j n with hlt | hge
    · have d1 : decide ((((j + 1 : Nat)) : Int) < (((n + 1 : Nat)) : Int)) = true := decide_eq_true (by omega)
      obtain ⟨y, hy⟩ : ∃ y, l[j]? = some y := ⟨_, List.getElem?_eq_getElem (by rw [HN.out]; exact hlt)⟩
      have aj := HA.out (j + 1) y (by simpa using hy)
      have hs := maxD_snoc (x := x) hy
      obtain ⟨m, hm⟩ : ∃ m, maxD x (l.take j) = m := ⟨_, rfl⟩
      rw [hm] at hs ⊢
      have HS := Lib.hid hs
      have hjm : j < 1000000 := by omega
      have hlt1 : j + 1 < n + 1 := by omega
      clear hs hy hm
      go_wp2_with fail
      go_roundg (n - (j + 1))
      case measure => omega
      case rel => exact ⟨j + 1, by simp, by rw [HS.out], by omega, rfl, rfl⟩
    · obtain rfl : j = n := by omega
      have d1 : decide ((((j + 1 : Nat)) : Int) < (((j + 1 : Nat)) : Int)) = false := decide_eq_false (by omega)
      rw [List.take_of_length_le (by rw [HN.out]; exact Nat.le_refl _)]
      go_wp2_with fail
      go_ret
      exact ⟨rfl, rfl⟩
end Go.Proofs.YtaoooocalpkhjaaDoor
namespace Go.Proofs.YtaoooocalpkhjaaDoor
open Go.RowKit Go.Shelf
attribute [local go_sem] Oper.semAt_some

abbrev RowD := Option Addr × List Int × Nat
structure MachX where
  no : Option Addr
  rows : List RowD
  nc : Nat
  fo : Option Addr
  fits : List Int
  fc : Nat
abbrev MachX.v (m : MachX) : Value := .agg #[.slice m.no m.rows.length m.nc, .slice m.fo m.fits.length m.fc]
abbrev wkrV (m : MachX) (n : Int) : Value := .agg #[.slice m.no m.rows.length m.nc, .slice m.fo m.fits.length m.fc, .int .i64 n]
abbrev wkrO (m : MachX) (n : Int) : Obj := .cells #[.slice m.no m.rows.length m.nc, .slice m.fo m.fits.length m.fc, .int .i64 n] 63 (0, 0)
def RowsD (w : World) (o : Option Addr) (l : List RowD) : Prop := 0 < l.length → ∃ g off, o = some ⟨g, off, none⟩ ∧ ∀ (j : Nat) (x : RowD), l[j]? = some x → w.cell? ⟨g, off + j, none⟩ = some (.slice x.1 x.2.1.length x.2.2)
structure MachD (w : World) (m : MachX) : Prop where
  rows : RowsD w m.no m.rows
  row : ∀ x ∈ m.rows, NumsAt w x.1 x.2.1
  fits : NumsAt w m.fo m.fits
theorem RowsD.below {w w' : World} {o : Option Addr} {l : List RowD} (h : RowsD w o l) (hb : Below w.heap.size w w') : RowsD w' o l := fun hn => by
  obtain ⟨g, off, ho, hc⟩ := h hn
  exact ⟨g, off, ho, fun j x hx => cell_keepQ hb (hc j x hx)⟩
theorem MachD.below {w w' : World} {m : MachX} (h : MachD w m) (hb : Below w.heap.size w w') : MachD w' m := ⟨h.rows.below hb, fun x hx => (h.row x hx).below hb, h.fits.below hb⟩
def rowB (k : Nat) (n : Int) (l : List Int) : Bool := decide ((l.length : Int) = n + 1 ∧ ∀ v ∈ l, 0 ≤ v ∧ v < (k : Nat))
def machB (rows : List (List Int)) (fits : List Int) (n : Int) : Bool :=
  rightZ 0 n && decide (1 ≤ rows.length ∧ rows.length ≤ 300 ∧ rows.length = fits.length) && rows.all (rowB rows.length n) && decide (∀ v ∈ fits, 0 ≤ v ∧ v < 1099511627776)
theorem wkr_cells {w : World} {k : Nat} {t : TypeId} {a b c : Value} (h : w.heap[k]? = some (.cells #[a, b, c] t (0, 0))) : w.cell? ⟨k, 0, none⟩ = some a ∧ w.cell? ⟨k, 1, none⟩ = some b ∧ w.cell? ⟨k, 2, none⟩ = some c := by
  refine ⟨?_, ?_, ?_⟩
  · rw [cell_of_row _ _ 0 _ _ _ h]; rfl
  · rw [cell_of_row _ _ 1 _ _ _ h]; rfl
  · rw [cell_of_row _ _ 2 _ _ _ h]; rfl
theorem wrap_one (n : Int) (h0 : 0 ≤ n) (h1 : n ≤ 32) : wrap64 (n + 1) = n + 1 := wrap_idK (by omega) (by omega)
set_option maxRecDepth 100000 in
set_option maxHeartbeats 4000000 in
theorem rightD_any (m : MachX) (n : Int) (w : World) (hM : MachD w m) (hz : m.rows.length ≤ 1000000000) (hz2 : m.fits.length ≤ 1000000000) :
    Calls Tryd.prog 32 #[wkrV m n] w fun e w' => e = .returned (.bool (machB (m.rows.map (·.2.1)) m.fits n)) ∧ Below w.heap.size w w' := by
  obtain ⟨no, rows, nc, fo, fits, fc⟩ := m
  obtain ⟨P, hP⟩ : ∃ P, (fun (e : Ending) (w' : World) => e = .returned (.bool (machB (rows.map (·.2.1)) fits n)) ∧ Below w.heap.size w w') = P := ⟨_, rfl⟩
  have HP := Lib.hid hP
  show Calls _ _ #[.agg #[.slice no rows.length nc, .slice fo fits.length fc, .int .i64 n]] _ _
  simp only at hz hz2 ⊢
  rw [hP]
  obtain ⟨w1, hw1⟩ : ∃ w1, w.alloc (.cells #[.slice no rows.length nc, .slice fo fits.length fc, .int .i64 n] 63) = w1 := ⟨_, rfl⟩
  have b1 : Below w.heap.size w w1 := by rw [← hw1]; exact (Below.refl _ _).alloc (Nat.le_refl _) _
  have r1 : w1.heap[w.heap.size]? = some (.cells #[.slice no rows.length nc, .slice fo fits.length fc, .int .i64 n] 63 (0, 0)) := by rw [← hw1]; exact heap_alloc_new _ _
  obtain ⟨c0, c1, c2⟩ := wkr_cells r1
  have HR := Lib.hid (Right_anyK 0 n w1)
  have HW1 := Lib.hid hw1
  have HB1 := Lib.hid b1
  have HR1 := Lib.hid r1
  have HM := Lib.hid (hM.below b1)
  have z1 := World.block_lt_of_cell? w1 _ c0
  have HPP : Hid (∀ (b : Bool) (W : World), b = machB (rows.map (·.2.1)) fits n → Below w1.heap.size w1 W → P (.returned (.bool b)) W) := Lib.hid fun b W hb hW => by
    rw [← HP.out]
    exact ⟨by rw [hb], HB1.out.trans (hW.mono HB1.out.size)⟩
  obtain ⟨s, hs⟩ : ∃ s, rows.length = s := ⟨_, rfl⟩
  obtain ⟨f, hf⟩ : ∃ f, fits.length = f := ⟨_, rfl⟩
  have HS := Lib.hid hs
  have HF := Lib.hid hf
  obtain ⟨r, hr⟩ : ∃ r, rightZ 0 n = r := ⟨_, rfl⟩
  have HRZ := Lib.hid hr
  rw [hr] at HR
  rw [hs] at hz c0 HW1 ⊢
  rw [hf] at hz2 c1 HW1 ⊢
  clear hP hw1 b1 r1 hM hs hf hr
  go_enter Tryd.func32, Tryd.ntmps32
  go_wp2_with fail
  rw [HW1.out]
  go_wp2_with fail
  refine HR.out.mono ?_
  rintro e w2 ⟨rfl, b2⟩
  have e0 := cell_keepQ b2 c0
  have e1 := cell_keepQ b2 c1
  have e2 := cell_keepQ b2 c2
  have z2 : w.heap.size < w2.heap.size := World.block_lt_of_cell? w2 _ e0
  have HB2 := Lib.hid b2
  have HM2 := Lib.hid (HM.out.below b2)
  have HQF : Hid (machB (rows.map (·.2.1)) fits n = false → P (.returned (.bool false)) w2) := Lib.hid fun h => HPP.out false w2 h.symm HB2.out
  have hw1z := HB1.out.size
  clear b2 c0 c1 c2 HM
  cases r with
  | false =>
    have HQ := Lib.hid (HQF.out (by unfold machB; rw [HRZ.out]; rfl))
    clear HQF HPP
    go_wp2_with fail
    exact HQ.out
  | true =>
    have hn : 1 ≤ n ∧ n ≤ 32 := by
      have h := HRZ.out
      unfold rightZ at h
      have := of_decide_eq_true h
      exact ⟨this.1, this.2.1⟩
    have hwr := wrap_one n (by omega) hn.2
    have hwr' : IntKind.i64.wrap (n + 1) = n + 1 := by rw [IntKind.wrap_i64]; omega
    by_cases h1 : s < 1
    · have d1 : decide (((s : Nat) : Int) < 1) = true := decide_eq_true (by omega)
      have HQ := Lib.hid (HQF.out (by unfold machB; rw [List.length_map, HS.out, decide_eq_false (show ¬ (1 ≤ s ∧ s ≤ 300 ∧ s = fits.length) by omega), Bool.and_false]; simp))
      clear HQF HPP
      go_wp2_with fail
      exact HQ.out
    have d1 : decide (((s : Nat) : Int) < 1) = false := decide_eq_false (by omega)
    by_cases h2 : 300 < s
    · have d2 : decide ((300 : Int) < ((s : Nat) : Int)) = true := decide_eq_true (by omega)
      have HQ := Lib.hid (HQF.out (by unfold machB; rw [List.length_map, HS.out, decide_eq_false (show ¬ (1 ≤ s ∧ s ≤ 300 ∧ s = fits.length) by omega), Bool.and_false]; simp))
      clear HQF HPP
      go_wp2_with fail
      exact HQ.out
    have d2 : decide ((300 : Int) < ((s : Nat) : Int)) = false := decide_eq_false (by omega)
    by_cases h3 : ¬ s = f
    · have d3 : (((s : Nat) : Int) != ((f : Nat) : Int)) = true := by simp; omega
      have HQ := Lib.hid (HQF.out (by unfold machB; rw [List.length_map, HS.out, HF.out, decide_eq_false (show ¬ (1 ≤ s ∧ s ≤ 300 ∧ s = f) by omega), Bool.and_false]; simp))
      clear HQF HPP
      go_wp2_with fail
      exact HQ.out
    have h3 := Decidable.not_not.1 h3
    have d3 : (((s : Nat) : Int) != ((f : Nat) : Int)) = false := by simp; omega
    have HMB : Hid (machB (rows.map (·.2.1)) fits n = ((rows.map (·.2.1)).all (rowB s n) && decide (∀ v ∈ fits, 0 ≤ v ∧ v < 1099511627776))) := Lib.hid (by
      unfold machB
      rw [List.length_map, HS.out, HF.out, HRZ.out, decide_eq_true (show 1 ≤ s ∧ s ≤ 300 ∧ s = f by omega), Bool.true_and, Bool.true_and])
    go_wp2_with fail
    go_loopg [34] s (fun k v wr => ∃ (j : Nat), v = .int .i64 (j : Nat) ∧ j ≤ s ∧ k = s - j ∧ Hid (∀ x ∈ rows.take j, rowB s n x.2.1 = true) ∧ w2 = wr)
    case atStart => exact ⟨0, rfl, Nat.zero_le _, rfl, Lib.hid (by simp), rfl⟩
    case round =>
      obtain ⟨j, rfl, hj, rfl, HA, rfl⟩ := hrel
      rcases Nat.lt_or_ge j s with hlt | hge
      · have q1 : decide (((j : Nat) : Int) < ((s : Nat) : Int)) = true := decide_eq_true (by omega)
        obtain ⟨x, hx⟩ : ∃ x, rows[j]? = some x := ⟨_, List.getElem?_eq_getElem (by rw [HS.out]; exact hlt)⟩
        have hxm := List.mem_of_getElem? hx
        obtain ⟨g, off, rfl, hc⟩ := HM2.out.rows (by show 0 < rows.length; rw [HS.out]; omega)
        have cj := hc j x hx
        have hrow := HM2.out.row x hxm
        have HQR : Hid (rowB s n x.2.1 = false → P (.returned (.bool false)) w2) := Lib.hid fun h => HQF.out (by
          rw [HMB.out]
          have : (rows.map (·.2.1)).all (rowB s n) = false := by
            rw [List.all_eq_false]
            exact ⟨x.2.1, List.mem_map.2 ⟨x, hxm, rfl⟩, by rw [h]; simp⟩
          rw [this, Bool.false_and])
        have HNX : Hid (rowB s n x.2.1 = true → ∀ y ∈ rows.take (j + 1), rowB s n y.2.1 = true) := Lib.hid fun h y hy => by
          rw [List.take_add_one, hx, Option.toList_some, List.mem_append] at hy
          rcases hy with hy | hy
          · exact HA.out y hy
          · rw [List.mem_singleton.1 hy]; exact h
        obtain ⟨xo, xs, xc⟩ := x
        simp only at cj hrow HQR HNX
        obtain ⟨L, hL⟩ : ∃ L, xs.length = L := ⟨_, rfl⟩
        have hjm : j < 1000000 := by omega
        clear hx hxm hc HA HPP
        by_cases h4 : ¬ ((L : Nat) : Int) = n + 1
        · have q2 : (((L : Nat) : Int) != n + 1) = true := by simp; omega
          have HQ := Lib.hid (HQR.out (by unfold rowB; rw [hL]; exact decide_eq_false (fun h => h4 h.1)))
          rw [hL] at cj
          clear HQF HQR hrow
          go_wp2_with fail
          exact HQ.out
        have h4 := Decidable.not_not.1 h4
        have q2 : (((L : Nat) : Int) != n + 1) = false := by simp; omega
        obtain ⟨l1, rfl⟩ : ∃ l1, L = l1 + 1 := ⟨L - 1, by omega⟩
        obtain ⟨y, l, rfl⟩ : ∃ y l, xs = y :: l := by
          cases xs with
          | nil => simp at hL
          | cons y l => exact ⟨y, l, rfl⟩
        obtain ⟨gg, oo, rfl, hcc⟩ := hrow (by simp)
        have hll : l.length = l1 := by simpa using hL
        have HMI := Lib.hid (minI_any gg oo xc y l (by omega) w2 hcc)
        have HMA := Lib.hid (maxI_any gg oo xc y l (by omega) w2 hcc)
        rw [hll] at HMI HMA
        rw [hL] at cj
        have g1 := minD_ge 0 l y
        have g2 := maxD_lt ((s : Nat) : Int) l y
        obtain ⟨mi, hmi⟩ : ∃ q, minD y l = q := ⟨_, rfl⟩
        obtain ⟨ma, hma⟩ : ∃ q, maxD y l = q := ⟨_, rfl⟩
        rw [hmi] at HMI g1
        rw [hma] at HMA g2
        have HG : Hid (rowB s n (y :: l) = (decide (0 ≤ mi) && decide (ma < ((s : Nat) : Int)))) := Lib.hid (by
          unfold rowB
          rw [← Bool.decide_and]
          refine decide_eq_decide.2 ⟨fun h => ⟨g1.2 fun v hv => (h.2 v hv).1, g2.2 fun v hv => (h.2 v hv).2⟩, fun h => ⟨by rw [hL]; exact h4, fun v hv => ⟨g1.1 h.1 v hv, g2.1 h.2 v hv⟩⟩⟩)
        clear hcc hrow g1 g2 hmi hma hll
        by_cases h5 : mi < 0
        · have q3 : decide (mi < 0) = true := decide_eq_true h5
          have HQ := Lib.hid (HQR.out (by rw [HG.out, decide_eq_false (show ¬ (0 ≤ mi) by omega), Bool.false_and]))
          clear HQF HQR HNX
          go_wp2_with fail
          refine HMI.out.mono ?_
          rintro e _ ⟨rfl, rfl⟩
          go_wp2_with fail
          exact HQ.out
        have q3 : decide (mi < 0) = false := decide_eq_false h5
        by_cases h6 : ¬ ma < ((s : Nat) : Int)
        · have q4 : decide (((s : Nat) : Int) ≤ ma) = true := decide_eq_true (by omega)
          have HQ := Lib.hid (HQR.out (by rw [HG.out, decide_eq_false h6, Bool.and_false]))
          clear HQF HQR HNX
          go_wp2_with fail
          refine HMI.out.mono ?_
          rintro e _ ⟨rfl, rfl⟩
          go_wp2_with fail
          refine HMA.out.mono ?_
          rintro e _ ⟨rfl, rfl⟩
          go_wp2_with fail
          exact HQ.out
        have h6 := Decidable.not_not.1 h6
        have q4 : decide (((s : Nat) : Int) ≤ ma) = false := decide_eq_false (by omega)
        have HN2 := Lib.hid (HNX.out (by rw [HG.out, decide_eq_true h6, decide_eq_true (show 0 ≤ mi by omega)]; rfl))
        clear HQF HQR HNX
        go_wp2_with fail
        refine HMI.out.mono ?_
        rintro e _ ⟨rfl, rfl⟩
        go_wp2_with fail
        refine HMA.out.mono ?_
        rintro e _ ⟨rfl, rfl⟩
        go_wp2_with fail
        go_roundg (s - (j + 1))
        case measure => omega
        case rel => exact ⟨j + 1, by simp, by omega, rfl, HN2, rfl⟩
      · obtain rfl : j = s := by omega
        have q1 : decide (((j : Nat) : Int) < ((j : Nat) : Int)) = false := decide_eq_false (by omega)
        have hall : (rows.map (·.2.1)).all (rowB j n) = true := by
          rw [List.all_eq_true]
          intro q hq
          obtain ⟨x, hx, rfl⟩ := List.mem_map.1 hq
          exact HA.out x (by rw [List.take_of_length_le (by rw [HS.out]; exact Nat.le_refl _)]; exact hx)
        have hmb := HMB.out
        rw [hall, Bool.true_and] at hmb
        obtain ⟨y, l, hyl⟩ : ∃ y l, fits = y :: l := by
          cases hfl : fits with
          | nil => have := HF.out; rw [hfl] at this; simp at this; omega
          | cons y l => exact ⟨y, l, rfl⟩
        subst hyl
        obtain ⟨gg, oo, rfl, hcc⟩ := HM2.out.fits (by simp)
        obtain ⟨f1, rfl⟩ : ∃ f1, f = f1 + 1 := ⟨f - 1, by omega⟩
        have hll : l.length = f1 := by have := HF.out; simpa using this
        have HMI := Lib.hid (minL_any gg oo fc y l (by omega) w2 hcc)
        have HMA := Lib.hid (maxL_any gg oo fc y l (by omega) w2 hcc)
        rw [hll] at HMI HMA
        have g1 := minD_ge 0 l y
        have g2 := maxD_lt 1099511627776 l y
        obtain ⟨mi, hmi⟩ : ∃ q, minD y l = q := ⟨_, rfl⟩
        obtain ⟨ma, hma⟩ : ∃ q, maxD y l = q := ⟨_, rfl⟩
        rw [hmi] at HMI g1
        rw [hma] at HMA g2
        have hG : decide (∀ v ∈ y :: l, 0 ≤ v ∧ v < 1099511627776) = (decide (0 ≤ mi) && decide (ma < 1099511627776)) := by
          rw [← Bool.decide_and]
          exact decide_eq_decide.2 ⟨fun h => ⟨g1.2 fun v hv => (h v hv).1, g2.2 fun v hv => (h v hv).2⟩, fun h v hv => ⟨g1.1 h.1 v hv, g2.1 h.2 v hv⟩⟩
        rw [hG] at hmb
        have HQ : Hid (P (.returned (.bool (decide (0 ≤ mi) && decide (ma < 1099511627776)))) w2) := Lib.hid (HPP.out _ w2 hmb.symm HB2.out)
        clear hcc g1 g2 hmi hma hll hG hmb hall HA HPP HQF HMB HF HS
        by_cases h5 : 0 ≤ mi
        · have q3 : decide (0 ≤ mi) = true := decide_eq_true h5
          rw [q3, Bool.true_and] at HQ
          obtain ⟨b, hb⟩ : ∃ b, decide (ma < 1099511627776) = b := ⟨_, rfl⟩
          rw [hb] at HQ
          go_wp2_with fail
          refine HMI.out.mono ?_
          rintro e _ ⟨rfl, rfl⟩
          go_wp2_with fail
          refine HMA.out.mono ?_
          rintro e _ ⟨rfl, rfl⟩
          go_wp2_with fail
          exact HQ.out
        · have q3 : decide (0 ≤ mi) = false := decide_eq_false h5
          rw [q3, Bool.false_and] at HQ
          go_wp2_with fail
          refine HMI.out.mono ?_
          rintro e _ ⟨rfl, rfl⟩
          go_wp2_with fail
          exact HQ.out
end Go.Proofs.YtaoooocalpkhjaaDoor
namespace Go.Proofs.YtaoooocalpkhjaaDoor
open Go.RowKit Go.Shelf
attribute [local go_sem] Oper.semAt_some

structure GlobD (w : World) (aR aM : Addr) : Prop where
  rul : w.cell? ⟨0, 0, none⟩ = some (errVQ aR)
  mac : w.cell? ⟨1, 0, none⟩ = some (errVQ aM)
  ne : aR ≠ aM
  rowR : ∃ c t, w.heap[aR.block]? = some (.cells c t (0, 0))
  rowM : ∃ c t, w.heap[aM.block]? = some (.cells c t (0, 0))
  ltR : 0 < w.heap.size
  ltM : 1 < w.heap.size
theorem GlobD.lt_aR {w : World} {aR aM : Addr} (h : GlobD w aR aM) : aR.block < w.heap.size := by
  obtain ⟨c, t, hc⟩ := h.rowR
  exact (Array.getElem?_eq_some_iff.1 hc).1
theorem GlobD.lt_aM {w : World} {aR aM : Addr} (h : GlobD w aR aM) : aM.block < w.heap.size := by
  obtain ⟨c, t, hc⟩ := h.rowM
  exact (Array.getElem?_eq_some_iff.1 hc).1
theorem GlobD.keep {w w' : World} {aR aM : Addr} (h : GlobD w aR aM) (hs : w.heap.size ≤ w'.heap.size) (hb : ∀ k, k < w.heap.size → w'.heap[k]? = w.heap[k]?) : GlobD w' aR aM where
  rul := (World.cell?_of_block (w := w) (hb _ h.ltR)).trans h.rul
  mac := (World.cell?_of_block (w := w) (hb _ h.ltM)).trans h.mac
  ne := h.ne
  rowR := by obtain ⟨c, t, hc⟩ := h.rowR; exact ⟨c, t, (hb _ h.lt_aR).trans hc⟩
  rowM := by obtain ⟨c, t, hc⟩ := h.rowM; exact ⟨c, t, (hb _ h.lt_aM).trans hc⟩
  ltR := Nat.lt_of_lt_of_le h.ltR hs
  ltM := Nat.lt_of_lt_of_le h.ltM hs
theorem GlobD.below {w w' : World} {aR aM : Addr} (h : GlobD w aR aM) (hb : Below w.heap.size w w') : GlobD w' aR aM := h.keep hb.size hb.block
theorem GlobD.drew {w : World} {aR aM : Addr} (h : GlobD w aR aM) : GlobD w.drew aR aM := h.keep (Nat.le_refl _) fun _ _ => rfl
theorem is_usD {w : World} {aR aM : Addr} (h : GlobD w aR aM) : Calls Tryd.prog 48 #[errVQ aM, errVQ aR] w fun e w' => e = .returned (.bool false) ∧ w = w' := by
  obtain ⟨c, t, hc⟩ := h.rowR
  obtain ⟨d, u, hd⟩ := h.rowM
  exact is_otherQ aM aR d c u t w h.ne.symm hd hc
theorem number_nilD {w : World} {aR aM : Addr} (h : GlobD w aR aM) : Calls Tryd.prog 31 #[.nilIface] w fun e w' => e = .returned (.int .i64 0) ∧ w = w' := by
  have hu := h.rul
  have hs := h.mac
  go_enter Tryd.func31, Tryd.ntmps31
  go_wp2_with fail
  refine (is_nilQ aR _).mono ?_
  rintro e w' ⟨rfl, rfl⟩
  go_wp2_with fail
  refine (is_nilQ aM _).mono ?_
  rintro e w' ⟨rfl, rfl⟩
  go_wp2
  go_ret
  exact ⟨rfl, rfl⟩
theorem number_rulD {w : World} {aR aM : Addr} (h : GlobD w aR aM) : Calls Tryd.prog 31 #[errVQ aR] w fun e w' => e = .returned (.int .i64 90) ∧ w = w' := by
  have hu := h.rul
  have hs := h.mac
  go_enter Tryd.func31, Tryd.ntmps31
  go_wp2_with fail
  refine (is_sameQ aR _).mono ?_
  rintro e w' ⟨rfl, rfl⟩
  go_wp2
  go_ret
  exact ⟨rfl, rfl⟩
theorem number_macD {w : World} {aR aM : Addr} (h : GlobD w aR aM) : Calls Tryd.prog 31 #[errVQ aM] w fun e w' => e = .returned (.int .i64 100) ∧ w = w' := by
  have hu := h.rul
  have hs := h.mac
  have HU := Lib.hid (is_usD h)
  go_enter Tryd.func31, Tryd.ntmps31
  go_wp2_with fail
  refine HU.out.mono ?_
  rintro e w' ⟨rfl, rfl⟩
  go_wp2_with fail
  refine (is_sameQ aM _).mono ?_
  rintro e w' ⟨rfl, rfl⟩
  go_wp2
  go_ret
  exact ⟨rfl, rfl⟩
def classD (n c : Int) : Int := if 0 ≤ c ∧ c < n then c else n
set_option maxRecDepth 100000 in
set_option maxHeartbeats 1000000 in
theorem classD_any (m : MachX) (n c : Int) (w : World) : Calls Tryd.prog 67 #[wkrV m n, .int .i64 c] w fun e w' => e = .returned (.int .i64 (classD n c)) ∧ Below w.heap.size w w' := by
  obtain ⟨no, rows, nc, fo, fits, fc⟩ := m
  show Calls _ _ #[.agg #[.slice no rows.length nc, .slice fo fits.length fc, .int .i64 n], .int .i64 c] _ _
  obtain ⟨w1, hw1⟩ : ∃ w1, w.alloc (.cells #[.slice no rows.length nc, .slice fo fits.length fc, .int .i64 n] 63) = w1 := ⟨_, rfl⟩
  have b1 : Below w.heap.size w w1 := by rw [← hw1]; exact (Below.refl _ _).alloc (Nat.le_refl _) _
  have r1 : w1.heap[w.heap.size]? = some (.cells #[.slice no rows.length nc, .slice fo fits.length fc, .int .i64 n] 63 (0, 0)) := by rw [← hw1]; exact heap_alloc_new _ _
  obtain ⟨c0, c1, c2⟩ := wkr_cells r1
  have HW1 := Lib.hid hw1
  have HB1 := Lib.hid b1
  clear hw1 b1 r1
  have h1z := World.block_lt_of_cell? w1 _ c0
  obtain ⟨s, hs⟩ : ∃ s, rows.length = s := ⟨_, rfl⟩
  obtain ⟨f, hf⟩ : ∃ f, fits.length = f := ⟨_, rfl⟩
  rw [hs, hf] at HW1
  rw [hs] at c0
  rw [hf] at c1
  rw [hs, hf]
  clear hs hf
  by_cases h1 : c < 0
  · have d1 : decide (c < 0) = true := decide_eq_true h1
    have HE : Hid (classD n c = n) := Lib.hid (by unfold classD; rw [if_neg (by omega)])
    rw [HE.out]
    go_enter Tryd.func67, Tryd.ntmps67
    go_wp2_with fail
    rw [HW1.out]
    go_wp2_with fail
    go_ret
    exact ⟨rfl, HB1.out⟩
  have d1 : decide (c < 0) = false := decide_eq_false h1
  by_cases h2 : n ≤ c
  · have d2 : decide (n ≤ c) = true := decide_eq_true h2
    have HE : Hid (classD n c = n) := Lib.hid (by unfold classD; rw [if_neg (by omega)])
    rw [HE.out]
    go_enter Tryd.func67, Tryd.ntmps67
    go_wp2_with fail
    rw [HW1.out]
    go_wp2_with fail
    go_ret
    exact ⟨rfl, HB1.out⟩
  have d2 : decide (n ≤ c) = false := decide_eq_false h2
  have HE : Hid (classD n c = c) := Lib.hid (by unfold classD; rw [if_pos (by omega)])
  rw [HE.out]
  go_enter Tryd.func67, Tryd.ntmps67
  go_wp2_with fail
  rw [HW1.out]
  go_wp2_with fail
  go_ret
  exact ⟨rfl, HB1.out⟩
theorem stateD_any (m : MachX) (n c : Int) (w : World) : Calls Tryd.prog 30 #[wkrV m n, .int .i64 c] w fun e w' => e = .returned (.int .i64 c) ∧ Below w.heap.size w w' := by
  go_enter Tryd.func30, Tryd.ntmps30
  go_wp2
  go_ret
  exact ⟨rfl, (Below.refl _ _).alloc (Nat.le_refl _) _⟩
set_option maxRecDepth 100000 in
set_option maxHeartbeats 1000000 in
theorem fitsD_any (m : MachX) (n : Int) (s : Nat) (v : Int) (hs : m.fits[s]? = some v) (hs2 : s < 1000000) (w : World) (hM : MachD w m) : Calls Tryd.prog 44 #[wkrV m n, .int .i64 (s : Nat)] w fun e w' => e = .returned (.int .i64 v) ∧ Below w.heap.size w w' := by
  obtain ⟨no, rows, nc, fo, fits, fc⟩ := m
  show Calls _ _ #[.agg #[.slice no rows.length nc, .slice fo fits.length fc, .int .i64 n], .int .i64 (s : Nat)] _ _
  obtain ⟨w1, hw1⟩ : ∃ w1, w.alloc (.cells #[.slice no rows.length nc, .slice fo fits.length fc, .int .i64 n] 63) = w1 := ⟨_, rfl⟩
  have b1 : Below w.heap.size w w1 := by rw [← hw1]; exact (Below.refl _ _).alloc (Nat.le_refl _) _
  have r1 : w1.heap[w.heap.size]? = some (.cells #[.slice no rows.length nc, .slice fo fits.length fc, .int .i64 n] 63 (0, 0)) := by rw [← hw1]; exact heap_alloc_new _ _
  obtain ⟨c0, c1, c2⟩ := wkr_cells r1
  simp only at hs
  have hlt := (List.getElem?_eq_some_iff.1 hs).1
  obtain ⟨g, off, rfl, hc⟩ := (hM.below b1).fits (by show 0 < fits.length; omega)
  have cs := hc s v hs
  have HW1 := Lib.hid hw1
  have HB1 := Lib.hid b1
  have h1z := World.block_lt_of_cell? w1 _ c0
  obtain ⟨sr, hsr⟩ : ∃ s, rows.length = s := ⟨_, rfl⟩
  obtain ⟨f, hf⟩ : ∃ f, fits.length = f := ⟨_, rfl⟩
  rw [hsr, hf] at HW1
  rw [hsr] at c0
  rw [hf] at c1 hlt
  rw [hsr, hf]
  rw [← HW1.out] at cs
  clear hw1 b1 r1 hc hM hs hsr hf c0 c1 c2 h1z
  go_enter Tryd.func44, Tryd.ntmps44
  go_wp2_with fail
  go_ret
  exact ⟨rfl, by rw [HW1.out]; exact HB1.out⟩
end Go.Proofs.YtaoooocalpkhjaaDoor
namespace Go.Proofs.YtaoooocalpkhjaaDoor
open Go.RowKit Go.Shelf
attribute [local go_sem] Oper.semAt_some

abbrev MachX.B (m : MachX) (n : Int) : Bool := machB (m.rows.map (·.2.1)) m.fits n
def WlkR (m : MachX) (n : Int) (aM : Addr) (w : World) (e : Ending) (w' : World) : Prop :=
  e = .returned (.tuple (if m.B n = true then #[wkrV m n, .nilIface] else #[.agg #[.slice none 0 0, .slice none 0 0, .int .i64 0], errVQ aM])) ∧ Below w.heap.size w w'
theorem three_setD {w : World} {g : Nat} {u v x : Value} {t : TypeId} (a b c : Value) (h : w.heap[g]? = some (.cells #[u, v, x] t (0, 0))) :
    (((w.setCell ⟨g, 0, none⟩ a).setCell ⟨g, 1, none⟩ b).setCell ⟨g, 2, none⟩ c).heap[g]? = some (.cells #[a, b, c] t (0, 0)) ∧ Moves (fun k => k = g) w (((w.setCell ⟨g, 0, none⟩ a).setCell ⟨g, 1, none⟩ b).setCell ⟨g, 2, none⟩ c) := by
  have h1 : (w.setCell ⟨g, 0, none⟩ a).heap[g]? = some (.cells #[a, v, x] t (0, 0)) := by rw [heap_setCell_same _ _ _ _ _ _ h]; rfl
  have h2 : ((w.setCell ⟨g, 0, none⟩ a).setCell ⟨g, 1, none⟩ b).heap[g]? = some (.cells #[a, b, x] t (0, 0)) := by rw [heap_setCell_same _ _ _ _ _ _ h1]; rfl
  exact ⟨by rw [heap_setCell_same _ _ _ _ _ _ h2]; rfl, ((Moves.setCell (S := fun k => k = g) rfl).trans (Moves.setCell (S := fun k => k = g) rfl)).trans (Moves.setCell (S := fun k => k = g) rfl)⟩
theorem results_cell_tmpD {P : Program} {fn : Func} {p q : Tmp} {ty : TypeId} (h : fn.results = #[.cell p ty, .tmp q]) (tmps : Array Value) (w : World) (g : Nat) (t : TypeId) (cs : Array Value) (fr : Nat × Nat) (d : TypeDesc) (v : Value)
    (hp : tmps.getD p undef = .pointer (some ⟨g, 0, none⟩)) (hq : tmps.getD q undef = v) (hg : w.heap[g]? = some (.cells cs t fr))
    (hu : P.underlying ty = some d) (hd : (match d with | .struct _ | .array _ _ => true | _ => false) = true) (hi : (P.info? ty).map (·.size) = some cs.size) :
    (results fn tmps).run P w = .ok (.tuple #[.agg cs, v]) w := by
  have hp' : tmps[p]?.getD undef = .pointer (some ⟨g, 0, none⟩) := by simpa using hp
  have hq' : tmps[q]?.getD undef = v := by simpa using hq
  simp [results, h, hp', hq', asAddr, run_loadVar_row w g t ty cs fr d hg hu hd hi]
abbrev wkrZ : Obj := .cells #[.slice none 0 0, .slice none 0 0, .int .i64 0] 63 (0, 0)
set_option maxRecDepth 100000 in
set_option maxHeartbeats 4000000 in
theorem walkerOf_any (m : MachX) (n : Int) (w : World) (aR aM : Addr) (hG : GlobD w aR aM) (hM : MachD w m) (hz : m.rows.length ≤ 1000000000) (hz2 : m.fits.length ≤ 1000000000) :
    Calls Tryd.prog 46 #[m.v, .int .i64 n] w (WlkR m n aM w) := by
  obtain ⟨P, hP⟩ : ∃ P, WlkR m n aM w = P := ⟨_, rfl⟩
  have HP := Lib.hid hP
  rw [hP]
  obtain ⟨b, hb⟩ : ∃ b, m.B n = b := ⟨_, rfl⟩
  obtain ⟨w3, hw3⟩ : ∃ w3, ((w.alloc (.cells #[.slice m.no m.rows.length m.nc, .slice m.fo m.fits.length m.fc] 25)).alloc wkrZ).alloc (wkrO m n) = w3 := ⟨_, rfl⟩
  have b3 : Below w.heap.size w w3 := by rw [← hw3]; exact (((Below.refl _ _).alloc (Nat.le_refl _) _).alloc (by simp) _).alloc (by simp; omega) _
  have r13' : w3.heap[w.heap.size + 1]? = some wkrZ := by
    rw [← hw3, Below.heap_alloc _ _ _ (by simp)]
    have := heap_alloc_new (w.alloc (.cells #[.slice m.no m.rows.length m.nc, .slice m.fo m.fits.length m.fc] 25)) wkrZ
    rwa [World.size_alloc] at this
  have r3 : w3.heap[w.heap.size + 1 + 1]? = some (wkrO m n) := by
    rw [← hw3]
    have := heap_alloc_new ((w.alloc (.cells #[.slice m.no m.rows.length m.nc, .slice m.fo m.fits.length m.fc] 25)).alloc wkrZ) (wkrO m n)
    rwa [World.size_alloc, World.size_alloc] at this
  have r13 := r13'
  have HR := Lib.hid (rightD_any m n w3 (hM.below b3) hz hz2)
  rw [show machB (m.rows.map (·.2.1)) m.fits n = b from hb] at HR
  obtain ⟨c0, c1, c2⟩ := wkr_cells r3
  have h3z := World.block_lt_of_cell? w3 _ c0
  have HB3 := Lib.hid b3
  have HR3 := Lib.hid r3
  have HR13 := Lib.hid r13
  have HG := Lib.hid hG
  have HBB := Lib.hid hb
  have HW3 := Lib.hid hw3
  obtain ⟨no, rows, nc, fo, fits, fc⟩ := m
  simp only at c0 c1 HW3 HR HR3
  show Calls _ _ #[.agg #[.slice no rows.length nc, .slice fo fits.length fc], .int .i64 n] _ _
  replace HR3 : Hid (w3.heap[w.heap.size + 1 + 1]? = some (.cells #[.slice no rows.length nc, .slice fo fits.length fc, .int .i64 n] 63 (0, 0))) := HR3
  replace HW3 : Hid (((w.alloc (.cells #[.slice no rows.length nc, .slice fo fits.length fc] 25)).alloc (.cells #[.slice none 0 0, .slice none 0 0, .int .i64 0] 63)).alloc (.cells #[.slice no rows.length nc, .slice fo fits.length fc, .int .i64 n] 63) = w3) := HW3
  obtain ⟨s, hs⟩ : ∃ s, rows.length = s := ⟨_, rfl⟩
  obtain ⟨f, hf⟩ : ∃ f, fits.length = f := ⟨_, rfl⟩
  have HS := Lib.hid hs
  have HF := Lib.hid hf
  rw [hs, hf] at HW3 HR3
  rw [hs] at c0
  rw [hf] at c1
  replace HR : Hid (Calls Tryd.prog 32 #[.agg #[.slice no s nc, .slice fo f fc, .int .i64 n]] w3 fun e w' => e = .returned (.bool b) ∧ Below w3.heap.size w3 w') := by rw [← hs, ← hf]; exact HR
  rw [hs, hf]
  clear hP hb r3 hw3 b3 r13 r13' hM hG hz hz2 hs hf
  go_enter Tryd.func46, Tryd.ntmps46
  go_wp2_with fail
  rw [HW3.out]
  go_wp2_with fail
  refine HR.out.mono ?_
  rintro e w4 ⟨rfl, b4⟩
  have hr4 := row_below HR13.out b4
  have hr5 := row_below HR3.out b4
  obtain ⟨d0, d1, d2⟩ := wkr_cells hr4
  obtain ⟨e0, e1, e2⟩ := wkr_cells hr5
  have f0 : w4.frozen? ⟨w.heap.size + 1, 0, none⟩ = false := frozen_of_row _ _ _ _ _ hr4
  have f1 : w4.frozen? ⟨w.heap.size + 1, 1, none⟩ = false := frozen_of_row _ _ _ _ _ hr4
  have f2 : w4.frozen? ⟨w.heap.size + 1, 2, none⟩ = false := frozen_of_row _ _ _ _ _ hr4
  have l4 : w.heap.size + 1 + 1 < w4.heap.size := World.block_lt_of_cell? w4 _ e0
  have HB4 := Lib.hid (HB3.out.trans (b4.mono HB3.out.size))
  have hg4 := (HG.out.below HB4.out).mac
  cases b with
  | false =>
    obtain ⟨q1, q2⟩ := three_setD (.slice none 0 0) (.slice none 0 0) (.int .i64 0) hr4
    obtain ⟨w7, hw7⟩ : ∃ w7, ((w4.setCell ⟨w.heap.size + 1, 0, none⟩ (.slice none 0 0)).setCell ⟨w.heap.size + 1, 1, none⟩ (.slice none 0 0)).setCell ⟨w.heap.size + 1, 2, none⟩ (.int .i64 0) = w7 := ⟨_, rfl⟩
    rw [hw7] at q1 q2
    have HW7 := Lib.hid hw7
    have HR7 := Lib.hid q1
    have HQ : Hid (P (.returned (.tuple #[.agg #[.slice none 0 0, .slice none 0 0, .int .i64 0], errVQ aM])) w7) := Lib.hid (by
      rw [← HP.out]
      exact ⟨by rw [HBB.out]; rfl, Moves.below HB4.out HB4.out.size q2 (fun k hk => by omega)⟩)
    have HR7d : Hid (w7.drew.heap[w.heap.size + 1]? = some (.cells #[.slice none 0 0, .slice none 0 0, .int .i64 0] 63 (0, 0))) := Lib.hid q1
    have HQd : Hid (P (.returned (.tuple #[.agg #[.slice none 0 0, .slice none 0 0, .int .i64 0], errVQ aM])) w7.drew) := Lib.hid (by
      rw [← HP.out]
      exact ⟨by rw [HBB.out]; rfl, (Moves.below HB4.out HB4.out.size q2 (fun k hk => by omega)).drew⟩)
    have gq : (w4.setCell ⟨w.heap.size + 1, 0, none⟩ (.slice none 0 0)).cell? ⟨1, 0, none⟩ = some (errVQ aM) := by
      rw [World.cell?_setCell_far _ _ _ _ (by intro e; have h1 := HG.out.ltM; have e2 : w.heap.size + 1 = 1 := e; omega)]
      exact hg4
    subst hw7
    clear q1 q2 hr4 hr5 b4
    go_wp2_with fail
    go_region
    all_goals
      go_wp2_with fail
      first
        | exact bodyPost_ret (v := .tuple #[.agg #[.slice none 0 0, .slice none 0 0, .int .i64 0], errVQ aM]) (results_cell_tmpD rfl _ _ (w.heap.size + 1) _ _ _ _ _ rfl rfl HR7.out Tryd.underlying63 rfl (by kernel_rfl)) rfl HQ.out
        | exact bodyPost_ret (v := .tuple #[.agg #[.slice none 0 0, .slice none 0 0, .int .i64 0], errVQ aM]) (results_cell_tmpD rfl _ _ (w.heap.size + 1) _ _ _ _ _ rfl rfl HR7d.out Tryd.underlying63 rfl (by kernel_rfl)) rfl HQd.out
  | true =>
    obtain ⟨q1, q2⟩ := three_setD (.slice no s nc) (.slice fo f fc) (.int .i64 n) hr4
    obtain ⟨w7, hw7⟩ : ∃ w7, ((w4.setCell ⟨w.heap.size + 1, 0, none⟩ (.slice no s nc)).setCell ⟨w.heap.size + 1, 1, none⟩ (.slice fo f fc)).setCell ⟨w.heap.size + 1, 2, none⟩ (.int .i64 n) = w7 := ⟨_, rfl⟩
    rw [hw7] at q1 q2
    have HW7 := Lib.hid hw7
    have HR7 := Lib.hid q1
    have HQ : Hid (P (.returned (.tuple #[.agg #[.slice no s nc, .slice fo f fc, .int .i64 n], .nilIface])) w7) := Lib.hid (by
      rw [← HP.out]
      exact ⟨by rw [HBB.out, ← HS.out, ← HF.out]; rfl, Moves.below HB4.out HB4.out.size q2 (fun k hk => by omega)⟩)
    clear q1 q2 hw7 hr4 hr5 b4
    go_wp2_with fail
    rw [HW7.out]
    exact bodyPost_ret (v := .tuple #[.agg #[.slice no s nc, .slice fo f fc, .int .i64 n], .nilIface]) (results_cell_tmpD rfl _ _ (w.heap.size + 1) _ _ _ _ _ rfl rfl HR7.out Tryd.underlying63 rfl (by kernel_rfl)) rfl HQ.out
end Go.Proofs.YtaoooocalpkhjaaDoor
namespace Go.Proofs.YtaoooocalpkhjaaDoor
open Go.RowKit Go.Shelf
attribute [local go_sem] Oper.semAt_some

def nextD (R : List (List Int)) (n : Int) (s : Nat) (c : Int) : Nat := (((R[s]?.getD [])[(classD n c).toNat]?).getD 0).toNat
def stD' (R : List (List Int)) (n : Int) (l : List Int) : Nat := l.foldl (nextD R n) 0
def allD (R : List (List Int)) (n : Int) (L : List Int) : List Nat := (List.range (L.length + 1)).map fun j => stD' R n (L.take j)
theorem allD_len (R : List (List Int)) (n : Int) (L : List Int) : (allD R n L).length = L.length + 1 := by unfold allD; rw [List.length_map, List.length_range]
theorem allD_at (R : List (List Int)) (n : Int) (L : List Int) {j : Nat} (h : j ≤ L.length) : (allD R n L)[j]? = some (stD' R n (L.take j)) := by
  unfold allD
  rw [List.getElem?_map, List.getElem?_range (by omega)]
  rfl
theorem stD'_snoc {R : List (List Int)} {n : Int} {L : List Int} {j : Nat} {c : Int} (h : L[j]? = some c) : stD' R n (L.take (j + 1)) = nextD R n (stD' R n (L.take j)) c := by
  unfold stD'
  rw [List.take_add_one, h, Option.toList_some, List.foldl_append]
  rfl
theorem classD_nat {n c : Int} (hn : 0 ≤ n) : ∃ i : Nat, classD n c = (i : Nat) ∧ ((i : Nat) : Int) ≤ n := by
  unfold classD
  split
  · exact ⟨c.toNat, by omega, by omega⟩
  · exact ⟨n.toNat, by omega, by omega⟩
theorem machB_parts {R : List (List Int)} {F : List Int} {n : Int} (h : machB R F n = true) : 1 ≤ n ∧ n ≤ 32 ∧ 1 ≤ R.length ∧ R.length ≤ 300 ∧ R.length = F.length ∧ (∀ r ∈ R, (r.length : Int) = n + 1 ∧ ∀ v ∈ r, 0 ≤ v ∧ v < ((R.length : Nat) : Int)) ∧ ∀ v ∈ F, 0 ≤ v ∧ v < 1099511627776 := by
  unfold machB at h
  simp only [Bool.and_eq_true, List.all_eq_true] at h
  obtain ⟨⟨⟨h1, h2⟩, h3⟩, h4⟩ := h
  unfold rightZ at h1
  have h1 := of_decide_eq_true h1
  have h2 := of_decide_eq_true h2
  exact ⟨h1.1, h1.2.1, h2.1, h2.2.1, h2.2.2, fun r hr => of_decide_eq_true (h3 r hr), of_decide_eq_true h4⟩
theorem next_at {R : List (List Int)} {F : List Int} {n : Int} (h : machB R F n = true) {s : Nat} {r : List Int} {c : Int} {i : Nat} (hr : R[s]? = some r) (hi : classD n c = (i : Nat)) (hin : ((i : Nat) : Int) ≤ n) : ∃ v : Nat, r[i]? = some ((v : Nat) : Int) ∧ nextD R n s c = v ∧ v < R.length := by
  obtain ⟨h1, h2, h3, h4, h5, h6, h7⟩ := machB_parts h
  obtain ⟨e1, e2⟩ := h6 r (List.mem_of_getElem? hr)
  obtain ⟨v, hv⟩ : ∃ v, r[i]? = some v := ⟨_, List.getElem?_eq_getElem (by omega)⟩
  obtain ⟨q1, q2⟩ := e2 v (List.mem_of_getElem? hv)
  refine ⟨v.toNat, by rw [hv]; congr 1; omega, ?_, by omega⟩
  unfold nextD
  rw [hr, Option.getD_some, hi, Int.toNat_natCast, hv]
  rfl
theorem st_lt {R : List (List Int)} {F : List Int} {n : Int} (h : machB R F n = true) : ∀ (L : List Int) (s : Nat), s < R.length → L.foldl (nextD R n) s < R.length
  | [], s, hs => hs
  | c :: L, s, hs => by
    obtain ⟨h1, h2, _⟩ := machB_parts h
    obtain ⟨i, hi, hin⟩ := classD_nat (n := n) (c := c) (by omega)
    obtain ⟨v, _, hv, hlt⟩ := next_at h (List.getElem?_eq_getElem hs) hi hin
    rw [List.foldl_cons, hv]
    exact st_lt h L v hlt
def DepG (wb lb : Nat) (m : MachX) (lo : Option Addr) (L : List Int) (k : Nat) : Prop := k = wb ∨ k = lb ∨ (0 < L.length ∧ inQ lo k) ∨ (0 < m.rows.length ∧ inQ m.no k) ∨ ∃ x ∈ m.rows, 0 < x.2.1.length ∧ inQ x.1 k
structure GoD (W : World) (wb lb : Nat) (m : MachX) (n : Int) (lo : Option Addr) (L : List Int) (lcap : Nat) : Prop where
  rows : RowsD W m.no m.rows
  row : ∀ x ∈ m.rows, NumsAt W x.1 x.2.1
  nums : NumsAt W lo L
  wk : W.heap[wb]? = some (wkrO m n)
  ls : W.heap[lb]? = some (.cells #[.slice lo L.length lcap] 26 (0, 0))
theorem RowsD.moves {A B : World} {S : Nat → Prop} {o : Option Addr} {l : List RowD} (h : RowsD A o l) (hm : Moves S A B) (hS : 0 < l.length → ∀ k, inQ o k → ¬ S k) : RowsD B o l := fun hn => by
  obtain ⟨g, off, ho, hc⟩ := h hn
  refine ⟨g, off, ho, fun j x hx => ?_⟩
  have hh := hc j x hx
  have hlt := World.block_lt_of_cell? A _ hh
  exact (World.cell?_of_block (w := A) (hm.block g hlt (hS hn g ⟨_, ho, rfl⟩))).trans hh
theorem GoD.moves {A B : World} {S : Nat → Prop} {wb lb : Nat} {m : MachX} {n : Int} {lo : Option Addr} {L : List Int} {lcap : Nat} (h : GoD A wb lb m n lo L lcap) (hm : Moves S A B) (hS : ∀ k, DepG wb lb m lo L k → ¬ S k) : GoD B wb lb m n lo L lcap :=
  ⟨h.rows.moves hm fun h0 k hk => hS k (.inr (.inr (.inr (.inl ⟨h0, hk⟩)))), fun x hx => (h.row x hx).moves hm fun h0 k hk => hS k (.inr (.inr (.inr (.inr ⟨x, hx, h0, hk⟩)))), h.nums.moves hm fun h0 k hk => hS k (.inr (.inr (.inl ⟨h0, hk⟩))),
    row_keep h.wk hm (hS _ (.inl rfl)), row_keep h.ls hm (hS _ (.inr (.inl rfl)))⟩
section
variable {n : Nat} {P : Program} {Q : Exit → Act → World → Prop}
theorem wpIn_region_heldW {id : Nat} {a : Act} {w : World} {l : List Oper} (S : World → Prop) (hQ : ¬ LetsOut Q) (hm : P.follows .mixedOrders = true) (hS : S w.drew)
    (h : S w.drew → wpAnyH P .any l.toArray Q S l.toArray.size (Array.replicate l.toArray.size false) a w.drew) : (Code.region id l.toArray true).wpIn Fence.wide n P Q a w :=
  wpIn_region_any hm (wpAnyIn_of_anyH hQ _ _ _ _ (wpAny_of_held _ _ _ _ (h hS)))
end
theorem statesD_any (m : MachX) (n : Int) (lo : Option Addr) (L : List Int) (lcap : Nat) (w : World) : Calls Tryd.prog 47 #[wkrV m n, .slice lo L.length lcap] w fun e w' => e = .returned (.func (.func 66) #[] #[.pointer (some ⟨w.heap.size + 1, 0, none⟩), .pointer (some ⟨w.heap.size, 0, none⟩)]) ∧ (w.alloc (wkrO m n)).alloc (.cells #[.slice lo L.length lcap] 26) = w' := by
  obtain ⟨no, rows, nc, fo, fits, fc⟩ := m
  go_enter Tryd.func47, Tryd.ntmps47
  go_wp2
  go_ret
  exact ⟨rfl, rfl⟩
end Go.Proofs.YtaoooocalpkhjaaDoor
namespace Go.Proofs.YtaoooocalpkhjaaDoor
open Go.RowKit Go.Shelf

def finD (R : List PatP) (n : Nat) : List (List Nat) × List Nat := runD R n (300 * (n + 1))
theorem fin_pos (R : List PatP) (n : Nat) : 1 ≤ (finD R n).1.length := run_pos R n _
theorem fin_end {R : List PatP} {n : Nat} (h : (finD R n).1.length ≤ 300) : (∀ p, p < (finD R n).1.length * (n + 1) → liveD R n p) ∧ ¬ liveD R n ((finD R n).1.length * (n + 1)) ∧ runD R n ((finD R n).1.length * (n + 1)) = finD R n := by
  obtain ⟨k, hk⟩ : ∃ k, (finD R n).1.length = k := ⟨_, rfl⟩
  rw [hk] at h ⊢
  have hQ : k * (n + 1) ≤ 300 * (n + 1) := Nat.mul_le_mul_right _ h
  have hdiv : k * (n + 1) / (n + 1) = k := Nat.mul_div_cancel _ (by omega)
  have hnl : ¬ liveD R n (k * (n + 1)) := by
    unfold liveD
    rw [hdiv]
    have h1 := run_len R n hQ
    have h2 : (runD R n (300 * (n + 1))).1.length = k := hk
    omega
  have hrun : runD R n (k * (n + 1)) = finD R n := (run_stop hnl hQ).symm
  refine ⟨fun p hp => Decidable.byContradiction fun hn => ?_, hnl, hrun⟩
  have e := run_stop hn (Nat.le_of_lt hp)
  rw [hrun] at e
  unfold liveD at hn
  rw [← e, hk] at hn
  have := Nat.div_lt_iff_lt_mul (k := n + 1) (x := p) (y := k) (by omega)
  exact hn (this.2 hp)
theorem fin_ways {R : List PatP} {n : Nat} (h : (finD R n).1.length ≤ 300) : (finD R n).2.length = (finD R n).1.length * (n + 1) := by
  obtain ⟨h1, _, h3⟩ := fin_end h
  have := run_ways h1
  rw [h3] at this
  exact this
theorem prefix_get {α : Type} {a b : List α} {i : Nat} {x : α} (h : a <+: b) (hx : a[i]? = some x) : b[i]? = some x := by
  obtain ⟨r, rfl⟩ := h
  rw [List.getElem?_append_left (List.getElem?_eq_some_iff.1 hx).1, hx]
theorem place_div {n i c : Nat} (hc : c ≤ n) : (i * (n + 1) + c) / (n + 1) = i ∧ (i * (n + 1) + c) % (n + 1) = c := by
  constructor
  · rw [Nat.add_comm, Nat.add_mul_div_right _ _ (by omega), Nat.div_eq_of_lt (by omega), Nat.zero_add]
  · rw [Nat.add_comm, Nat.add_mul_mod_self_right, Nat.mod_eq_of_lt (by omega)]
theorem place_lt {n i c k : Nat} (hi : i < k) (hc : c ≤ n) : i * (n + 1) + c < k * (n + 1) := by
  have : (i + 1) * (n + 1) ≤ k * (n + 1) := Nat.mul_le_mul_right _ hi
  rw [Nat.succ_mul] at this
  omega
def rowsP (n : Nat) (W : List Nat) (k : Nat) : List (List Int) := (List.range k).map fun i => ((W.drop (i * (n + 1))).take (n + 1)).map fun v => ((v : Nat) : Int)
def doneP (R : List PatP) (A : List (List Nat)) : List Int := A.map fun S => ((doneD R S : Nat) : Int)
abbrev finR (R : List PatP) (n : Nat) : List (List Int) := rowsP n (finD R n).2 (finD R n).1.length
abbrev finF (R : List PatP) (n : Nat) : List Int := doneP R (finD R n).1
theorem rowsP_get {n : Nat} {W : List Nat} {i c : Nat} (hc : c ≤ n) : (((W.drop (i * (n + 1))).take (n + 1)).map fun v => ((v : Nat) : Int))[c]? = (W[i * (n + 1) + c]?).map fun v => ((v : Nat) : Int) := by
  rw [List.getElem?_map, List.getElem?_take, if_pos (by omega), List.getElem?_drop]
theorem rowsP_rowlen {n : Nat} {W : List Nat} {k i : Nat} (hi : i < k) (hW : W.length = k * (n + 1)) : (((W.drop (i * (n + 1))).take (n + 1)).map fun v => ((v : Nat) : Int)).length = n + 1 := by
  have := place_lt (n := n) hi (Nat.le_refl n)
  rw [List.length_map, List.length_take, List.length_drop, hW]
  omega
end Go.Proofs.YtaoooocalpkhjaaDoor
