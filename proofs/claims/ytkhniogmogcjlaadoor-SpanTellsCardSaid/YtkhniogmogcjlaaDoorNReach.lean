/- reach: the place of the first range that ends at a number or behind it; says: what a map says. -/
import Derived.Test.YtkhniogmogcjlaaDoorNFind
import Derived.Sort.AtCall
namespace Go.Proofs.YtkhniogmogcjlaaDoor
open Go.RowKit Go.Shelf

/-- How many ranges, from the first on, end ahead of r. -/
def reachL (l : List Rng) (r : Int) : Nat := (l.takeWhile fun x => decide (x.2.1 < r)).length
abbrev layerV (o : Option Addr) (n cap : Nat) : Value := .agg #[.slice o n cap]
theorem reach_le (l : List Rng) (r : Int) : reachL l r ≤ l.length := by
  unfold reachL
  exact (List.takeWhile_prefix _).length_le
theorem reach_lt : ∀ {l : List Rng} {r : Int} {i : Nat} {x : Rng}, i < reachL l r → l[i]? = some x → x.2.1 < r
  | [], r, i, x, hi, hx => by simp at hx
  | y :: t, r, i, x, hi, hx => by
    unfold reachL at hi
    rw [List.takeWhile_cons] at hi
    split at hi
    · rename_i h
      cases i with
      | zero =>
        have : y = x := by simpa using hx
        subst this
        simpa using h
      | succ i =>
        exact reach_lt (l := t) (i := i) (by unfold reachL; simpa using hi) (by simpa using hx)
    · simp at hi
theorem reach_at {l : List Rng} {r : Int} {x : Rng} (hx : l[reachL l r]? = some x) : ¬ x.2.1 < r := by
  unfold reachL at hx
  induction l with
  | nil => simp at hx
  | cons y t ih =>
    rw [List.takeWhile_cons] at hx
    split at hx
    · exact ih (by simpa using hx)
    · rename_i h
      have : y = x := by simpa using hx
      subst this
      simpa using h
/-- The ends ascend. -/
theorem ends_asc {l : List Rng} (h : l.Pairwise (fun x y => x.2.1 < y.1)) (hok : ∀ x ∈ l, x.1 ≤ x.2.1) {i j : Nat} {x y : Rng} (hij : i ≤ j) (hx : l[i]? = some x) (hy : l[j]? = some y) : x.2.1 ≤ y.2.1 := by
  obtain ⟨hi, ex⟩ := List.getElem?_eq_some_iff.1 hx
  obtain ⟨hj, ey⟩ := List.getElem?_eq_some_iff.1 hy
  rcases Nat.lt_or_ge i j with h1 | h1
  · have := List.pairwise_iff_getElem.1 h i j hi hj h1
    rw [ex, ey] at this
    have := hok y (List.mem_of_getElem? hy)
    omega
  · obtain rfl : i = j := by omega
    rw [hx] at hy
    cases hy
    omega
/-- The closure's boxes: r, the layer. -/
theorem reach1_any {B C : Nat} {o : Option Addr} {l : List Rng} {n cap : Nat} {r : Int} {i : Nat} {x : Rng} (w : World) (hn : l.length = n) (hB : Boxed w B 3 (.int .i64 r)) (hC : w.heap[C]? = some (.cells #[.slice o n cap] 61 (0, 0))) (hA : AtR w o l) (hx : l[i]? = some x) :
    Calls Tryd.prog 63 #[.int .i64 (i : Nat), .pointer (some ⟨B, 0, none⟩), .pointer (some ⟨C, 0, none⟩)] w fun e w' => e = .returned (.bool (!decide (x.2.1 < r))) ∧ ∃ q, w' = w.drewN q := by
  have hi : i < n := by have := (List.getElem?_eq_some_iff.1 hx).1; omega
  obtain ⟨g, off, rfl, hc⟩ := hA (by omega)
  obtain ⟨_, k1, _⟩ := hc i x hx
  have cb := hB.cell
  have cc : w.cell? ⟨C, 0, none⟩ = some (.slice (some ⟨g, off, none⟩) n cap) := by rw [cell_of_row _ _ 0 _ _ _ hC]; rfl
  obtain ⟨a, b, v⟩ := x
  simp only at k1
  clear hc hA hx hB hC hn
  go_enter Tryd.func63, Tryd.ntmps63
  by_cases h : b < r
  · have h2 : ¬ r ≤ b := by omega
    rw [decide_eq_true h]
    go_wp2_with fail
    go_quiet (fail)
    go_wp2
    go_ret
    exact ⟨by first | (simp; done) | (simp; omega), _, rfl⟩
  · have h2 : r ≤ b := by omega
    rw [decide_eq_false h]
    go_wp2_with fail
    go_quiet (fail)
    go_wp2
    go_ret
    exact ⟨by first | (simp; done) | (simp; omega), _, rfl⟩
set_option maxHeartbeats 2000000 in
/-- sort.Search of a question that only looks. -/
theorem search_any (g : Nat) (cb : Array Value) (n m : Nat) (p : Nat → Bool) (w : World) (eg : ∀ args w, (callFunc g args).run Tryd.prog w = .ok (.enter g args) w) (hn : n ≤ 1000000) (hm : m ≤ n)
    (h0 : ∀ i, i < m → p i = false) (h1 : ∀ i, m ≤ i → i < n → p i = true)
    (hf : ∀ (q i : Nat), i < n → Calls Tryd.prog g (#[.int .i64 (i : Nat)] ++ cb) (w.drewN q) fun e w' => e = .returned (.bool (p i)) ∧ ∃ k, w' = (w.drewN q).drewN k) :
    Calls Tryd.prog 62 #[.int .i64 (n : Nat), .func (.func g) #[] cb] w fun e w' => e = .returned (.int .i64 (m : Nat)) ∧ ∃ q, w' = w.drewN q := by
  have HF := Lib.hid hf
  have H0 := Lib.hid h0
  have H1 := Lib.hid h1
  clear hf h0 h1
  go_enter Tryd.func62, Tryd.ntmps62
  go_wp2
  go_loopg [5, 6] n (fun k u v wr => ∃ (lo hi q : Nat), u = .int .i64 (lo : Nat) ∧ v = .int .i64 (hi : Nat) ∧ lo ≤ m ∧ m ≤ hi ∧ hi ≤ n ∧ hi - lo ≤ k ∧ wr = w.drewN q)
  case atStart => exact ⟨0, n, 0, rfl, rfl, Nat.zero_le _, hm, Nat.le_refl _, by omega, rfl⟩
  case round =>
    obtain ⟨lo, hi, q, rfl, rfl, hlo, hhi, hin, hk, rfl⟩ := hrel
    by_cases hlt : lo < hi
    · have hc := HF.out q ((lo + hi) / 2) (by omega)
      rw [show (((lo + hi) / 2 : Nat) : Int) = ((lo : Int) + (hi : Int)) / 2 by omega] at hc
      by_cases hp : (lo + hi) / 2 < m
      · rw [H0.out _ hp] at hc
        have HC := Lib.hid hc
        clear hc
        go_wp2_with (go_at_fn g; refine HC.out.mono ?_; rintro e w' ⟨rfl, nq, rfl⟩)
        go_roundg (hi - ((lo + hi) / 2 + 1))
        case measure => omega
        case rel => exact ⟨(lo + hi) / 2 + 1, hi, q + nq, by rw [show ((lo : Int) + (hi : Int)) / 2 + 1 = (((lo + hi) / 2 + 1 : Nat) : Int) by omega], rfl, by omega, hhi, hin, Nat.le_refl _, rfl⟩
      · rw [H1.out _ (by omega) (by omega)] at hc
        have HC := Lib.hid hc
        clear hc
        go_wp2_with (go_at_fn g; refine HC.out.mono ?_; rintro e w' ⟨rfl, nq, rfl⟩)
        go_roundg ((lo + hi) / 2 - lo)
        case measure => omega
        case rel => exact ⟨lo, (lo + hi) / 2, q + nq, rfl, by rw [show ((lo : Int) + (hi : Int)) / 2 = (((lo + hi) / 2 : Nat) : Int) by omega], hlo, by omega, by omega, Nat.le_refl _, rfl⟩
    · obtain rfl : lo = m := by omega
      obtain rfl : hi = lo := by omega
      go_wp2
      go_ret
      exact ⟨rfl, q, rfl⟩
theorem moves_drewN1 (w : World) (q : Nat) : Moves (fun _ => False) w (w.drewN q) := by
  induction q with
  | zero => exact Moves.refl _ _
  | succ q ih => exact ih.drew
def endsAt (l : List Rng) (r : Int) (i : Nat) : Bool := match l[i]? with
  | some x => !decide (x.2.1 < r)
  | none => true
abbrev layerO (o : Option Addr) (n cap : Nat) : Obj := .cells #[.slice o n cap] 61 (0, 0)
set_option maxHeartbeats 1000000 in
theorem reach_any (o : Option Addr) (l : List Rng) (cap : Nat) (r : Int) (hn : l.length ≤ 1000000) (hl : mapL l) (w : World) (hA : AtR w o l) :
    Calls Tryd.prog 50 #[layerV o l.length cap, .int .i64 r] w fun e w' => e = .returned (.int .i64 (reachL l r : Nat)) ∧ Below w.heap.size w w' := by
  obtain ⟨n, hnn⟩ : ∃ n, l.length = n := ⟨_, rfl⟩
  have A0 : Below w.heap.size w ((w.alloc (layerO o n cap)).alloc (.cells #[.int .i64 r] 3)) := ((Below.refl _ _).alloc (Nat.le_refl _) _).alloc (by simp) _
  have r0 : ((w.alloc (layerO o n cap)).alloc (.cells #[.int .i64 r] 3)).heap[w.heap.size]? = some (layerO o n cap) := by
    rw [Below.heap_alloc _ _ _ (by simp)]; exact heap_alloc_new _ _
  have r1 : Boxed ((w.alloc (layerO o n cap)).alloc (.cells #[.int .i64 r] 3)) (w.heap.size + 1) 3 (.int .i64 r) := by
    have := Boxed.new (w.alloc (layerO o n cap)) 3 (.int .i64 r); rwa [World.size_alloc] at this
  have hA1 := hA.below A0
  have hs := search_any 63 #[.pointer (some ⟨w.heap.size + 1, 0, none⟩), .pointer (some ⟨w.heap.size, 0, none⟩)] n (reachL l r) (endsAt l r) ((w.alloc (layerO o n cap)).alloc (.cells #[.int .i64 r] 3)) (enters_of Tryd.func63 (by kernel_rfl) rfl) (by omega) (by rw [← hnn]; exact reach_le l r)
    (fun i hi => by
      unfold endsAt
      cases hx : l[i]? with
      | none => have := reach_le l r; have := List.getElem?_eq_none_iff.1 hx; omega
      | some x => simpa using reach_lt hi hx)
    (fun i h1 h2 => by
      unfold endsAt
      cases hx : l[i]? with
      | none => rfl
      | some x =>
        obtain ⟨y, hy⟩ : ∃ y, l[reachL l r]? = some y := ⟨_, List.getElem?_eq_getElem (by omega)⟩
        have h3 := reach_at hy
        have h4 := ends_asc hl.2 (fun x hx => (hl.1 x hx).2.1) h1 hy hx
        simp
        omega)
    (fun q i hi => by
      obtain ⟨x, hx⟩ : ∃ x, l[i]? = some x := ⟨_, List.getElem?_eq_getElem (by omega)⟩
      have h := reach1_any (B := w.heap.size + 1) (C := w.heap.size) (r := r) (cap := cap) (n := n) (((w.alloc (layerO o n cap)).alloc (.cells #[.int .i64 r] 3)).drewN q) hnn r1 r0 hA1 hx
      unfold endsAt
      rw [hx]
      exact h)
  have HS := Lib.hid hs
  have HA0 := Lib.hid A0
  rw [hnn]
  clear hs A0 r0 r1 hA1 hA hl hnn
  go_enter Tryd.func50, Tryd.ntmps50
  go_wp2_with fail
  refine HS.out.mono ?_
  rintro e w' ⟨rfl, q, rfl⟩
  go_wp2
  go_ret
  exact ⟨rfl, HA0.out.trans (Moves.below (Below.refl _ _) (by simp; omega) (moves_drewN1 _ _) (fun k h => h.elim))⟩
theorem find_reach : ∀ {l : List Rng} {r : Int}, mapL l → findL l r = match l[reachL l r]? with
    | none => none
    | some x => if r < x.1 then none else some x.2.2
  | [], r, _ => rfl
  | y :: t, r, h => by
    obtain ⟨ht, hy, hlt⟩ := mapL_tail h
    unfold okR at hy
    by_cases h1 : y.2.1 < r
    · have hr : reachL (y :: t) r = reachL t r + 1 := by unfold reachL; rw [List.takeWhile_cons, if_pos (by simpa using h1)]; rfl
      rw [hr, findL, if_neg (by omega), List.getElem?_cons_succ]
      exact find_reach ht
    · have hr : reachL (y :: t) r = 0 := by unfold reachL; rw [List.takeWhile_cons, if_neg (by simpa using h1)]; rfl
      rw [hr, findL]
      show _ = if r < y.1 then none else some y.2.2
      by_cases h2 : r < y.1
      · rw [if_neg (by omega), if_pos h2]
        exact findL_none' fun z hz => by have := hlt z hz; omega
      · rw [if_pos (by omega), if_neg h2]
set_option maxHeartbeats 1000000 in
theorem says_any (o : Option Addr) (l : List Rng) (cap : Nat) (r : Int) (hn : l.length ≤ 1000000) (hl : mapL l) (w : World) (hA : AtR w o l) :
    Calls Tryd.prog 58 #[layerV o l.length cap, .int .i64 r] w fun e w' => e = .returned (ansF (findL l r)) ∧ Below w.heap.size w w' := by
  have A0 : Below w.heap.size w (w.alloc (layerO o l.length cap)) := (Below.refl _ _).alloc (Nat.le_refl _) _
  have hr := reach_any o l cap r hn hl _ (hA.below A0)
  have hfr := find_reach (r := r) hl
  have hle := reach_le l r
  have q0 : (w.alloc (layerO o l.length cap)).heap[w.heap.size]? = some (layerO o l.length cap) := heap_alloc_new _ _
  obtain ⟨m, hm⟩ : ∃ m, reachL l r = m := ⟨_, rfl⟩
  obtain ⟨n, hnn⟩ : ∃ n, l.length = n := ⟨_, rfl⟩
  obtain ⟨R, hR⟩ : ∃ R, findL l r = R := ⟨_, rfl⟩
  rw [hm] at hr hfr hle
  rw [hR] at hfr ⊢
  rw [hnn] at hr hle q0 A0 hn ⊢
  have HR := Lib.hid hr
  have HQ0 := Lib.hid q0
  have HA0 := Lib.hid A0
  have HA := Lib.hid hA
  have HN := Lib.hid hnn
  clear hr q0 A0 hA hnn hR hm hl
  go_enter Tryd.func58, Tryd.ntmps58
  go_wp2_with fail
  refine HR.out.mono ?_
  rintro e w1 ⟨rfl, b1⟩
  have c1 : w1.cell? ⟨w.heap.size, 0, none⟩ = some (.slice o n cap) := by rw [cell_of_row _ _ 0 _ _ _ (row_below HQ0.out b1)]; rfl
  have hA1 : AtR w1 o l := (HA.out.below HA0.out).below b1
  have HB := Lib.hid (HA0.out.trans (b1.mono (by simp)))
  clear b1
  rcases Nat.lt_or_ge m n with hlt | hge
  · obtain ⟨x, hx⟩ : ∃ x, l[m]? = some x := ⟨_, List.getElem?_eq_getElem (by rw [HN.out]; exact hlt)⟩
    obtain ⟨g, off, rfl, hc⟩ := hA1 (by rw [HN.out]; omega)
    obtain ⟨k0, k1, k2⟩ := hc m x hx
    rw [hx] at hfr
    simp only at hfr
    have hne : (((m : Nat) : Int) == ((n : Nat) : Int)) = false := by simp; omega
    obtain ⟨a, b, v⟩ := x
    simp only at k0 k1 k2 hfr
    clear hc hx
    by_cases h2 : r < a
    · rw [if_pos h2] at hfr
      subst hfr
      go_wp2
      go_ret2
      exact ⟨rfl, HB.out⟩
    · rw [if_neg h2] at hfr
      subst hfr
      go_wp2
      go_ret2
      exact ⟨rfl, HB.out⟩
  · obtain rfl : m = n := by omega
    have hx : l[m]? = none := List.getElem?_eq_none (by rw [HN.out]; exact Nat.le_refl _)
    rw [hx] at hfr
    simp only at hfr
    subst hfr
    clear hx
    go_wp2
    go_ret2
    exact ⟨rfl, HB.out⟩
end Go.Proofs.YtkhniogmogcjlaaDoor
