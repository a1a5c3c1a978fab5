/- Of how many numbers a map says something, counted place by place. -/
import Derived.Test.YtkhniogmogcjlaaDoorNCount
namespace Go.Proofs.YtkhniogmogcjlaaDoor

def cnt (N : Nat) (p : Nat → Bool) : Nat := (List.range N).countP p
theorem cnt_succ (N : Nat) (p : Nat → Bool) : cnt (N + 1) p = cnt N p + if p N then 1 else 0 := by
  unfold cnt
  rw [List.range_succ, List.countP_append]
  simp [List.countP_cons]
theorem cnt_zero (p : Nat → Bool) : cnt 0 p = 0 := rfl
theorem cnt_in (a b : Nat) : ∀ N, cnt N (fun r => decide (a ≤ r ∧ r ≤ b)) = min N (b + 1) - a
  | 0 => by rw [cnt_zero]; omega
  | N + 1 => by
    rw [cnt_succ, cnt_in a b N]
    by_cases h : a ≤ N ∧ N ≤ b
    · simp only [h, and_self, decide_true, if_true]; omega
    · simp only [h, decide_false, Bool.false_eq_true, if_false]; omega
theorem cnt_or {p q : Nat → Bool} : ∀ N, (∀ r, r < N → ¬ (p r = true ∧ q r = true)) → cnt N (fun r => p r || q r) = cnt N p + cnt N q
  | 0, _ => rfl
  | N + 1, h => by
    rw [cnt_succ, cnt_succ, cnt_succ, cnt_or N fun r hr => h r (by omega)]
    have := h N (by omega)
    cases hp : p N <;> cases hq : q N <;> simp_all <;> omega
theorem cnt_le_or {p q : Nat → Bool} : ∀ N, cnt N p ≤ cnt N (fun r => p r || q r) ∧ cnt N q ≤ cnt N (fun r => p r || q r) ∧ cnt N (fun r => p r || q r) ≤ cnt N p + cnt N q
  | 0 => by simp [cnt_zero]
  | N + 1 => by
    have := cnt_le_or (p := p) (q := q) N
    rw [cnt_succ, cnt_succ, cnt_succ]
    cases hp : p N <;> cases hq : q N <;> simp_all <;> omega
theorem cnt_same {p q : Nat → Bool} (h : ∀ r, p r = q r) (N : Nat) : cnt N p = cnt N q := by
  rw [show p = q from funext h]
def saysB (m : List Rng) (r : Nat) : Bool := (findL m (r : Nat)).isSome
theorem says_iff {m : List Rng} {r : Int} : (findL m r).isSome = true ↔ ∃ x ∈ m, x.1 ≤ r ∧ r ≤ x.2.1 := by
  induction m with
  | nil => simp [findL]
  | cons x m ih =>
    unfold findL
    by_cases h : x.1 ≤ r ∧ r ≤ x.2.1
    · rw [if_pos h]; simp [h]
    · rw [if_neg h, ih]; simp [h]
theorem foldl_sum (l : List Rng) : ∀ n : Int, l.foldl (fun n x => n + (x.2.1 - x.1 + 1)) n = n + sumL l := by
  unfold sumL
  induction l with
  | nil => intro n; simp
  | cons x l ih => intro n; rw [List.foldl_cons, List.foldl_cons, ih, ih (0 + _)]; omega
theorem sum_cons (x : Rng) (l : List Rng) : sumL (x :: l) = (x.2.1 - x.1 + 1) + sumL l := by
  have h := foldl_sum l (0 + (x.2.1 - x.1 + 1))
  unfold sumL at h ⊢
  rw [List.foldl_cons, h]
  omega
theorem sum_cnt : ∀ m : List Rng, mapL m → sumL m = (cnt 1114112 (saysB m) : Nat)
  | [], _ => by
    have : ∀ N, cnt N (saysB []) = 0 := fun N => by
      induction N with
      | zero => rfl
      | succ N ih => rw [cnt_succ, ih]; rfl
    rw [this]; rfl
  | x :: m, h => by
    have hm : mapL m := ⟨fun y hy => h.1 y (List.mem_cons_of_mem _ hy), (List.pairwise_cons.1 h.2).2⟩
    have hx := h.1 x List.mem_cons_self
    unfold okR at hx
    have hs : ∀ r, saysB (x :: m) r = ((fun r : Nat => decide (x.1.toNat ≤ r ∧ r ≤ x.2.1.toNat)) r || saysB m r) := fun r => by
      unfold saysB
      rw [findL]
      by_cases hr : x.1 ≤ (r : Int) ∧ (r : Int) ≤ x.2.1
      · rw [if_pos hr]
        have : x.1.toNat ≤ r ∧ r ≤ x.2.1.toNat := by omega
        show (some x.2.2).isSome = (decide (x.1.toNat ≤ r ∧ r ≤ x.2.1.toNat) || _)
        rw [decide_eq_true this]
        rfl
      · rw [if_neg hr]
        have : ¬ (x.1.toNat ≤ r ∧ r ≤ x.2.1.toNat) := by omega
        show _ = (decide (x.1.toNat ≤ r ∧ r ≤ x.2.1.toNat) || _)
        rw [decide_eq_false this, Bool.false_or]
    rw [cnt_same hs, cnt_or, cnt_in, sum_cons, sum_cnt m hm]
    · omega
    · rintro r hr ⟨h1, h2⟩
      obtain ⟨y, hy, h3, h4⟩ := says_iff.1 h2
      have h5 := (List.pairwise_cons.1 h.2).1 y hy
      simp only [decide_eq_true_eq] at h1
      omega
/-- One map over another one says something of no fewer numbers than each, and of no more than both together. -/
theorem over_counts {a b c : List Rng} (ha : rightL a) (hb : rightL b) (hc : rightL c) (h : ∀ r, findL c r = (findL b r).or (findL a r)) : countL a ≤ countL c ∧ countL b ≤ countL c ∧ countL c ≤ countL a + countL b := by
  unfold countL
  rw [if_pos ha, if_pos hb, if_pos hc, sum_cnt a ha.1, sum_cnt b hb.1, sum_cnt c hc.1]
  have hs : ∀ r, saysB c r = (saysB b r || saysB a r) := fun r => by
    unfold saysB
    rw [h]
    simp
  rw [cnt_same hs]
  have := cnt_le_or (p := saysB b) (q := saysB a) 1114112
  omega
end Go.Proofs.YtkhniogmogcjlaaDoor
