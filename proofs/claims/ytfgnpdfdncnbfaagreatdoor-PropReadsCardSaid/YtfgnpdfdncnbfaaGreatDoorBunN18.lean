/- Right, Find and Sort of package span. count: of how many numbers a map says something. Of how many numbers a map says something, counted place by place. Plain laws of ranges: sorted in whatever order, what is said of a number. append of ranges that lie somewhere, to a row that the call owns. sorted and Sort once more: the answer lies in a block that the call has laid (written by program out of XNSorted and XNWrap: gensortf.py). slices.Equal of ranges, and Same. The document's ownN Same, of ranges. shown, of the laws of span. -/
import Derived.Test.YtfgnpdfdncnbfaaGreatDoorBunN4
import Derived.Test.YtfgnpdfdncnbfaaGreatDoorBunN16
import Derived.Test.YtfgnpdfdncnbfaaGreatDoorBunN8
import Derived.Test.YtfgnpdfdncnbfaaGreatDoorBunN13
namespace Go.Proofs.YtfgnpdfdncnbfaaGreatDoor
open Go.RowKit Go.Shelf Go.Maps
attribute [local go_sem] Oper.semAt_some

set_option maxHeartbeats 1000000 in
theorem Right_any (o : Option Addr) (l : List Rng) (cap : Nat) (hn : l.length ≤ 1000000) (hc : l.length ≤ cap) (w : World) (hA : AtR w o l) :
    Calls Tryz.prog 29 #[.slice o l.length cap] w fun e w' => e = .returned (.bool (decide (rightL l))) ∧ Below w.heap.size w w' := by
  have h2 := Lib.hid (fun w1 (b1 : Below w.heap.size w w1) => isMap_any o l l.length hn w1 (hA.below b1))
  have h1 := Lib.hid (chartOf_any o l.length cap hc w)
  obtain ⟨D, hD⟩ : ∃ D, decide (rightL l) = D := ⟨_, rfl⟩
  rw [hD] at h2 ⊢
  obtain ⟨n, hnn⟩ : ∃ n, l.length = n := ⟨_, rfl⟩
  rw [hnn] at h1 h2 ⊢
  clear hD hnn hA
  go_enter Tryz.func29, Tryz.ntmps29
  go_wp2_with fail
  refine h1.out.mono ?_
  rintro e w1 ⟨rfl, b1⟩
  have B1 := Lib.hid b1
  clear b1
  go_wp2_with fail
  refine (h2.out w1 B1.out).mono ?_
  rintro e w2 ⟨rfl, b2⟩
  have B2 := Lib.hid (B1.out.trans (b2.mono B1.out.size))
  clear b2
  go_wp2
  go_ret
  exact ⟨rfl, B2.out⟩
set_option maxHeartbeats 1000000 in
theorem Find_any (o : Option Addr) (l : List Rng) (cap : Nat) (r : Int) (hn : l.length ≤ 1000000) (hc : l.length ≤ cap) (w : World) (hA : AtR w o l) :
    Calls Tryz.prog 27 #[.slice o l.length cap, .int .i64 r] w fun e w' => e = .returned (ansF (findL l r)) ∧ Below w.heap.size w w' := by
  have h2 := Lib.hid (fun w1 (b1 : Below w.heap.size w w1) => find_any o l l.length r hn w1 (hA.below b1))
  have h1 := Lib.hid (chartOf_any o l.length cap hc w)
  obtain ⟨D, hD⟩ : ∃ D, findL l r = D := ⟨_, rfl⟩
  rw [hD] at h2 ⊢
  obtain ⟨n, hnn⟩ : ∃ n, l.length = n := ⟨_, rfl⟩
  rw [hnn] at h1 h2 ⊢
  clear hD hnn hA
  obtain ⟨p, q, hpq⟩ : ∃ p q, ansF D = .tuple #[.int .i64 p, .bool q] := by cases D <;> exact ⟨_, _, rfl⟩
  rw [hpq] at h2 ⊢
  go_enter Tryz.func27, Tryz.ntmps27
  go_wp2_with fail
  refine h1.out.mono ?_
  rintro e w1 ⟨rfl, b1⟩
  have B1 := Lib.hid b1
  clear b1
  go_wp2_with fail
  refine (h2.out w1 B1.out).mono ?_
  rintro e w2 ⟨rfl, b2⟩
  have B2 := Lib.hid (B1.out.trans (b2.mono B1.out.size))
  clear b2
  go_wp2
  go_ret2
  exact ⟨rfl, B2.out⟩
def SortP (l : List Rng) (w : World) (e : Ending) (w' : World) : Prop :=
  Below w.heap.size w w' ∧ ((∃ i : Nat, chkL l = some i ∧ e = .returned (.tuple #[.slice none 0 0, .int .i64 (i : Nat), .int .i64 22])) ∨
    (chkL l = none ∧ ∃ (i : Nat) (x : Rng) (m : List Rng), l[i]? = some x ∧ mapL m ∧ m.Perm (l.take i) ∧ lapL m x ∧ e = .returned (.tuple #[.slice none 0 0, .int .i64 (i : Nat), .int .i64 30])) ∨
    (chkL l = none ∧ ∃ (m : List Rng) (o : Option Addr), mapL m ∧ m.Perm l ∧ e = .returned (.tuple #[.slice o m.length m.length, .int .i64 0, .int .i64 0]) ∧ AtR w' o m))
abbrev ToldSays (ev : Value) (i c : Int) (w : World) : Prop :=
  Calls Tryz.prog 43 #[ev] w fun e w' => e = .returned (.tuple #[.int .i64 i, .int .i64 c]) ∧ Below w.heap.size w w'
theorem sort_told {l : List Rng} {w w1 w2 : World} {e : Ending} (hG : w.cell? ⟨1, 0, none⟩ = some (rtIN 55)) (h1 : Below w.heap.size w w1) (h : SortPost l w1 e w2) :
    ∃ so sn ev i c, e = .returned (.tuple #[.slice so sn sn, ev]) ∧ ToldSays ev i c w2 ∧ ∀ w3, Below w2.heap.size w2 w3 → SortP l w (.returned (.tuple #[.slice so sn sn, .int .i64 i, .int .i64 c])) w3 := by
  have b2 : Below w.heap.size w w2 := h1.trans (h.1.mono h1.size)
  have hG2 := cell_keepN b2 hG
  rcases h.2 with ⟨i, h3, rfl⟩ | ⟨h3, i, x, m, h4, h5, h6, h7, rfl⟩ | ⟨h3, m, o, h4, h5, rfl, h6⟩
  · exact ⟨none, 0, _, i, 22, rfl, told_fault 22 i w2 hG2, fun w3 b3 => ⟨b2.trans (b3.mono b2.size), .inl ⟨i, h3, rfl⟩⟩⟩
  · exact ⟨none, 0, _, i, 30, rfl, told_fault 30 i w2 hG2, fun w3 b3 => ⟨b2.trans (b3.mono b2.size), .inr (.inl ⟨h3, i, x, m, h4, h5, h6, h7, rfl⟩)⟩⟩
  · exact ⟨o, m.length, _, 0, 0, rfl, told_nilN w2, fun w3 b3 => ⟨b2.trans (b3.mono b2.size), .inr (.inr ⟨h3, m, o, h4, h5, rfl, h6.below b3⟩)⟩⟩
set_option maxHeartbeats 1000000 in
theorem Sort_any (o : Option Addr) (l : List Rng) (cap : Nat) (hn : l.length ≤ 10000) (hc : l.length ≤ cap) (w : World) (hA : AtR w o l) (hG : w.cell? ⟨1, 0, none⟩ = some (rtIN 55)) :
    Calls Tryz.prog 73 #[.slice o l.length cap] w (SortP l w) := by
  have h2 := Lib.hid (fun w1 (b1 : Below w.heap.size w w1) => sorted_f_any o l l.length hn w1 (hA.below b1))
  have h1 := Lib.hid (chartOf_any o l.length cap hc w)
  have h3 := Lib.hid (fun w1 w2 e (b1 : Below w.heap.size w w1) (h : SortPost l w1 e w2) => sort_told hG b1 h)
  obtain ⟨P, hP⟩ : ∃ P, SortP l w = P := ⟨_, rfl⟩
  rw [hP] at h3 ⊢
  obtain ⟨n, hnn⟩ : ∃ n, l.length = n := ⟨_, rfl⟩
  rw [hnn] at h1 h2 ⊢
  clear hP hnn hA hG
  go_enter Tryz.func73, Tryz.ntmps73
  go_wp2_with fail
  refine h1.out.mono ?_
  rintro e w1 ⟨rfl, b1⟩
  have B1 := Lib.hid b1
  clear b1
  go_wp2_with fail
  refine (h2.out w1 B1.out).mono ?_
  rintro e w2 hs
  obtain ⟨so, sn, ev, i, c, rfl, ht, hpost⟩ := h3.out w1 w2 e B1.out hs
  have HT := Lib.hid ht
  have HP := Lib.hid hpost
  clear hs ht hpost
  go_wp2_with fail
  refine HT.out.mono ?_
  rintro e w3 ⟨rfl, b3⟩
  have HPP := Lib.hid (HP.out w3 b3)
  clear b3 HP
  go_wp2
  go_ret3
  exact HPP.out
def LaidP (ls : List (List Rng)) (w : World) (e : Ending) (w' : World) : Prop :=
  Below w.heap.size w w' ∧ ((¬ (∀ l ∈ ls, rightL l) ∧ e = .returned (.tuple #[.slice none 0 0, .int .i64 22])) ∨
    ((∀ l ∈ ls, rightL l) ∧ ∃ o m, isLay ls m ∧ m.length ≤ (turnsL ls).length ∧ e = .returned (.tuple #[.slice o m.length m.length, .int .i64 0]) ∧ AtR w' o m))
theorem rights_lists {xs : List LayX} : (∀ x ∈ xs, rightL x.2.1) ↔ ∀ l ∈ listsOf xs, rightL l := by
  unfold listsOf
  simp only [List.mem_map, forall_exists_index, and_imp]
  exact ⟨fun h l x hx e => e ▸ h x hx, fun h x hx => h _ x hx rfl⟩
theorem lay_told {xs : List LayX} {w w1 w2 : World} {e : Ending} (hG : w.cell? ⟨1, 0, none⟩ = some (rtIN 55)) (h1 : Below w.heap.size w w1) (h : LayPost xs w1 e w2) :
    ∃ so sn ev i c, e = .returned (.tuple #[.slice so sn sn, ev]) ∧ ToldSays ev i c w2 ∧ ∀ w3, Below w2.heap.size w2 w3 → LaidP (listsOf xs) w (.returned (.tuple #[.slice so sn sn, .int .i64 c])) w3 := by
  have b2 : Below w.heap.size w w2 := h1.trans (h.1.mono h1.size)
  have hG2 := cell_keepN b2 hG
  rcases h.2 with ⟨h3, rfl⟩ | ⟨h3, o, m, h4, h5, rfl, h6⟩
  · exact ⟨none, 0, _, 0, 22, rfl, told_fault 22 0 w2 hG2, fun w3 b3 => ⟨b2.trans (b3.mono b2.size), .inl ⟨fun h => h3 (rights_lists.2 h), rfl⟩⟩⟩
  · exact ⟨o, m.length, _, 0, 0, rfl, told_nilN w2, fun w3 b3 => ⟨b2.trans (b3.mono b2.size), .inr ⟨rights_lists.1 h3, o, m, h4, h5, rfl, h6.below b3⟩⟩⟩
set_option maxHeartbeats 1000000 in
theorem Tight_any (o : Option Addr) (l : List Rng) (cap : Nat) (hn : l.length ≤ 1000) (hbig : (turnsL [l]).length ≤ 600) (hc : l.length ≤ cap) (w : World) (hA : AtR w o l) (hG : w.cell? ⟨1, 0, none⟩ = some (rtIN 55)) :
    Calls Tryz.prog 25 #[.slice o l.length cap] w (LaidP [l] w) := by
  obtain ⟨w1, hw1⟩ : ∃ w1, w.alloc (.cells #[.slice o l.length cap] 26) = w1 := ⟨_, rfl⟩
  have B1 : Below w.heap.size w w1 := by rw [← hw1]; exact (Below.refl _ _).alloc (Nat.le_refl _) _
  have r1 : w1.heap[w.heap.size]? = some (.cells #[.slice o l.length cap] 26) := by rw [← hw1]; exact heap_alloc_new _ _
  have h2 := Lib.hid (lay_any w.heap.size 0 1 [(o, l, cap)] (by simp) (by simp) hbig w1 (fun j x hx => by
    match j, hx with
    | 0, hx =>
      cases hx
      exact ⟨by rw [cell_of_row _ _ 0 _ _ _ r1]; rfl, hA.below B1, hc, hn⟩))
  have h3 := Lib.hid (fun w2 e (h : LayPost [(o, l, cap)] w1 e w2) => lay_told hG B1 h)
  rw [show listsOf [(o, l, cap)] = [l] from rfl] at h3
  obtain ⟨xs, hxs⟩ : ∃ xs, [(o, l, cap)] = xs := ⟨_, rfl⟩
  have hx1 : xs.length = 1 := by rw [← hxs]; rfl
  rw [hxs] at h2 h3
  rw [hx1] at h2
  obtain ⟨P, hP⟩ : ∃ P, LaidP [l] w = P := ⟨_, rfl⟩
  rw [hP] at h3 ⊢
  obtain ⟨n, hnn⟩ : ∃ n, l.length = n := ⟨_, rfl⟩
  rw [hnn] at hw1 ⊢
  have HW := Lib.hid hw1
  clear hP hnn hA hG hxs hx1 hw1 B1 r1 hbig hn hc
  go_enter Tryz.func25, Tryz.ntmps25
  go_wp2_with fail
  rw [HW.out]
  refine h2.out.mono ?_
  rintro e w2 hs
  obtain ⟨so, sn, ev, i, c, rfl, ht, hpost⟩ := h3.out w2 e hs
  have HT := Lib.hid ht
  have HP := Lib.hid hpost
  clear hs ht hpost
  go_wp2_with fail
  refine HT.out.mono ?_
  rintro e w3 ⟨rfl, b3⟩
  have HPP := Lib.hid (HP.out w3 b3)
  clear b3 HP
  go_wp2
  exact HPP.out
end Go.Proofs.YtfgnpdfdncnbfaaGreatDoor

namespace Go.Proofs.YtfgnpdfdncnbfaaGreatDoor
open Go.RowKit Go.Shelf Go.Maps
attribute [local go_sem] Oper.semAt_some

def sumL (l : List Rng) : Int := l.foldl (fun n x => n + (x.2.1 - x.1 + 1)) 0
theorem sumL_snoc (l : List Rng) (x : Rng) : sumL (l ++ [x]) = sumL l + (x.2.1 - x.1 + 1) := by unfold sumL; rw [List.foldl_append]; rfl
theorem sum_take {l : List Rng} {j : Nat} {x : Rng} (hx : l[j]? = some x) : sumL (l.take (j + 1)) = sumL (l.take j) + (x.2.1 - x.1 + 1) := by
  rw [List.take_add_one, hx]; exact sumL_snoc _ _
theorem sum_bounds {l : List Rng} (h : ∀ x ∈ l, okR x) : ∀ j, 0 ≤ sumL (l.take j) ∧ sumL (l.take j) ≤ 1114112 * j := by
  intro j
  induction j with
  | zero => simp [sumL]
  | succ j ih =>
    cases hx : l[j]? with
    | none => rw [List.take_add_one, hx]; simp; omega
    | some x =>
      rw [sum_take hx]
      have := h x (List.mem_of_getElem? hx)
      unfold okR at this
      omega
def countL (l : List Rng) : Int := if rightL l then sumL l else 0
structure CntInv (w8 : World) (nb : Nat) (X : Nat → Prop) (W : World) (n : Int) : Prop where
  far : ∀ k, X k → w8.heap.size ≤ k
  kept : Moves (fun k => k = nb) w8 W
  box : Boxed W nb 3 (.int .i64 n)
theorem CntInv.moves {w8 : World} {nb : Nat} {X X' : Nat → Prop} {n : Int} {A B : World} (h : CntInv w8 nb X A n) (hnb : nb < w8.heap.size) (hm : Moves X A B) (hX : ∀ k, X' k → (X k ∨ A.heap.size ≤ k) ∧ k < B.heap.size) : CntInv w8 nb X' B n := by
  have hz := h.kept.size
  refine ⟨fun k hk => ?_, ⟨hm.os.trans h.kept.os, hm.tape.trans h.kept.tape, hm.output.trans h.kept.output, Nat.le_trans hz hm.size, fun k hk hs => (hm.block k (Nat.lt_of_lt_of_le hk hz) (fun hx => by have := h.far k hx; omega)).trans (h.kept.block k hk hs)⟩, row_keep h.box hm (fun hx => by have := h.far nb hx; omega)⟩
  rcases (hX k hk).1 with h1 | h1
  · exact h.far k h1
  · omega
end Go.Proofs.YtfgnpdfdncnbfaaGreatDoor

namespace Go.Proofs.YtfgnpdfdncnbfaaGreatDoor

def cnt (N : Nat) (p : Nat → Bool) : Nat := (List.range N).countP p
theorem cnt_succ (N : Nat) (p : Nat → Bool) : cnt (N + 1) p = cnt N p + if p N then 1 else 0 := by
  unfold cnt
  rw [List.range_succ, List.countP_append]
  simp [List.countP_cons]
theorem cnt_zero (p : Nat → Bool) : cnt 0 p = 0 := rfl
theorem cnt_in (a b : Nat) : ∀ N, cnt N (fun r => decide (a ≤ r ∧ r ≤ b)) = min N (b + 1) - a
  | 0 => by rw [cnt_zero]; omega
  | N + 1 => by
    rw [cnt_succ, cnt_in a b N]
    by_cases h : a ≤ N ∧ N ≤ b
    · simp only [h, and_self, decide_true, if_true]; omega
    · simp only [h, decide_false, Bool.false_eq_true, if_false]; omega
theorem cnt_or {p q : Nat → Bool} : ∀ N, (∀ r, r < N → ¬ (p r = true ∧ q r = true)) → cnt N (fun r => p r || q r) = cnt N p + cnt N q
  | 0, _ => rfl
  | N + 1, h => by
    rw [cnt_succ, cnt_succ, cnt_succ, cnt_or N fun r hr => h r (by omega)]
    have := h N (by omega)
    cases hp : p N <;> cases hq : q N <;> simp_all <;> omega
theorem cnt_le_or {p q : Nat → Bool} : ∀ N, cnt N p ≤ cnt N (fun r => p r || q r) ∧ cnt N q ≤ cnt N (fun r => p r || q r) ∧ cnt N (fun r => p r || q r) ≤ cnt N p + cnt N q
  | 0 => by simp [cnt_zero]
  | N + 1 => by
    have := cnt_le_or (p := p) (q := q) N
    rw [cnt_succ, cnt_succ, cnt_succ]
    cases hp : p N <;> cases hq : q N <;> simp_all <;> omega
theorem cnt_same {p q : Nat → Bool} (h : ∀ r, p r = q r) (N : Nat) : cnt N p = cnt N q := by
  rw [show p = q from funext h]
def saysB (m : List Rng) (r : Nat) : Bool := (findL m (r : Nat)).isSome
theorem says_iff {m : List Rng} {r : Int} : (findL m r).isSome = true ↔ ∃ x ∈ m, x.1 ≤ r ∧ r ≤ x.2.1 := by
  induction m with
  | nil => simp [findL]
  | cons x m ih =>
    unfold findL
    by_cases h : x.1 ≤ r ∧ r ≤ x.2.1
    · rw [if_pos h]; simp [h]
    · rw [if_neg h, ih]; simp [h]
theorem foldl_sum (l : List Rng) : ∀ n : Int, l.foldl (fun n x => n + (x.2.1 - x.1 + 1)) n = n + sumL l := by
  unfold sumL
  induction l with
  | nil => intro n; simp
  | cons x l ih => intro n; rw [List.foldl_cons, List.foldl_cons, ih, ih (0 + _)]; omega
theorem sum_cons (x : Rng) (l : List Rng) : sumL (x :: l) = (x.2.1 - x.1 + 1) + sumL l := by
  have h := foldl_sum l (0 + (x.2.1 - x.1 + 1))
  unfold sumL at h ⊢
  rw [List.foldl_cons, h]
  omega
theorem sum_cnt : ∀ m : List Rng, mapL m → sumL m = (cnt 1114112 (saysB m) : Nat)
  | [], _ => by
    have : ∀ N, cnt N (saysB []) = 0 := fun N => by
      induction N with
      | zero => rfl
      | succ N ih => rw [cnt_succ, ih]; rfl
    rw [this]; rfl
  | x :: m, h => by
    have hm : mapL m := ⟨fun y hy => h.1 y (List.mem_cons_of_mem _ hy), (List.pairwise_cons.1 h.2).2⟩
    have hx := h.1 x List.mem_cons_self
    unfold okR at hx
    have hs : ∀ r, saysB (x :: m) r = ((fun r : Nat => decide (x.1.toNat ≤ r ∧ r ≤ x.2.1.toNat)) r || saysB m r) := fun r => by
      unfold saysB
      rw [findL]
      by_cases hr : x.1 ≤ (r : Int) ∧ (r : Int) ≤ x.2.1
      · rw [if_pos hr]
        have : x.1.toNat ≤ r ∧ r ≤ x.2.1.toNat := by omega
        show (some x.2.2).isSome = (decide (x.1.toNat ≤ r ∧ r ≤ x.2.1.toNat) || _)
        rw [decide_eq_true this]
        rfl
      · rw [if_neg hr]
        have : ¬ (x.1.toNat ≤ r ∧ r ≤ x.2.1.toNat) := by omega
        show _ = (decide (x.1.toNat ≤ r ∧ r ≤ x.2.1.toNat) || _)
        rw [decide_eq_false this, Bool.false_or]
    rw [cnt_same hs, cnt_or, cnt_in, sum_cons, sum_cnt m hm]
    · omega
    · rintro r hr ⟨h1, h2⟩
      obtain ⟨y, hy, h3, h4⟩ := says_iff.1 h2
      have h5 := (List.pairwise_cons.1 h.2).1 y hy
      simp only [decide_eq_true_eq] at h1
      omega
/-- One map over another one says something of no fewer numbers than each, and of no more than both together. -/
theorem over_counts {a b c : List Rng} (ha : rightL a) (hb : rightL b) (hc : rightL c) (h : ∀ r, findL c r = (findL b r).or (findL a r)) : countL a ≤ countL c ∧ countL b ≤ countL c ∧ countL c ≤ countL a + countL b := by
  unfold countL
  rw [if_pos ha, if_pos hb, if_pos hc, sum_cnt a ha.1, sum_cnt b hb.1, sum_cnt c hc.1]
  have hs : ∀ r, saysB c r = (saysB b r || saysB a r) := fun r => by
    unfold saysB
    rw [h]
    simp
  rw [cnt_same hs]
  have := cnt_le_or (p := saysB b) (q := saysB a) 1114112
  omega
end Go.Proofs.YtfgnpdfdncnbfaaGreatDoor

namespace Go.Proofs.YtfgnpdfdncnbfaaGreatDoor

theorem find_perm {l a : List Rng} (hp : a.Perm l) (ha : mapL a) (r : Int) : findL a r = findL l r := by
  cases hf : findL l r with
  | none => exact findL_none' fun x hx => findL_none hf x (hp.mem_iff.1 hx)
  | some v =>
    obtain ⟨x, hx, h1, h2, rfl⟩ := findL_some hf
    exact find_mem ha (hp.mem_iff.2 hx) h1 h2
theorem map_unique {a b : List Rng} (ha : mapL a) (hb : mapL b) (h : a.Perm b) : a = b := by
  refine List.Perm.eq_of_pairwise (fun x y hx hy h1 h2 => ?_) ha.2 hb.2 h
  have k1 := ha.1 x hx
  have k2 := hb.1 y hy
  unfold okR at k1 k2
  omega
def apart (x y : Rng) : Prop := x.2.1 < y.1 ∨ y.2.1 < x.1
theorem apart_of {l a : List Rng} (ha : mapL a) (hp : a.Perm l) : l.Pairwise apart :=
  (hp.pairwise_iff (fun h => h.symm)).1 (ha.2.imp fun h => .inl h)
theorem lap_not {l a m : List Rng} {i : Nat} {x : Rng} (ha : mapL a) (hp : a.Perm l) (hx : l[i]? = some x) (hm : m.Perm (l.take i)) (hl : lapL m x) : False := by
  obtain ⟨y, hy, h1, h2⟩ := hl
  have hy2 := hm.mem_iff.1 hy
  obtain ⟨j, hj, hjy⟩ := List.mem_take_iff_getElem.1 hy2
  obtain ⟨hi, hix⟩ := List.getElem?_eq_some_iff.1 hx
  have h3 := (List.pairwise_iff_getElem.1 (apart_of ha hp)) j i (by omega) hi (by omega)
  rw [hjy, hix] at h3
  unfold apart at h3
  omega
theorem chk_perm {l m : List Rng} (hp : m.Perm l) : chkL m = none ↔ chkL l = none := by
  rw [chk_ok, chk_ok, hp.length_eq]
  refine and_congr_left fun _ => ⟨fun h y hy => h y (hp.mem_iff.2 hy), fun h y hy => h y (hp.mem_iff.1 hy)⟩
/-- What Sort answers, but for the place that it tells. -/
def SortC (l a : List Rng) (e : Int) : Prop :=
  (e = 22 ∧ a = [] ∧ chkL l ≠ none) ∨ (e = 30 ∧ a = [] ∧ chkL l = none ∧ ¬ ∃ b, mapL b ∧ b.Perm l) ∨ (e = 0 ∧ chkL l = none ∧ mapL a ∧ a.Perm l)
theorem sort_c {l : List Rng} {w w' : World} {e : Ending} (h : SortP l w e w') :
    ∃ (o : Option Addr) (a : List Rng) (i : Int) (c : Int), e = .returned (.tuple #[.slice o a.length a.length, .int .i64 i, .int .i64 c]) ∧ AtR w' o a ∧ SortC l a c := by
  rcases h.2 with ⟨i, h3, rfl⟩ | ⟨h3, i, x, m, h4, h5, h6, h7, rfl⟩ | ⟨h3, m, o, h4, h5, rfl, h6⟩
  · exact ⟨none, [], i, 22, rfl, fun h => absurd h (Nat.not_lt_zero _), .inl ⟨rfl, rfl, by rw [h3]; simp⟩⟩
  · exact ⟨none, [], i, 30, rfl, fun h => absurd h (Nat.not_lt_zero _), .inr (.inl ⟨rfl, rfl, h3, fun ⟨b, hb, hp⟩ => lap_not hb hp h4 h6 h7⟩)⟩
  · exact ⟨o, m, 0, 0, rfl, h6, .inr (.inr ⟨rfl, h3, h4, h5⟩)⟩
theorem sort_c_perm {l m a b : List Rng} {e f : Int} (hp : m.Perm l) (ha : SortC l a e) (hb : SortC m b f) : e = f ∧ a = b := by
  have hc := chk_perm hp
  rcases ha with ⟨rfl, rfl, h1⟩ | ⟨rfl, rfl, h1, h2⟩ | ⟨rfl, h1, h2, h3⟩ <;> rcases hb with ⟨rfl, rfl, k1⟩ | ⟨rfl, rfl, k1, k2⟩ | ⟨rfl, k1, k2, k3⟩
  · exact ⟨rfl, rfl⟩
  · exact absurd (hc.1 k1) h1
  · exact absurd (hc.1 k1) h1
  · exact absurd (hc.2 h1) k1
  · exact ⟨rfl, rfl⟩
  · exact absurd ⟨b, k2, k3.trans hp⟩ h2
  · exact absurd (hc.2 h1) k1
  · exact absurd ⟨a, h2, h3.trans hp.symm⟩ k2
  · exact ⟨rfl, map_unique h2 k2 (h3.trans (hp.symm.trans k3.symm))⟩
theorem lay_says1 {l b : List Rng} (h : isLay [l] b) (r : Int) : findL b r = findL l r := by
  have := h.2.2 r
  simpa only [saidL, Option.none_or] using this
theorem lay_says2 {a m b : List Rng} (h : isLay [a, m] b) (r : Int) : findL b r = (findL m r).or (findL a r) := by
  have := h.2.2 r
  simpa only [saidL, Option.none_or] using this
theorem lay_once {l a b : List Rng} (ha : isLay [l] a) (hb : isLay [a] b) : b = a :=
  isLay_unique hb ⟨ha.1, ha.2.1, fun r => by simp only [saidL, Option.none_or]⟩
theorem lay_self {l a b : List Rng} (ha : isLay [l] a) (hb : isLay [l, l] b) : b = a :=
  isLay_unique hb ⟨ha.1, ha.2.1, fun r => by
    rw [lay_says1 ha r]
    simp only [saidL, Option.none_or]
    cases findL l r <;> rfl⟩
theorem lay_nil1 {l a b : List Rng} (ha : isLay [l] a) (hb : isLay [[], l] b) : b = a :=
  isLay_unique hb ⟨ha.1, ha.2.1, fun r => by
    rw [lay_says1 ha r]
    simp only [saidL, Option.none_or, findL, Option.or_none]⟩
theorem lay_nil2 {l a b : List Rng} (ha : isLay [l] a) (hb : isLay [l, []] b) : b = a :=
  isLay_unique hb ⟨ha.1, ha.2.1, fun r => by
    rw [lay_says1 ha r]
    simp only [saidL, Option.none_or, findL]⟩
theorem count_lay {l a : List Rng} (hr : rightL l) (hra : rightL a) (ha : isLay [l] a) : countL a = countL l := by
  have h := over_counts (a := l) (b := []) (c := a) hr ⟨⟨fun x hx => by simp at hx, List.Pairwise.nil⟩, by simp⟩ hra (fun r => by rw [lay_says1 ha r]; simp [findL])
  have h0 : countL [] = 0 := by rfl
  omega
end Go.Proofs.YtfgnpdfdncnbfaaGreatDoor

namespace Go.Proofs.YtfgnpdfdncnbfaaGreatDoor
open Go.RowKit Go.Shelf Go.Maps

theorem add_in {w : World} {g off : Nat} {l : List Rng} (hc : ∀ (j : Nat) (x : Rng), l[j]? = some x →
    w.cell? ⟨g, off + j * 3, none⟩ = some (.int .i64 x.1) ∧ w.cell? ⟨g, off + j * 3 + 1, none⟩ = some (.int .i64 x.2.1) ∧ w.cell? ⟨g, off + j * 3 + 2, none⟩ = some (.int .i64 x.2.2)) :
    ∀ j u, (cellsR l)[j]? = some u → w.cell? ((⟨g, off, none⟩ : Addr).add j) = some u := by
  intro j u hj
  have hadd : (⟨g, off, none⟩ : Addr).add j = ⟨g, off + j, none⟩ := by unfold Addr.add; split <;> simp_all
  rw [hadd]
  have hlt := (List.getElem?_eq_some_iff.1 hj).1
  rw [cellsR_length] at hlt
  obtain ⟨x, hx⟩ : ∃ x, l[j / 3]? = some x := ⟨_, List.getElem?_eq_getElem (by omega)⟩
  obtain ⟨h0, h1, h2⟩ := hc _ x hx
  obtain ⟨c0, c1, c2⟩ := cellsR_get hx
  have hm : j % 3 = 0 ∨ j % 3 = 1 ∨ j % 3 = 2 := by omega
  rcases hm with h | h | h
  · rw [show j / 3 * 3 = j from by omega] at c0 h0
    rw [c0] at hj; cases hj; exact h0
  · rw [show j / 3 * 3 + 1 = j from by omega] at c1
    rw [show off + j / 3 * 3 + 1 = off + j from by omega] at h1
    rw [c1] at hj; cases hj; exact h1
  · rw [show j / 3 * 3 + 2 = j from by omega] at c2
    rw [show off + j / 3 * 3 + 2 = off + j from by omega] at h2
    rw [c2] at hj; cases hj; exact h2
/-- A value of an ownN row, as a slice. -/
theorem own_slice {W : World} {base k : Nat} {v : Value} {xs : List Value} (h : W.ownsRow base 53 3 v k xs) : ∃ o cap, v = .slice o k cap := by
  rcases h.2 with ⟨rfl, rfl⟩ | ⟨g, cap, cur, rfl, _⟩
  · exact ⟨none, 0, rfl⟩
  · exact ⟨_, cap, rfl⟩
theorem app_none (W : World) (v : Value) {k : Nat} {base : Nat} {xs : List Value} (ho : W.ownsRow base 53 3 v k xs) (c : Nat) :
    (appSem #[26, 26] 26 #[v, .slice none 0 c]).run Tryz.prog W = .ok v W := by
  obtain ⟨i0, hi, hz0, hz1, hz2⟩ := info_parts infoRng
  rcases ho.2 with ⟨rfl, rfl⟩ | ⟨g, cap, cur, rfl, _, _, hnc, _, _, _⟩
  · simp [appSem, Builtin.append_, run_underlying Tryz.underlying26, sizeOf, typeInfo, hi, Builtin.lenOf, Builtin.firstCells]
  · simp [appSem, Builtin.append_, run_underlying Tryz.underlying26, sizeOf, typeInfo, hi, Builtin.lenOf, Builtin.firstCells, loadCells, storeCells, hnc]
theorem rngs_own {W : World} {base k : Nat} {v : Value} {xs : List Value} (l : List Rng) (o : Option Addr) (c : Nat) (hA : AtR W o l) (ho : W.ownsRow base 53 3 v k xs) (hk : k + l.length ≤ 100000) (hbase : base ≤ W.heap.size) :
    ∃ o' cap w6, (appSem #[26, 26] 26 #[v, .slice o l.length c]).run Tryz.prog W = .ok (.slice o' (k + l.length) cap) w6 ∧
      w6.ownsRow base 53 3 (.slice o' (k + l.length) cap) (k + l.length) (xs ++ cellsR l) ∧ W.grownBy w6 v.ownBlock ∧ ((Value.slice o' (k + l.length) cap).ownBlock = v.ownBlock ∨ (Value.slice o' (k + l.length) cap).ownBlock = some W.heap.size) := by
  obtain ⟨i0, hi, hz0, hz1, hz2⟩ := info_parts infoRng
  have main : ∀ a : Addr, (∀ j u, (cellsR l)[j]? = some u → W.cell? (a.add j) = some u) → o = some a → ∃ o' cap w6, (appSem #[26, 26] 26 #[v, .slice o l.length c]).run Tryz.prog W = .ok (.slice o' (k + l.length) cap) w6 ∧
      w6.ownsRow base 53 3 (.slice o' (k + l.length) cap) (k + l.length) (xs ++ cellsR l) ∧ W.grownBy w6 v.ownBlock ∧ ((Value.slice o' (k + l.length) cap).ownBlock = v.ownBlock ∨ (Value.slice o' (k + l.length) cap).ownBlock = some W.heap.size) := by
    rintro a hc rfl
    obtain ⟨v', w6, hr, h2, h3, _, h5⟩ := run_append_own_at (P := Tryz.prog) W base 26 26 53 i0 (rngV (0, 0, 0)) 3 24 Tryz.underlying26 hi hz0 hz1 hz2 rfl (by decide) v k xs ho a l.length c (cellsR l) (cellsR_length l) hc (cellsR_one' _) (by unfold maxLen; omega) (by omega) hbase
    obtain ⟨o', cap, rfl⟩ := own_slice h2
    exact ⟨o', cap, w6, hr, h2, h3, h5⟩
  rcases Nat.eq_zero_or_pos l.length with h0 | h0
  · obtain rfl := List.eq_nil_of_length_eq_zero h0
    cases o with
    | none =>
      obtain ⟨o', cap, rfl⟩ := own_slice ho
      exact ⟨o', cap, W, app_none W _ ho c, by simpa [cellsR] using ho, ⟨rfl, rfl, rfl, Nat.le_refl _, fun _ _ _ => rfl⟩, .inl rfl⟩
    | some a => exact main a (fun j u hj => by simp [cellsR] at hj) rfl
  · obtain ⟨g, off, rfl, hc⟩ := hA h0
    exact main _ (add_in hc) rfl
end Go.Proofs.YtfgnpdfdncnbfaaGreatDoor

namespace Go.Proofs.YtfgnpdfdncnbfaaGreatDoor
open Go.RowKit Go.Shelf Go.Maps
attribute [local go_sem] Oper.semAt_some

/-- As SortPost; and where the answer lies. -/
def SortPostF (l : List Rng) (w : World) (e : Ending) (w' : World) : Prop :=
  Below w.heap.size w w' ∧ ((∃ i : Nat, chkL l = some i ∧ e = .returned (.tuple #[.slice none 0 0, faultV 22 (i : Nat)])) ∨
    (chkL l = none ∧ ∃ (i : Nat) (x : Rng) (m : List Rng), l[i]? = some x ∧ mapL m ∧ m.Perm (l.take i) ∧ lapL m x ∧ e = .returned (.tuple #[.slice none 0 0, faultV 30 (i : Nat)])) ∨
    (chkL l = none ∧ ∃ (m : List Rng) (o : Option Addr), mapL m ∧ m.Perm l ∧ e = .returned (.tuple #[.slice o m.length m.length, .nilIface]) ∧ AtR w' o m ∧ ∀ k, inB o k → w.heap.size ≤ k))
set_option maxRecDepth 100000 in
set_option maxHeartbeats 2000000 in
theorem sorted_ff_any (o : Option Addr) (l : List Rng) (cap : Nat) (hn : l.length ≤ 10000) (w : World) (hA : AtR w o l) :
    Calls Tryz.prog 94 #[chartV o l.length cap] w (SortPostF l w) := by
  refine (callsIn_wide (n := 6)).1 ?_
  have h1 : 1 ≤ 6 := by omega
  refine callsIn_of_wp_marks Tryz.func94 rfl trivial ?_ rfl
  simp only [Tryz.ntmps94, List.size_toArray, List.length_cons, List.length_nil, Nat.reduceAdd, Nat.reduceSub, Array.replicate_succ, Array.replicate_zero, List.push_toArray, List.append_toArray, List.nil_append, List.cons_append]
  obtain ⟨P, hP⟩ : ∃ P, SortPostF l w = P := ⟨_, rfl⟩
  have HP := Lib.hid hP
  rw [hP]
  obtain ⟨w1, hw1⟩ : ∃ w1, (w.alloc (chartO o l.length cap)).alloc (layerO none 0 0) = w1 := ⟨_, rfl⟩
  have B1 : Below w.heap.size w w1 := by rw [← hw1]; exact ((Below.refl _ _).alloc (Nat.le_refl _) _).alloc (by simp) _
  have z1 : w1.heap.size = w.heap.size + 2 := by rw [← hw1]; simp
  have r1 : w1.heap[w.heap.size]? = some (chartO o l.length cap) := by rw [← hw1, Below.heap_alloc _ _ _ (by simp)]; exact heap_alloc_new _ _
  have l1 : w1.heap[w.heap.size + 1]? = some (layerO none 0 0) := by rw [← hw1]; have := heap_alloc_new (w.alloc (chartO o l.length cap)) (layerO none 0 0); rwa [World.size_alloc] at this
  have hck := checked_any o l cap (by omega) w1 (hA.below B1)
  obtain ⟨n, hnn⟩ : ∃ n, l.length = n := ⟨_, rfl⟩
  have HN := Lib.hid hnn
  rw [hnn] at hck r1 hw1 hn ⊢
  have HA := Lib.hid hA
  have HW1 := Lib.hid hw1
  have HB1 := Lib.hid B1
  have HR1 := Lib.hid r1
  have HL1 := Lib.hid l1
  obtain ⟨C, hC⟩ : ∃ C, chkL l = C := ⟨_, rfl⟩
  rw [hC] at hck
  have HC := Lib.hid hC
  have HCK := Lib.hid hck
  clear hP hA hw1 B1 r1 l1 hck hC hnn
  gi_wp2_with fail
  refine wpIn_wide.2 (wp_scope_forth 0 rfl ((wpIn_wide (n := 6)).1 ?_))
  gi_wp2_with fail
  rw [HW1.out]
  refine ⟨trivial, (callsIn_wide.2 HCK.out).mono ?_⟩
  rintro e w2 ⟨rfl, b2⟩
  have c2 : w2.cell? ⟨w.heap.size, 0, none⟩ = some (.slice o n cap) := by rw [cell_of_row _ _ 0 _ _ _ (row_below HR1.out b2)]; rfl
  have HL2 := Lib.hid (row_below HL1.out b2)
  have HB2 := Lib.hid (HB1.out.trans (b2.mono (by omega)))
  have hz2 := b2.size
  clear b2 HCK HL1 HR1 HB1 HW1
  cases C with
  | some i =>
    have b3 : Below w.heap.size w (w2.alloc (.cells #[faultV 22 (i : Nat)] 55)) := HB2.out.alloc HB2.out.size _
    have HPP : Hid (∀ q, P (.returned (.tuple #[.slice none 0 0, faultV 22 (i : Nat)])) ((w2.alloc (.cells #[faultV 22 (i : Nat)] 55)).drewN q)) := by
      rw [← HP.out]
      exact Lib.hid fun q => ⟨Moves.below (Below.refl _ _) (Nat.le_refl _) (moves_drewN (fun _ => False) _ _) (fun k h => h.elim) |> fun h => b3.trans (h.mono b3.size), .inl ⟨i, HC.out, rfl⟩⟩
    rw [show errC (some i) = faultV 22 (i : Nat) from rfl]
    clear b3
    gi_wp2
    refine wpIn_goto ?_
    simp only [Exit.then]
    show Exit.jump _ _ _ _ _ _
    simp only [Exit.jump, true_and]
    go_wp2_with fail
    go_quiet (fail)
    go_wp2
    rw [Exit.noGoto_ret]
    exact ⟨_, results_tmp2 (t := 2) (u := 3) rfl _ _ _, HPP.out _⟩
  | none =>
    have hnb : ∀ k, 0 < l.length → inB o k → k < w.heap.size := fun k h0 hk => HA.out.lt h0 hk
    rw [show errC none = .nilIface from rfl]
    have c3 : (w2.alloc (.cells #[.nilIface] 55)).cell? ⟨w.heap.size, 0, none⟩ = some (.slice o n cap) := cell_keepN ((Below.refl _ _).alloc (Nat.le_refl _) _) c2
    gi_wp2_with fail
    refine ⟨trivial, (callsIn_wide.2 (ranges_any o n cap _)).mono ?_⟩
    rintro e w8 ⟨rfl, hw8⟩
    simp only [World.size_alloc] at hw8 ⊢
    have b28 : Below w2.heap.size w2 w8 := by rw [← hw8]; exact (((Below.refl _ _).alloc (Nat.le_refl _) _).alloc (by simp) _)
    have z8 : w8.heap.size = w2.heap.size + 2 := by rw [← hw8]; simp
    have E8 : Boxed w8 w2.heap.size 55 .nilIface := by
      rw [← hw8]
      have := Boxed.new w2 55 .nilIface
      exact this.alloc _
    have hb : w8.heap[w2.heap.size + 1]? = some (chartO o n cap) := by
      rw [← hw8]
      have := heap_alloc_new (w2.alloc (.cells #[.nilIface] 55)) (chartO o n cap)
      simpa using this
    have HB8 := Lib.hid (HB2.out.trans (b28.mono (by have := HB2.out.size; omega)))
    have A8 := HA.out.below HB8.out
    have L8 : w8.heap[w.heap.size + 1]? = some (layerO none 0 0) := row_below HL2.out b28
    have hlt : w.heap.size + 1 < w2.heap.size := (Array.getElem?_eq_some_iff.1 HL2.out).1
    have H0 : Hid (SortInv w8 (w.heap.size + 1) w2.heap.size l (fun _ => False) 0 w8 [] none 0 .nilIface) :=
      Lib.hid ⟨fun k h => h.elim, Moves.refl _ _, L8, E8, World.ownsRow_nil _ _ _ _, fun k hk => by simp [Value.ownBlock] at hk, ⟨fun x h => by simp at h, List.Pairwise.nil⟩, by simp⟩
    have HNB := Lib.hid hnb
    have HOK := Lib.hid (chk_ok.1 HC.out).1
    clear hw8 b28 E8 L8 hnb HL2
    gi_wp2_with fail
    refine wpIn_seqX (n := 6) (Ow := fun _ => False) (Dep := DepR (w2.heap.size + 1) o l) (encs := encR) (all := l.zipIdx) (by omega) rfl (enters_of Tryz.func86 (by kernel_rfl) rfl) (fun x => rfl) (seqRanges (by rw [HN.out]; omega) (by rw [HN.out]; exact hb) A8)
      (fun k h => h.elim) (fun k h => by rcases h with h | ⟨h0, h⟩; { omega }; { have := HNB.out k h0 h; omega })
      (fun X pre W => ∃ m o cap, SortInv w8 (w.heap.size + 1) w2.heap.size l X pre.length W m o cap .nilIface)
      (fun c X pre W => c = .goto 0 ∧ ∃ (i : Nat) (x : Rng) (m : List Rng), SortBad w8 (w.heap.size + 1) w2.heap.size X W i ∧ l[i]? = some x ∧ mapL m ∧ m.Perm (l.take i) ∧ lapL m x) ?hI ?hIx ?h0
      (fun b x => { tmps := #[chartV o n cap, .pointer (some ⟨w.heap.size, 0, none⟩), .slice none 0 0, .nilIface, .pointer (some ⟨w.heap.size + 1, 0, none⟩), .pointer (some ⟨w2.heap.size, 0, none⟩), .int .i64 (x.2 : Nat), .pointer (some ⟨b, 0, none⟩), chartV o n cap, .nilIface, .nilIface, .bool false, chartV o n cap, .func (.func 86) #[] #[.pointer (some ⟨w2.heap.size + 1, 0, none⟩)], .int .i64 (x.2 : Nat), rngV x.1, undef, undef, undef, undef, undef, undef, undef, undef, undef, undef, undef, undef, undef, undef, undef, undef, undef, undef, undef], defers := [] })
      (fun A x B => A.alloc (rngO x.1) = B) (fun A x B h => by rw [← h]; exact Moves.of_below ((Below.refl _ _).alloc (Nat.le_refl _) _)) ?assign ?body ?done ?stop
    case hI =>
      rintro X X' xs A B ⟨m, o, c, h⟩ hm hX
      exact ⟨m, o, c, h.moves (by omega) (by omega) hm hX⟩
    case hIx =>
      rintro c X X' xs A B ⟨rfl, i, x, m, h, h2⟩ hm hX
      exact ⟨rfl, i, x, m, h.moves (by omega) hm hX, h2⟩
    case h0 => exact ⟨[], none, 0, H0.out⟩
    case assign =>
      rintro l x A K hK
      gi_wp2
      rfl
    case body =>
      rintro lp X pre ⟨x, j⟩ A A' W1 hA1 hpx hAB hm hXn hXn1 hXlt ⟨m, o2, cap2, hI⟩
      obtain ⟨hj, hx, -⟩ := zip_pre hpx
      subst hj
      have hxb : W1.heap[A.heap.size]? = some (rngO x) := by
        have := heap_alloc_new A (rngO x)
        rw [hAB] at this
        exact row_keep this hm (by omega)
      obtain ⟨q0, q1, q2, _⟩ := rng_cells hxb
      have hXb : ∀ k, X k → k < W1.heap.size := fun k h => by have h1 := hXlt k h; have h2 := hm.size; rw [← hAB] at h2; simp at h2; omega
      have hz := hI.kept.size
      have hln : m.length = pre.length := by
        have h1 := hI.perm.length_eq
        have h2 := (List.getElem?_eq_some_iff.1 hx).1
        rw [List.length_take] at h1
        omega
      have hln2 : m.length ≤ 10000 := by have h2 := (List.getElem?_eq_some_iff.1 hx).1; rw [HN.out] at h2; omega
      have HP1 := Lib.hid (put_any x W1 hI.box hI.row hI.map hln2 hz)
      have HI := Lib.hid hI
      have HX := Lib.hid hx
      have HXB := Lib.hid hXb
      have nB : ∀ k, (k = w.heap.size + 1 ∨ k = w2.heap.size ∨ w8.heap.size ≤ k) → ¬ DepR (w2.heap.size + 1) o l k := fun k h hd => by
        rcases hd with hd | ⟨h0, hd⟩
        · omega
        · have := HNB.out k h0 hd; omega
      have HND := Lib.hid nB
      obtain ⟨a, b, v⟩ := x
      simp only at q0 q1 q2
      clear hI hx hpx hm hXlt hXn hXn1 hxb hAB hA1 hXb nB hln hln2
      gi_wp2_with fail
      refine ⟨trivial, CallsIn.inRound lp ((callsIn_wide.2 HP1.out).mono ?_)⟩
      rintro e W2 (⟨hlap, rfl, b2⟩ | ⟨hlap, rfl, g, cap3, hbox, hrow, hmv, hat⟩)
      · have hm2 : Moves (fun _ => False) W1 W2 := Moves.of_below b2
        have hE2 : Boxed W2 w2.heap.size 55 .nilIface := row_keep HI.out.eb hm2 id
        have ce2 : W2.cell? ⟨w2.heap.size, 0, none⟩ = some .nilIface := hE2.cell
        have fe2 : W2.frozen? ⟨w2.heap.size, 0, none⟩ = false := hE2.frozen
        have hm4 : Moves (fun k => k = w2.heap.size) W2 (W2.setCell ⟨w2.heap.size, 0, none⟩ (faultV 30 (pre.length : Nat))) := Moves.setCell rfl
        have HR : Hid (seqEndX (DepR (w2.heap.size + 1) o l) X (fun X pre W => ∃ m o cap, SortInv w8 (w.heap.size + 1) w2.heap.size l X pre.length W m o cap .nilIface) (fun c X pre W => c = .goto 0 ∧ ∃ (i : Nat) (x : Rng) (m : List Rng), SortBad w8 (w.heap.size + 1) w2.heap.size X W i ∧ l[i]? = some x ∧ mapL m ∧ m.Perm (l.take i) ∧ lapL m x) (pre ++ [((a, b, v), pre.length)]) W1 (.goto 0) ({ tmps := #[], defers := [] } : Act) (W2.setCell ⟨w2.heap.size, 0, none⟩ (faultV 30 (pre.length : Nat)))) :=
          Lib.hid ⟨(hm2.mono fun k h => h.elim).trans (hm4.mono fun k h => ⟨fun hx => by have := HI.out.far k hx; omega, HND.out k (by omega)⟩), rfl, pre.length, (a, b, v), m, ⟨HI.out.far, (HI.out.kept.far2 hm2 (fun k h => h.elim)).far2 hm4 (fun k h => .inl (.inr h)), hE2.set _⟩, HX.out, HI.out.map, HI.out.perm, hlap⟩
        clear hlap b2 hm2 hE2 hm4
        gi_wp2
        refine wpIn_goto ?_
        exact HR.out
      · have hne : ∀ k, (Value.slice o2 m.length cap2).ownBlock = some k → w8.heap.size ≤ k := fun k hk => (own_geN HI.out.row hk).1
        have hpl : (putAt m (a, b, v)).length = m.length + 1 := (put_map HI.out.map (HOK.out _ (List.mem_of_getElem? HX.out)) hlap).2.length_eq
        have HR : Hid (seqEndX (DepR (w2.heap.size + 1) o l) X (fun X pre W => ∃ m o cap, SortInv w8 (w.heap.size + 1) w2.heap.size l X pre.length W m o cap .nilIface) (fun c X pre W => c = .goto 0 ∧ ∃ (i : Nat) (x : Rng) (m : List Rng), SortBad w8 (w.heap.size + 1) w2.heap.size X W i ∧ l[i]? = some x ∧ mapL m ∧ m.Perm (l.take i) ∧ lapL m x) (pre ++ [((a, b, v), pre.length)]) W1 .normal ({ tmps := #[], defers := [] } : Act) W2) := by
          refine Lib.hid ⟨hmv.mono fun k h => ?_, putAt m (a, b, v), some ⟨g, 0, none⟩, cap3, HI.out.far, ?_, ?_, ?_, ?_, ?_, ?_, ?_⟩
          · rcases h with h | h
            · exact ⟨fun hx => by have := HI.out.far k hx; omega, HND.out k (.inl h)⟩
            · exact ⟨HI.out.notX k h, HND.out k (.inr (.inr (hne k h)))⟩
          · exact HI.out.kept.far2 hmv (fun k h => by rcases h with h | h; { exact .inl (.inl h) }; { exact .inr (hne k h) })
          · rw [hpl]; exact hbox
          · exact row_keep HI.out.eb hmv (fun h => by rcases h with h | h; { omega }; { have := hne _ h; omega })
          · rw [hpl]; exact hrow
          · intro k hk
            obtain rfl : g = k := by simpa [Value.ownBlock] using hk
            rcases hat with h | h
            · exact HI.out.notX _ h
            · intro hx; have := HXB.out _ hx; omega
          · exact (put_map HI.out.map (HOK.out _ (List.mem_of_getElem? HX.out)) hlap).1
          · rw [List.length_append, List.length_singleton, List.take_add_one, HX.out]
            exact (put_map HI.out.map (HOK.out _ (List.mem_of_getElem? HX.out)) hlap).2.trans ((HI.out.perm.cons _).trans (List.perm_append_singleton _ _).symm)
        clear hlap hbox hrow hmv hat hpl hne
        gi_wp2
        exact HR.out
    case done =>
      rintro X D W hD hXD ⟨m, o2, c, hI⟩ hX hK
      have hc := own_cap hI.row
      have hperm := hI.perm
      rw [List.length_zipIdx, List.take_length] at hperm
      have hm1 : Moves (fun k => k = D) W (W.putObj D (.deferred none)) := Moves.putObj rfl
      have hat : AtR (W.putObj D (.deferred none)) o2 m := (at_own hI.row).moves hm1 fun hp k hk e => by
        subst e
        rcases hI.row.2 with ⟨_, h0⟩ | ⟨g', cap', cur, hv, _, hg, _⟩
        · omega
        · obtain ⟨a, ha, hab⟩ := hk
          have he := (Value.slice.inj hv).1
          rw [he] at ha
          cases ha
          rw [← hab] at hK
          rw [hg] at hK
          cases hK
      have hpost : P (.returned (.tuple #[.slice o2 m.length m.length, .nilIface])) (W.putObj D (.deferred none)) := by
        rw [← HP.out]
        refine ⟨Moves.below HB8.out HB8.out.size ((hI.kept.mono (T := fun k => w.heap.size ≤ k) (fun k h => by omega)).trans (hm1.mono fun k h => by omega)) (fun k h => h), .inr (.inr ⟨HC.out, m, o2, hI.map, hperm, rfl, hat, fun k ⟨a, ha, hk⟩ => Nat.le_trans HB8.out.size (own_geN hI.row (k := k) (by rw [ha, ← hk]; simp [Value.ownBlock])).1⟩)⟩
      have cm : W.cell? ⟨w.heap.size + 1, 0, none⟩ = some (.slice o2 m.length c) := by rw [cell_of_row _ _ 0 _ _ _ hI.box]; rfl
      have HPP := Lib.hid hpost
      obtain ⟨n2, hnn⟩ : ∃ n2, m.length = n2 := ⟨_, rfl⟩
      rw [hnn] at cm hc HPP
      clear hpost hI hm1 hat hX hnn hperm
      gi_wp2
      simp only [Exit.jump]
      refine ⟨by simp, .inl ⟨_, _, rfl, run_takeDeferred hK, ?_⟩⟩
      exact ⟨_, results_tmp2 (t := 2) (u := 3) rfl _ _ _, HPP.out⟩
    case stop =>
      rintro X D c pre W hD hXD hpre ⟨rfl, i, x, m, hI, hx, hmap, hperm, hlap⟩ hX hK
      have hce : W.cell? ⟨w2.heap.size, 0, none⟩ = some (faultV 30 (i : Nat)) := hI.eb.cell
      have HPP : Hid (∀ q, P (.returned (.tuple #[.slice none 0 0, faultV 30 (i : Nat)])) ((W.drewN q).putObj D (.deferred none))) := by
        rw [← HP.out]
        refine Lib.hid fun q => ⟨Moves.below HB8.out HB8.out.size (((hI.kept.mono (T := fun k => w.heap.size ≤ k) (fun k h => by omega)).trans (moves_drewN _ W q)).trans (Moves.putObj (show w.heap.size ≤ D by omega))) (fun k h => h), .inr (.inl ⟨HC.out, i, x, m, hx, hmap, hperm, hlap, rfl⟩)⟩
      have HK := Lib.hid hK
      clear hI hx hmap hperm hlap hX
      refine wpIn_goto ?_
      simp only [Exit.inBlock, Exit.then]
      show Exit.jump _ _ _ _ _ _
      simp only [Exit.jump, true_and]
      go_wp2_with fail
      go_quiet (fail)
      go_wp2
      rw [Exit.noGoto_ret]
      have hK2 : (W.drewN nq).heap[D]? = some (.deferred (some [])) := HK.out
      refine ⟨by simp, .inl ⟨_, _, rfl, run_takeDeferred hK2, ?_⟩⟩
      exact ⟨_, results_tmp2 (t := 2) (u := 3) rfl _ _ _, HPP.out _⟩
/-- As SortP; and where the answer lies. -/
def SortPF (l : List Rng) (w : World) (e : Ending) (w' : World) : Prop :=
  Below w.heap.size w w' ∧ ((∃ i : Nat, chkL l = some i ∧ e = .returned (.tuple #[.slice none 0 0, .int .i64 (i : Nat), .int .i64 22])) ∨
    (chkL l = none ∧ ∃ (i : Nat) (x : Rng) (m : List Rng), l[i]? = some x ∧ mapL m ∧ m.Perm (l.take i) ∧ lapL m x ∧ e = .returned (.tuple #[.slice none 0 0, .int .i64 (i : Nat), .int .i64 30])) ∨
    (chkL l = none ∧ ∃ (m : List Rng) (o : Option Addr), mapL m ∧ m.Perm l ∧ e = .returned (.tuple #[.slice o m.length m.length, .int .i64 0, .int .i64 0]) ∧ AtR w' o m ∧ ∀ k, inB o k → w.heap.size ≤ k))
abbrev ToldSaysF (ev : Value) (i c : Int) (w : World) : Prop :=
  Calls Tryz.prog 43 #[ev] w fun e w' => e = .returned (.tuple #[.int .i64 i, .int .i64 c]) ∧ Below w.heap.size w w'
theorem sort_toldF {l : List Rng} {w w1 w2 : World} {e : Ending} (hG : w.cell? ⟨1, 0, none⟩ = some (rtIN 55)) (h1 : Below w.heap.size w w1) (h : SortPostF l w1 e w2) :
    ∃ so sn ev i c, e = .returned (.tuple #[.slice so sn sn, ev]) ∧ ToldSaysF ev i c w2 ∧ ∀ w3, Below w2.heap.size w2 w3 → SortPF l w (.returned (.tuple #[.slice so sn sn, .int .i64 i, .int .i64 c])) w3 := by
  have b2 : Below w.heap.size w w2 := h1.trans (h.1.mono h1.size)
  have hG2 := cell_keepN b2 hG
  rcases h.2 with ⟨i, h3, rfl⟩ | ⟨h3, i, x, m, h4, h5, h6, h7, rfl⟩ | ⟨h3, m, o, h4, h5, rfl, h6, h7⟩
  · exact ⟨none, 0, _, i, 22, rfl, told_fault 22 i w2 hG2, fun w3 b3 => ⟨b2.trans (b3.mono b2.size), .inl ⟨i, h3, rfl⟩⟩⟩
  · exact ⟨none, 0, _, i, 30, rfl, told_fault 30 i w2 hG2, fun w3 b3 => ⟨b2.trans (b3.mono b2.size), .inr (.inl ⟨h3, i, x, m, h4, h5, h6, h7, rfl⟩)⟩⟩
  · exact ⟨o, m.length, _, 0, 0, rfl, told_nilN w2, fun w3 b3 => ⟨b2.trans (b3.mono b2.size), .inr (.inr ⟨h3, m, o, h4, h5, rfl, h6.below b3, fun k hk => Nat.le_trans h1.size (h7 k hk)⟩)⟩⟩
set_option maxHeartbeats 1000000 in
theorem SortF_any (o : Option Addr) (l : List Rng) (cap : Nat) (hn : l.length ≤ 10000) (hc : l.length ≤ cap) (w : World) (hA : AtR w o l) (hG : w.cell? ⟨1, 0, none⟩ = some (rtIN 55)) :
    Calls Tryz.prog 73 #[.slice o l.length cap] w (SortPF l w) := by
  have h2 := Lib.hid (fun w1 (b1 : Below w.heap.size w w1) => sorted_ff_any o l l.length hn w1 (hA.below b1))
  have h1 := Lib.hid (chartOf_any o l.length cap hc w)
  have h3 := Lib.hid (fun w1 w2 e (b1 : Below w.heap.size w w1) (h : SortPostF l w1 e w2) => sort_toldF hG b1 h)
  obtain ⟨P, hP⟩ : ∃ P, SortPF l w = P := ⟨_, rfl⟩
  rw [hP] at h3 ⊢
  obtain ⟨n, hnn⟩ : ∃ n, l.length = n := ⟨_, rfl⟩
  rw [hnn] at h1 h2 ⊢
  clear hP hnn hA hG
  go_enter Tryz.func73, Tryz.ntmps73
  go_wp2_with fail
  refine h1.out.mono ?_
  rintro e w1 ⟨rfl, b1⟩
  have B1 := Lib.hid b1
  clear b1
  go_wp2_with fail
  refine (h2.out w1 B1.out).mono ?_
  rintro e w2 hs
  obtain ⟨so, sn, ev, i, c, rfl, ht, hpost⟩ := h3.out w1 w2 e B1.out hs
  have HT := Lib.hid ht
  have HP := Lib.hid hpost
  clear hs ht hpost
  go_wp2_with fail
  refine HT.out.mono ?_
  rintro e w3 ⟨rfl, b3⟩
  have HPP := Lib.hid (HP.out w3 b3)
  clear b3 HP
  go_wp2
  go_ret3
  exact HPP.out
end Go.Proofs.YtfgnpdfdncnbfaaGreatDoor

namespace Go.Proofs.YtfgnpdfdncnbfaaGreatDoor
open Go.RowKit Go.Shelf Go.Maps
attribute [local go_sem] Oper.semAt_some

theorem eq_int1 (d : Nat) (a b : Int) (w : World) : (Op.equalIn (d + 1) 3 (.int .i64 a) (.int .i64 b)).run Tryz.prog w = .ok (a == b) w := by
  simp [Op.equalIn, Sem.run_bind, run_underlying Tryz.underlying3 w]
theorem neq_rng (a b c a2 b2 c2 : Int) (w : World) : (binOp .neq 53 (.agg #[.int .i64 a, .int .i64 b, .int .i64 c]) (.agg #[.int .i64 a2, .int .i64 b2, .int .i64 c2])).run Tryz.prog w = .ok (.bool (!decide (((a, b, c) : Rng) = (a2, b2, c2)))) w := by
  have hf : Tryz.prog.stoodInHeld 53 = false := by kernel_rfl
  have hfs : (Tryz.prog.fieldsOf 53).toList.map (fun f => (f.name != "_", f.type, f.offset)) = [(true, 3, 0), (true, 3, 1), (true, 3, 2)] := by kernel_rfl
  have p0 : ∀ x y z : Int, (part 3 #[.int .i64 x, .int .i64 y, .int .i64 z] 0).run Tryz.prog w = .ok (.int .i64 x) w := fun x y z => by kernel_rfl
  have p1 : ∀ x y z : Int, (part 3 #[.int .i64 x, .int .i64 y, .int .i64 z] 1).run Tryz.prog w = .ok (.int .i64 y) w := fun x y z => by kernel_rfl
  have p2 : ∀ x y z : Int, (part 3 #[.int .i64 x, .int .i64 y, .int .i64 z] 2).run Tryz.prog w = .ok (.int .i64 z) w := fun x y z => by kernel_rfl
  have h2 : ∀ d, (Op.eqFields (d + 1) #[.int .i64 a, .int .i64 b, .int .i64 c] #[.int .i64 a2, .int .i64 b2, .int .i64 c2] (Tryz.prog.fieldsOf 53).toList).run Tryz.prog w = .ok (decide (((a, b, c) : Rng) = (a2, b2, c2))) w := by
    intro d
    generalize (Tryz.prog.fieldsOf 53).toList = fs at hfs
    rcases fs with _ | ⟨f, _ | ⟨g, _ | ⟨h, _ | ⟨i, fs⟩⟩⟩⟩
    · simp at hfs
    · simp at hfs
    · simp at hfs
    · simp only [List.map_cons, List.map_nil, List.cons.injEq, Prod.mk.injEq, and_true] at hfs
      obtain ⟨⟨e1, e2, e3⟩, ⟨f1, f2, f3⟩, g1, g2, g3⟩ := hfs
      have e1' : f.name ≠ "_" := by simpa using e1
      have f1' : g.name ≠ "_" := by simpa using f1
      have g1' : h.name ≠ "_" := by simpa using g1
      by_cases k1 : a = a2 <;> by_cases k2 : b = b2 <;> by_cases k3 : c = c2 <;>
        simp [Op.eqFields, e1', f1', g1', e2, e3, f2, f3, g2, g3, Sem.run_bind, p0, p1, p2, eq_int1, Result.andThen, Sem.run_pure, k1, k2, k3]
    · simp at hfs
  rw [run_neq_struct, run_equalIn_agg w 9999 53 _ _ (by kernel_rfl) hf, h2 9998]
  rfl
attribute [local go_sem high] neq_rng
theorem drewN_drewN (w : World) (a b : Nat) : (w.drewN a).drewN b = w.drewN (a + b) := World.drewN_drewN w a b
theorem moves_drewN3 (w : World) (q : Nat) : Moves (fun _ => False) w (w.drewN q) := by
  induction q with
  | zero => exact Moves.refl _ _
  | succ q ih => exact ih.drew
theorem below_drewN1 (w : World) (q : Nat) : Below w.heap.size w (w.drewN q) := Moves.below (Below.refl _ _) (Nat.le_refl _) (moves_drewN3 _ _) (fun _ h => h.elim)
theorem below_drewN2 (w : World) (q p : Nat) : Below w.heap.size w ((w.drewN q).drewN p) := by rw [drewN_drewN]; exact below_drewN1 _ _
theorem take_eqR {l l2 : List Rng} {j : Nat} {x y : Rng} (h : l.take j = l2.take j) (hx : l[j]? = some x) (hy : l2[j]? = some y) (hxy : x = y) : l.take (j + 1) = l2.take (j + 1) := by
  rw [List.take_add_one, List.take_add_one, hx, hy, h, hxy]
theorem neq_dec (a b v a2 b2 v2 : Int) : (!decide (a = a2) || (!decide (b = b2) || !decide (v = v2))) = !decide (((a, b, v) : Rng) = (a2, b2, v2)) := by
  by_cases h1 : a = a2 <;> by_cases h2 : b = b2 <;> by_cases h3 : v = v2 <;> simp [h1, h2, h3]
set_option maxRecDepth 100000 in
set_option maxHeartbeats 2000000 in
theorem equal_any (o o2 : Option Addr) (l l2 : List Rng) (cap cap2 : Nat) (hn : l.length ≤ 1000000) (w : World) (hA : AtR w o l) (hA2 : AtR w o2 l2) :
    Calls Tryz.prog 44 #[.slice o l.length cap, .slice o2 l2.length cap2] w fun e w' => e = .returned (.bool (decide (l = l2))) ∧ Below w.heap.size w w' := by
  obtain ⟨n, hnn⟩ : ∃ n, l.length = n := ⟨_, rfl⟩
  obtain ⟨n2, hnn2⟩ : ∃ n, l2.length = n := ⟨_, rfl⟩
  rw [hnn] at hn ⊢
  rw [hnn2]
  have HN := Lib.hid hnn
  have HN2 := Lib.hid hnn2
  have HA := Lib.hid hA
  have HA2 := Lib.hid hA2
  obtain ⟨P, hP⟩ : ∃ P, (fun (e : Ending) w' => e = .returned (.bool (decide (l = l2))) ∧ Below w.heap.size w w') = P := ⟨_, rfl⟩
  have HP := Lib.hid hP
  rw [hP]
  clear hP hA hA2 hnn hnn2
  go_enter Tryz.func44, Tryz.ntmps44
  by_cases hnl : n = n2
  · subst hnl
    go_wp2_with fail
    go_loopg [13] n (fun k v wr => ∃ (j q : Nat), v = .int .i64 (j : Nat) ∧ j ≤ n ∧ k = n - j ∧ l.take j = l2.take j ∧ wr = w.drewN q)
    case atStart => exact ⟨0, 0, rfl, Nat.zero_le _, rfl, rfl, rfl⟩
    case round =>
      obtain ⟨j, q, rfl, hj, rfl, htk, rfl⟩ := hrel
      rcases Nat.lt_or_ge j n with hlt | hge
      · have hj1 : j < 1000000 := by omega
        obtain ⟨x, hx⟩ : ∃ x, l[j]? = some x := ⟨_, List.getElem?_eq_getElem (by rw [HN.out]; exact hlt)⟩
        obtain ⟨y, hy⟩ : ∃ y, l2[j]? = some y := ⟨_, List.getElem?_eq_getElem (by rw [HN2.out]; exact hlt)⟩
        obtain ⟨g, off, rfl, hc⟩ := HA.out (by rw [HN.out]; omega)
        obtain ⟨k0, k1, k2⟩ := hc j x hx
        obtain ⟨g2, off2, rfl, hc2⟩ := HA2.out (by rw [HN2.out]; omega)
        obtain ⟨m0, m1, m2⟩ := hc2 j y hy
        have hg := World.block_lt_of_cell? w _ k0
        have hg2 := World.block_lt_of_cell? w _ m0
        have HX := Lib.hid hx
        have HY := Lib.hid hy
        have HT := Lib.hid htk
        obtain ⟨a, b, v⟩ := x
        obtain ⟨a2, b2, v2⟩ := y
        simp only at k0 k1 k2 m0 m1 m2
        clear hc hc2 hx hy htk
        go_wp2_with fail
        go_quiet (fail)
        rw [neq_dec]
        by_cases hxy : ((a, b, v) : Rng) = (a2, b2, v2)
        · have HT2 := Lib.hid (take_eqR HT.out HX.out HY.out hxy)
          rw [decide_eq_true hxy]
          clear hxy
          go_wp2
          go_roundg (n - (j + 1))
          case measure => omega
          case rel => exact ⟨j + 1, q + nq, by simp, by omega, rfl, HT2.out, rfl⟩
        · have HPP : Hid (P (.returned (.bool false)) ((w.drewN q).drewN nq)) := by
            rw [← HP.out]
            refine Lib.hid ⟨?_, below_drewN2 _ _ _⟩
            rw [decide_eq_false fun he => hxy ?_]
            have h1 := HX.out
            rw [he, HY.out] at h1
            exact (Option.some.inj h1).symm
          rw [decide_eq_false hxy]
          clear hxy
          go_wp2
          exact HPP.out
      · obtain rfl : j = n := by omega
        have HPP : Hid (P (.returned (.bool true)) (w.drewN q)) := by
          rw [← HP.out]
          refine Lib.hid ⟨?_, below_drewN1 _ _⟩
          have h := htk
          rw [List.take_of_length_le (by rw [HN.out]; exact Nat.le_refl _), List.take_of_length_le (by rw [HN2.out]; exact Nat.le_refl _)] at h
          rw [decide_eq_true h]
        clear htk
        go_wp2
        exact HPP.out
  · have HPP : Hid (P (.returned (.bool false)) w) := by
      rw [← HP.out]
      refine Lib.hid ⟨?_, Below.refl _ _⟩
      rw [decide_eq_false fun he => hnl ?_]
      rw [← HN.out, ← HN2.out, he]
    go_wp2
    exact HPP.out
set_option maxHeartbeats 1000000 in
theorem Same_any (o o2 : Option Addr) (l l2 : List Rng) (cap cap2 : Nat) (hn : l.length ≤ 1000000) (w : World) (hA : AtR w o l) (hA2 : AtR w o2 l2) :
    Calls Tryz.prog 26 #[.slice o l.length cap, .slice o2 l2.length cap2] w fun e w' => e = .returned (.bool (decide (l = l2))) ∧ Below w.heap.size w w' := by
  have h1 := Lib.hid (equal_any o o2 l l2 cap cap2 hn w hA hA2)
  obtain ⟨D, hD⟩ : ∃ D, decide (l = l2) = D := ⟨_, rfl⟩
  rw [hD] at h1 ⊢
  obtain ⟨n, hnn⟩ : ∃ n, l.length = n := ⟨_, rfl⟩
  obtain ⟨n2, hnn2⟩ : ∃ n, l2.length = n := ⟨_, rfl⟩
  rw [hnn, hnn2] at h1 ⊢
  clear hD hnn hnn2 hA hA2
  go_enter Tryz.func26, Tryz.ntmps26
  go_wp2_with fail
  refine h1.out.mono ?_
  rintro e w1 ⟨rfl, b1⟩
  have B1 := Lib.hid b1
  clear b1
  go_wp2
  go_ret
  exact ⟨rfl, B1.out⟩
end Go.Proofs.YtfgnpdfdncnbfaaGreatDoor

namespace Go.Proofs.YtfgnpdfdncnbfaaGreatDoor
open Go.RowKit Go.Shelf Go.Maps
attribute [local go_sem] Oper.semAt_some
attribute [local go_sem high] neq_rng

set_option maxRecDepth 100000 in
set_option maxHeartbeats 2000000 in
theorem refSame_any (o o2 : Option Addr) (l l2 : List Rng) (cap cap2 : Nat) (hn : l.length ≤ 1000000) (w : World) (hA : AtR w o l) (hA2 : AtR w o2 l2) :
    Calls Tryz.prog 19 #[.slice o l.length cap, .slice o2 l2.length cap2] w fun e w' => e = .returned (.bool (decide (l = l2))) ∧ Below w.heap.size w w' := by
  obtain ⟨n, hnn⟩ : ∃ n, l.length = n := ⟨_, rfl⟩
  obtain ⟨n2, hnn2⟩ : ∃ n, l2.length = n := ⟨_, rfl⟩
  rw [hnn] at hn ⊢
  rw [hnn2]
  have HN := Lib.hid hnn
  have HN2 := Lib.hid hnn2
  have HA := Lib.hid hA
  have HA2 := Lib.hid hA2
  obtain ⟨P, hP⟩ : ∃ P, (fun (e : Ending) w' => e = .returned (.bool (decide (l = l2))) ∧ Below w.heap.size w w') = P := ⟨_, rfl⟩
  have HP := Lib.hid hP
  rw [hP]
  clear hP hA hA2 hnn hnn2
  go_enter Tryz.func19, Tryz.ntmps19
  by_cases hnl : n = n2
  · subst hnl
    go_wp2_with fail
    go_loopg [5] n (fun k v wr => ∃ (j q : Nat), v = .int .i64 (j : Nat) ∧ j ≤ n ∧ k = n - j ∧ l.take j = l2.take j ∧ wr = w.drewN q)
    case atStart => exact ⟨0, 0, rfl, Nat.zero_le _, rfl, rfl, rfl⟩
    case round =>
      obtain ⟨j, q, rfl, hj, rfl, htk, rfl⟩ := hrel
      rcases Nat.lt_or_ge j n with hlt | hge
      · have hj1 : j < 1000000 := by omega
        obtain ⟨x, hx⟩ : ∃ x, l[j]? = some x := ⟨_, List.getElem?_eq_getElem (by rw [HN.out]; exact hlt)⟩
        obtain ⟨y, hy⟩ : ∃ y, l2[j]? = some y := ⟨_, List.getElem?_eq_getElem (by rw [HN2.out]; exact hlt)⟩
        obtain ⟨g, off, rfl, hc⟩ := HA.out (by rw [HN.out]; omega)
        obtain ⟨k0, k1, k2⟩ := hc j x hx
        obtain ⟨g2, off2, rfl, hc2⟩ := HA2.out (by rw [HN2.out]; omega)
        obtain ⟨m0, m1, m2⟩ := hc2 j y hy
        have hg := World.block_lt_of_cell? w _ k0
        have hg2 := World.block_lt_of_cell? w _ m0
        have HX := Lib.hid hx
        have HY := Lib.hid hy
        have HT := Lib.hid htk
        obtain ⟨a, b, v⟩ := x
        obtain ⟨a2, b2, v2⟩ := y
        simp only at k0 k1 k2 m0 m1 m2
        clear hc hc2 hx hy htk
        go_wp2_with fail
        go_quiet (fail)
        rw [neq_dec]
        by_cases hxy : ((a, b, v) : Rng) = (a2, b2, v2)
        · have HT2 := Lib.hid (take_eqR HT.out HX.out HY.out hxy)
          rw [decide_eq_true hxy]
          clear hxy
          go_wp2
          go_roundg (n - (j + 1))
          case measure => omega
          case rel => exact ⟨j + 1, q + nq, by simp, by omega, rfl, HT2.out, rfl⟩
        · have HPP : Hid (P (.returned (.bool false)) ((w.drewN q).drewN nq)) := by
            rw [← HP.out]
            refine Lib.hid ⟨?_, below_drewN2 _ _ _⟩
            rw [decide_eq_false fun he => hxy ?_]
            have h1 := HX.out
            rw [he, HY.out] at h1
            exact (Option.some.inj h1).symm
          rw [decide_eq_false hxy]
          clear hxy
          go_wp2
          exact HPP.out
      · obtain rfl : j = n := by omega
        have HPP : Hid (P (.returned (.bool true)) (w.drewN q)) := by
          rw [← HP.out]
          refine Lib.hid ⟨?_, below_drewN1 _ _⟩
          have h := htk
          rw [List.take_of_length_le (by rw [HN.out]; exact Nat.le_refl _), List.take_of_length_le (by rw [HN2.out]; exact Nat.le_refl _)] at h
          rw [decide_eq_true h]
        clear htk
        go_wp2
        exact HPP.out
  · have HPP : Hid (P (.returned (.bool false)) w) := by
      rw [← HP.out]
      refine Lib.hid ⟨?_, Below.refl _ _⟩
      rw [decide_eq_false fun he => hnl ?_]
      rw [← HN.out, ← HN2.out, he]
    go_wp2
    exact HPP.out
end Go.Proofs.YtfgnpdfdncnbfaaGreatDoor

namespace Go.Proofs.YtfgnpdfdncnbfaaGreatDoor
open Go.RowKit Go.Shelf Go.Maps
attribute [local go_sem] Oper.semAt_some

theorem sh_over : isLay [[(0, 9, 1)], [(3, 4, 2)]] [(0, 2, 1), (3, 4, 2), (5, 9, 1)] := by
  refine ⟨by decide, ?_, fun r => ?_⟩
  · rintro i x y hx hy
    rcases i with _ | _ | i
    · cases hx; cases hy; decide
    · cases hx; cases hy; decide
    · simp at hy
  · simp only [findL, saidL]
    by_cases h1 : 3 ≤ r ∧ r ≤ 4
    · rw [if_neg (by omega), if_pos h1, if_pos h1]; rfl
    · rw [if_neg h1, if_neg h1]
      by_cases h2 : 0 ≤ r ∧ r ≤ 9
      · rw [if_pos h2]
        by_cases h3 : r ≤ 2
        · rw [if_pos (by omega)]; rfl
        · rw [if_neg (by omega), if_pos (by omega)]; rfl
      · rw [if_neg h2, if_neg (by omega), if_neg (by omega)]; rfl
theorem perm_two {m : List Rng} {p q : Rng} (h : m.Perm [p, q]) (hm : mapL m) (hp : p.1 ≤ p.2.1) (hq : q.1 ≤ q.2.1) : (m = [p, q] ∧ p.2.1 < q.1) ∨ (m = [q, p] ∧ q.2.1 < p.1) := by
  have hl := h.length_eq
  match m, hl with
  | [x, y], _ =>
    have h1 : x.2.1 < y.1 := by have := hm.2; simpa using this
    have hx : x = p ∨ x = q := by have := h.mem_iff.1 (List.mem_cons_self); simpa using this
    have hy : y = p ∨ y = q := by have := h.mem_iff.1 (List.mem_cons_of_mem _ (List.mem_singleton_self _)); simpa using this
    rcases hx with rfl | rfl <;> rcases hy with rfl | rfl
    · omega
    · exact .inl ⟨rfl, h1⟩
    · exact .inr ⟨rfl, h1⟩
    · omega
theorem lap_nil {x : Rng} : ¬ lapL [] x := fun ⟨_, h, _⟩ => by simp at h
theorem lap_one {y x : Rng} (h : lapL [y] x) : y.1 ≤ x.2.1 ∧ x.1 ≤ y.2.1 := by
  obtain ⟨z, hz, h⟩ := h
  rw [List.mem_singleton.1 hz] at h
  exact h
theorem sh_sort {w w' : World} {e : Ending} (h : SortP [(5, 6, 0), (1, 2, 0)] w e w') : ∃ o, e = .returned (.tuple #[.slice o 2 2, .int .i64 0, .int .i64 0]) ∧ AtR w' o [(1, 2, 0), (5, 6, 0)] := by
  rcases h.2 with ⟨i, h3, _⟩ | ⟨_, i, x, m, h4, h5, h6, h7, _⟩ | ⟨_, m, o, h4, h5, rfl, h6⟩
  · exact absurd (h3.symm.trans (show chkL _ = none by decide)) (by simp)
  · rcases i with _ | _ | i
    · have := List.perm_nil.1 h6
      subst this
      exact absurd h7 lap_nil
    · have := List.perm_singleton.1 h6
      subst this
      cases h4
      have := lap_one h7
      simp at this
    · simp at h4
  · rcases perm_two h5 h4 (by decide) (by decide) with ⟨_, h⟩ | ⟨rfl, _⟩
    · simp at h
    · exact ⟨o, rfl, h6⟩
theorem sh_lap {w w' : World} {e : Ending} (h : SortP [(5, 6, 0), (1, 5, 0)] w e w') : e = .returned (.tuple #[.slice none 0 0, .int .i64 1, .int .i64 30]) := by
  rcases h.2 with ⟨i, h3, _⟩ | ⟨_, i, x, m, h4, h5, h6, h7, rfl⟩ | ⟨_, m, o, h4, h5, rfl, h6⟩
  · exact absurd (h3.symm.trans (show chkL _ = none by decide)) (by simp)
  · rcases i with _ | _ | i
    · have := List.perm_nil.1 h6
      subst this
      exact absurd h7 lap_nil
    · rfl
    · simp at h4
  · rcases perm_two h5 h4 (by decide) (by decide) with ⟨_, h⟩ | ⟨_, h⟩
    · simp at h
    · simp at h
theorem at_lit (w : World) (l : List Rng) (arr : Array Value) (hl : l.length ≤ 1000) (he : arr.toList = cellsR l) (hs : arr.size = l.length * 3) : AtR (w.alloc (.cells arr 53)) (some ⟨w.heap.size, 0, none⟩) l := by
  have h := World.ownsRow_lit (base := w.heap.size) (e := 53) (size := 3) w arr l.length (Nat.le_refl _) (by unfold maxLen; omega) hs
  rw [he] at h
  exact at_own h
end Go.Proofs.YtfgnpdfdncnbfaaGreatDoor
